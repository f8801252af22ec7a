import PyProof.Rows.All
import Wide.All
import OpenK.AllK
import Wide.FinOn
import Lean
import PyProof.EqAt
import PyProof.EqKinds
import PyProof.TupleCall
import PySem.Challenge.RW_realsay_k33_brackets_shown
import KE.IntBitsLaws
import KE.KRevIter
import PyProof.AutoListH
import PyProof.Rows.ZipGen
import PyProof.ZipIter
import PyProof.Rows.StrBin
import PyProof.ReprReads
set_option Elab.async false
set_option linter.all false
set_option maxRecDepth 100000
namespace DD
open PySem PySem.SeqAt
inductive D where
  | non | int (i : Int) | str (x : Str) | nil | cons (x y : D)
  deriving DecidableEq
def ofL : List D → D
  | [] => .nil
  | x :: r => .cons x (ofL r)
theorem ofL_inj : ∀ {xs ys : List D}, ofL xs = ofL ys → xs = ys
  | [], [], _ => rfl
  | [], _ :: _, h => nomatch h
  | _ :: _, [], h => nomatch h
  | x :: r, y :: s, h => by
    injection h with h1 h2
    rw [h1, ofL_inj h2]
def dep : D → Nat
  | .nil => 1
  | .cons x y => max (dep x + 1) (dep y)
  | _ => 0
def sz : D → Nat
  | .cons x y => sz x + sz y + 1
  | _ => 0
mutual
def Is (h : Heap) : D → Value → Prop
  | .non, v => v = .none
  | .int i, v => ∃ t, v = .int i t
  | .str x, v => ∃ t, v = .str x t
  | .nil, v => ∃ a, v = .ref a ∧ h.IsTuple a #[]
  | .cons x y, v => ∃ a v0 r, v = .ref a ∧ h.IsTuple a (v0 :: r).toArray ∧ Is h x v0 ∧ Are h y r
def Are (h : Heap) : D → List Value → Prop
  | .nil, r => r = []
  | .cons x y, r => ∃ v0 r', r = v0 :: r' ∧ Is h x v0 ∧ Are h y r'
  | _, _ => False
end
inductive All2 {α β : Type} (R : α → β → Prop) : List α → List β → Prop
  | nil : All2 R [] []
  | cons {a b l r} : R a b → All2 R l r → All2 R (a :: l) (b :: r)
theorem All2.length {α β : Type} {R : α → β → Prop} : ∀ {l : List α} {r : List β}, All2 R l r → l.length = r.length
  | _, _, .nil => rfl
  | _, _, .cons _ t => congrArg (· + 1) t.length
theorem All2.get {α β : Type} {R : α → β → Prop} : ∀ {l : List α} {r : List β}, All2 R l r → ∀ (i : Nat) (h1 : i < l.length) (h2 : i < r.length), R l[i] r[i]
  | _, _, .cons h _, 0, _, _ => h
  | _, _, .cons _ t, i + 1, h1, h2 => t.get i (Nat.lt_of_succ_lt_succ h1) (Nat.lt_of_succ_lt_succ h2)
theorem are_iff {h : Heap} : ∀ {d : D} {vs : List Value}, Are h d vs ↔ ∃ ds, d = ofL ds ∧ All2 (Is h) ds vs
  | .non, vs => ⟨fun z => by simp [Are] at z, fun ⟨ds, e, _⟩ => by cases ds <;> cases e⟩
  | .int i, vs => ⟨fun z => by simp [Are] at z, fun ⟨ds, e, _⟩ => by cases ds <;> cases e⟩
  | .str i, vs => ⟨fun z => by simp [Are] at z, fun ⟨ds, e, _⟩ => by cases ds <;> cases e⟩
  | .nil, vs => by
    constructor
    · intro z
      simp only [Are] at z
      subst z
      exact ⟨[], rfl, .nil⟩
    · rintro ⟨ds, e, a⟩
      cases ds with
      | nil => cases a; simp [Are]
      | cons x r => cases e
  | .cons x y, vs => by
    constructor
    · intro z
      simp only [Are] at z
      obtain ⟨v0, r, rfl, h1, h2⟩ := z
      obtain ⟨ds, e, a⟩ := are_iff.mp h2
      exact ⟨x :: ds, by rw [e]; rfl, .cons h1 a⟩
    · rintro ⟨ds, e, a⟩
      cases ds with
      | nil => cases e
      | cons z r =>
        cases e
        cases a with
        | cons h1 t =>
          simp only [Are]
          exact ⟨_, _, rfl, h1, are_iff.mpr ⟨r, rfl, t⟩⟩
theorem is_tup {h : Heap} {ds : List D} {v : Value} : Is h (ofL ds) v ↔ ∃ a its, v = .ref a ∧ h.IsTuple a its.toArray ∧ All2 (Is h) ds its := by
  cases ds with
  | nil =>
    simp only [ofL, Is]
    constructor
    · rintro ⟨a, rfl, t⟩
      exact ⟨a, [], rfl, t, .nil⟩
    · rintro ⟨a, its, rfl, t, al⟩
      cases al
      exact ⟨a, rfl, t⟩
  | cons x r =>
    simp only [ofL, Is]
    constructor
    · rintro ⟨a, v0, rr, rfl, t, h1, h2⟩
      obtain ⟨ds, e, al⟩ := are_iff.mp h2
      rw [ofL_inj e]
      exact ⟨a, v0 :: rr, rfl, t, .cons h1 al⟩
    · rintro ⟨a, its, rfl, t, al⟩
      cases al with
      | cons h1 al => exact ⟨a, _, _, rfl, t, h1, are_iff.mpr ⟨r, rfl, al⟩⟩
theorem tup_of {h : Heap} {d : D} {a : Addr} (z : Is h d (.ref a)) : ∃ ds, d = ofL ds := by
  cases d with
  | non => simp [Is] at z
  | int i => simp [Is] at z
  | str x => simp [Is] at z
  | nil => exact ⟨[], rfl⟩
  | cons x y =>
    simp only [Is] at z
    obtain ⟨_, _, _, _, _, _, h2⟩ := z
    obtain ⟨ds, e, _⟩ := are_iff.mp h2
    exact ⟨x :: ds, by rw [e]; rfl⟩
theorem sz_mem : ∀ {ds : List D} {x : D}, x ∈ ds → sz x < sz (ofL ds)
  | y :: r, x, h => by
    rcases List.mem_cons.mp h with rfl | h
    · show sz x < sz x + sz (ofL r) + 1
      omega
    · have := sz_mem h
      show sz x < sz y + sz (ofL r) + 1
      omega
theorem dep_mem : ∀ {ds : List D} {x : D}, x ∈ ds → dep x + 1 ≤ dep (ofL ds)
  | y :: r, x, h => by
    show dep x + 1 ≤ max (dep y + 1) (dep (ofL r))
    rcases List.mem_cons.mp h with rfl | h
    · omega
    · have := dep_mem h
      omega
theorem dep_tup : ∀ (ds : List D), 1 ≤ dep (ofL ds)
  | [] => Nat.le_refl 1
  | x :: r => by
    show 1 ≤ max (dep x + 1) (dep (ofL r))
    omega
theorem isTuple_inj {h : Heap} {a : Addr} {xs ys : List Value} (h1 : h.IsTuple a xs.toArray) (h2 : h.IsTuple a ys.toArray) : xs = ys := by
  obtain ⟨o, e, _, n, d⟩ := h1
  obtain ⟨o', e', _, n', d'⟩ := h2
  rw [e] at e'; cases e'
  rw [d] at d'
  injection d' with d1 _
  simpa using congrArg Array.toList d1
theorem is_inj {h : Heap} : ∀ (n : Nat) {d e : D} {v : Value}, sz d ≤ n → Is h d v → Is h e v → d = e := by
  intro n
  induction n with
  | zero =>
    intro d e v hn h1 h2
    cases d with
    | non => simp only [Is] at h1; subst h1; cases e <;> simp_all [Is]
    | int i => simp only [Is] at h1; obtain ⟨t, rfl⟩ := h1; cases e <;> simp_all [Is]
    | str i => simp only [Is] at h1; obtain ⟨t, rfl⟩ := h1; cases e <;> simp_all [Is]
    | nil =>
      obtain ⟨a, its, rfl, t, al⟩ := (is_tup (ds := [])).mp h1
      cases al
      obtain ⟨es, rfl⟩ := tup_of h2
      obtain ⟨a', its', e1, t', al'⟩ := is_tup.mp h2
      cases e1
      have := isTuple_inj t t'
      subst this
      cases al'
      rfl
    | cons x y => simp [sz] at hn
  | succ n ih =>
    intro d e v hn h1 h2
    cases d with
    | non => simp only [Is] at h1; subst h1; cases e <;> simp_all [Is]
    | int i => simp only [Is] at h1; obtain ⟨t, rfl⟩ := h1; cases e <;> simp_all [Is]
    | str i => simp only [Is] at h1; obtain ⟨t, rfl⟩ := h1; cases e <;> simp_all [Is]
    | nil =>
      obtain ⟨a, its, rfl, t, al⟩ := (is_tup (ds := [])).mp h1
      cases al
      obtain ⟨es, rfl⟩ := tup_of h2
      obtain ⟨a', its', e1, t', al'⟩ := is_tup.mp h2
      cases e1
      have := isTuple_inj t t'
      subst this
      cases al'
      rfl
    | cons x y =>
      obtain ⟨a, v0, r, rfl, t, a1, a2⟩ := (by simpa only [Is] using h1)
      obtain ⟨ds, rfl, al⟩ := are_iff.mp a2
      obtain ⟨es, rfl⟩ := tup_of h2
      obtain ⟨a', its', e1, t', al'⟩ := is_tup.mp h2
      cases e1
      have := isTuple_inj t t'
      subst this
      have key : ∀ (ds es : List D) (its : List Value), (∀ x ∈ ds, sz x ≤ n) → All2 (Is h) ds its → All2 (Is h) es its → ds = es := by
        intro ds
        induction ds with
        | nil => intro es its _ h1 h2; cases h1; cases h2; rfl
        | cons x r ihr =>
          intro es its hs h1 h2
          cases h1 with
          | cons p q =>
            cases h2 with
            | cons p' q' => rw [ih (hs x List.mem_cons_self) p p', ihr _ _ (fun z hz => hs z (List.mem_cons_of_mem _ hz)) q q']
      have := key (x :: ds) es (v0 :: r) (fun z hz => by
        have := sz_mem hz
        have e2 : sz (ofL (x :: ds)) = sz (D.cons x (ofL ds)) := rfl
        omega) (.cons a1 al) al'
      rw [← this]
      rfl
theorem Is.inj {h : Heap} {d e : D} {v : Value} (h1 : Is h d v) (h2 : Is h e v) : d = e := is_inj (sz d) (Nat.le_refl _) h1 h2
theorem all_dec {ds es : List D} : ((List.range (min ds.length es.length)).all (fun j => decide (ds[j]? = es[j]?)) && (ds.length == es.length)) = decide (ofL ds = ofL es) := by
  by_cases e : ds = es
  · subst e
    simp
  · have ne : ofL ds ≠ ofL es := fun z => e (ofL_inj z)
    rw [decide_eq_false ne]
    by_cases hl : ds.length = es.length
    · rw [Bool.and_eq_false_iff]
      left
      rw [List.all_eq_false]
      refine Classical.byContradiction fun hx => e ?_
      apply List.ext_getElem?
      intro i
      by_cases hi : i < min ds.length es.length
      · refine Classical.byContradiction fun hne => hx ⟨i, List.mem_range.mpr hi, by simpa using hne⟩
      · rw [List.getElem?_eq_none (by omega), List.getElem?_eq_none (by omega)]
    · rw [Bool.and_eq_false_iff]
      right
      simpa using hl
theorem eqAt_n : ∀ (n : Nat) {d e : D} {v u : Value} {A : Around} {s : Shared}, sz d ≤ n → Is s.heap d v → Is s.heap e u → A.units + dep d < cLine → A.units + dep e < cLine → EqAt A s v u (decide (d = e)) := by
  intro n
  induction n using Nat.strongRecOn with
  | _ n ih =>
  intro d e v u A s hn h1 h2 r1 r2
  have tt : ∀ (ds es : List D), (∀ x ∈ ds, ∀ (y : D) (v u : Value), y ∈ es → Is s.heap x v → Is s.heap y u → EqAt A.in1 s v u (decide (x = y))) → Is s.heap (ofL ds) v → Is s.heap (ofL es) u → A.units < cLine → EqAt A s v u (decide (ofL ds = ofL es)) := by
    intro ds es ihm k1 k2 hu
    obtain ⟨a, its, rfl, t, al⟩ := is_tup.mp k1
    obtain ⟨a', its', rfl, t', al'⟩ := is_tup.mp k2
    by_cases hab : a = a'
    · subst hab
      have := k1.inj k2
      rw [this, decide_eq_true rfl]
      exact EqAt.same _
    · have l1 := al.length
      have l2 := al'.length
      have hR := RcAt.tuples (e := fun j => decide (ds[j]? = es[j]?)) t t' hu (fun j q1 q2 => by
        have q1' : j < its.length := by simpa using q1
        have q2' : j < its'.length := by simpa using q2
        have j1 : j < ds.length := by omega
        have j2 : j < es.length := by omega
        have := ihm ds[j] (List.getElem_mem j1) es[j] its[j] its'[j] (List.getElem_mem j2) (al.get j j1 q1') (al'.get j j2 q2')
        rw [List.getElem?_eq_getElem j1, List.getElem?_eq_getElem j2]
        simp only [Option.some.injEq]
        simpa using this)
      have e2 := all_dec (ds := ds) (es := es)
      simp only [List.size_toArray] at hR
      rw [← l1, ← l2, e2] at hR
      exact EqAt.of_refs hab hR
  have hu : A.units < cLine := by omega
  cases d with
  | non =>
    simp only [Is] at h1
    subst h1
    cases e with
    | non => simp only [Is] at h2; subst h2; rw [decide_eq_true rfl]; exact EqAt.same _
    | int j => simp only [Is] at h2; obtain ⟨t, rfl⟩ := h2; rw [decide_eq_false (by simp)]; exact EqAt.none_int _ _
    | str j => simp only [Is] at h2; obtain ⟨t, rfl⟩ := h2; rw [decide_eq_false (by simp)]; exact EqAt.none_str _ _
    | nil => simp only [Is] at h2; obtain ⟨b, rfl, t⟩ := h2; rw [decide_eq_false (by simp)]; exact EqAt.none_tuple t hu
    | cons x y => simp only [Is] at h2; obtain ⟨b, _, _, rfl, t, _⟩ := h2; rw [decide_eq_false (by simp)]; exact EqAt.none_tuple t hu
  | int i =>
    simp only [Is] at h1
    obtain ⟨t1, rfl⟩ := h1
    cases e with
    | non => simp only [Is] at h2; subst h2; rw [decide_eq_false (by simp)]; exact EqAt.int_none _ _
    | int j =>
      simp only [Is] at h2; obtain ⟨t, rfl⟩ := h2
      have : decide (D.int i = D.int j) = (i == j) := by
        by_cases z : i = j
        · subst z; simp
        · rw [decide_eq_false (fun q => z (D.int.inj q))]; exact (beq_eq_false_iff_ne.mpr z).symm
      rw [this]; exact EqAt.int_int _ _ _ _
    | str j => simp only [Is] at h2; obtain ⟨t, rfl⟩ := h2; rw [decide_eq_false (by simp)]; exact EqAt.int_str _ _ _ _
    | nil => simp only [Is] at h2; obtain ⟨b, rfl, t⟩ := h2; rw [decide_eq_false (by simp)]; exact EqAt.int_tuple _ _ t hu
    | cons x y => simp only [Is] at h2; obtain ⟨b, _, _, rfl, t, _⟩ := h2; rw [decide_eq_false (by simp)]; exact EqAt.int_tuple _ _ t hu
  | str i =>
    simp only [Is] at h1
    obtain ⟨t1, rfl⟩ := h1
    cases e with
    | non => simp only [Is] at h2; subst h2; rw [decide_eq_false (by simp)]; exact EqAt.str_none _ _
    | int j => simp only [Is] at h2; obtain ⟨t, rfl⟩ := h2; rw [decide_eq_false (by simp)]; exact EqAt.str_int _ _ _ _
    | str j =>
      simp only [Is] at h2; obtain ⟨t, rfl⟩ := h2
      have : decide (D.str i = D.str j) = (i == j) := by
        by_cases z : i = j
        · subst z; simp
        · rw [decide_eq_false (fun q => z (D.str.inj q))]; exact (beq_eq_false_iff_ne.mpr z).symm
      rw [this]; exact EqAt.str_str _ _ _ _
    | nil => simp only [Is] at h2; obtain ⟨b, rfl, t⟩ := h2; rw [decide_eq_false (by simp)]; exact EqAt.str_tuple _ _ t hu
    | cons x y => simp only [Is] at h2; obtain ⟨b, _, _, rfl, t, _⟩ := h2; rw [decide_eq_false (by simp)]; exact EqAt.str_tuple _ _ t hu
  | nil =>
    cases e with
    | non => simp only [Is] at h1 h2; obtain ⟨b, rfl, t⟩ := h1; subst h2; rw [decide_eq_false (by simp)]; exact EqAt.tuple_none t hu
    | int j => simp only [Is] at h1 h2; obtain ⟨b, rfl, t⟩ := h1; obtain ⟨t2, rfl⟩ := h2; rw [decide_eq_false (by simp)]; exact EqAt.tuple_int _ _ t hu
    | str j => simp only [Is] at h1 h2; obtain ⟨b, rfl, t⟩ := h1; obtain ⟨t2, rfl⟩ := h2; rw [decide_eq_false (by simp)]; exact EqAt.tuple_str _ _ t hu
    | nil => exact tt [] [] (fun x hx => absurd hx (by simp)) h1 h2 hu
    | cons x y =>
      obtain ⟨_, _, _, _, _, _, z2⟩ := (by simpa only [Is] using h2)
      obtain ⟨es, rfl, _⟩ := are_iff.mp z2
      exact tt [] (x :: es) (fun x hx => absurd hx (by simp)) h1 h2 hu
  | cons x y =>
    obtain ⟨_, _, _, _, _, _, z1⟩ := (by simpa only [Is] using h1)
    obtain ⟨ds, rfl, _⟩ := are_iff.mp z1
    cases e with
    | non => simp only [Is] at h1 h2; obtain ⟨b, _, _, rfl, t, _⟩ := h1; subst h2; rw [decide_eq_false (by simp)]; exact EqAt.tuple_none t hu
    | int j => simp only [Is] at h1 h2; obtain ⟨b, _, _, rfl, t, _⟩ := h1; obtain ⟨t2, rfl⟩ := h2; rw [decide_eq_false (by simp)]; exact EqAt.tuple_int _ _ t hu
    | str j => simp only [Is] at h1 h2; obtain ⟨b, _, _, rfl, t, _⟩ := h1; obtain ⟨t2, rfl⟩ := h2; rw [decide_eq_false (by simp)]; exact EqAt.tuple_str _ _ t hu
    | nil => exact tt (x :: ds) [] (fun x _ y _ _ hy => absurd hy (by simp)) h1 h2 hu
    | cons x' y' =>
      obtain ⟨_, _, _, _, _, _, z2⟩ := (by simpa only [Is] using h2)
      obtain ⟨es, rfl, _⟩ := are_iff.mp z2
      refine tt (x :: ds) (x' :: es) (fun w hw w' v u hw' k1 k2 => ?_) h1 h2 hu
      have s1 := sz_mem hw
      have s2 : sz (ofL (x :: ds)) = sz (D.cons x (ofL ds)) := rfl
      have d1 := dep_mem hw
      have d2 := dep_mem hw'
      have e1 : dep (ofL (x :: ds)) = dep (D.cons x (ofL ds)) := rfl
      have e2 : dep (ofL (x' :: es)) = dep (D.cons x' (ofL es)) := rfl
      have eu : A.in1.units = A.units + 1 := rfl
      exact ih (sz w) (by omega) (Nat.le_refl _) k1 k2 (by omega) (by omega)
theorem eqAt {d e : D} {v u : Value} {A : Around} {s : Shared} (h1 : Is s.heap d v) (h2 : Is s.heap e u) (r1 : A.units + dep d < cLine) (r2 : A.units + dep e < cLine) : EqAt A s v u (decide (d = e)) := eqAt_n (sz d) (Nat.le_refl _) h1 h2 r1 r2
end DD
namespace DD
open PySem PySem.SeqAt
def pure_ : D → Bool
  | .non => false
  | .cons x y => pure_ x && pure_ y
  | _ => true
theorem pure_mem : ∀ {ds : List D} {x : D}, pure_ (ofL ds) = true → x ∈ ds → pure_ x = true
  | y :: r, x, h, hx => by
    have h' : (pure_ y && pure_ (ofL r)) = true := h
    obtain ⟨h1, h2⟩ := Bool.and_eq_true_iff.mp h'
    rcases List.mem_cons.mp hx with rfl | hx
    · exact h1
    · exact pure_mem h2 hx
def hashL (f : D → Int) : D → List Int
  | .cons x y => f x :: hashL f y
  | _ => []
def hashesN (w : World) : Nat → D → Int
  | _, .int i => hashInt i
  | _, .str x => hashStr w x
  | 0, _ => 0
  | n + 1, d => reduceHash (Builtin.Tuple.tupleHashOf (hashL (hashesN w n) d))
theorem hashL_ofL (f : D → Int) : ∀ ds : List D, hashL f (ofL ds) = ds.map f
  | [] => rfl
  | x :: r => congrArg (f x :: ·) (hashL_ofL f r)
def draws : D → Nat
  | .cons x y => draws x + draws y
  | _ => 1
theorem draws_ofL : ∀ ds : List D, draws (ofL ds) = (ds.map draws).sum + 1
  | [] => rfl
  | x :: r => by
    show draws x + draws (ofL r) = _
    rw [draws_ofL r, List.map_cons, List.sum_cons]
    omega
section
variable {prog : Program} {E : Value → Shared → Prop} {w : World}
theorem hash_loop {n : Nat} {A : Around} (one : ∀ (d : D) (v : Value) (s : Shared) (Q : Int → Shared → Prop), dep d ≤ n → pure_ d = true → Is s.heap d v → A.units + dep d < cLine → Q (hashesN w n d) { s with toks := s.toks + draws d } → wpAny (model prog w) A (pyHash v) Q E s) :
    ∀ (l : List D) (r : List Value) (acc : Array Int) (s : Shared) (Q : Array Int → Shared → Prop), All2 (Is s.heap) l r → (∀ d ∈ l, dep d ≤ n ∧ pure_ d = true ∧ A.units + dep d < cLine) →
      (∀ out : Array Int, out.toList = acc.toList ++ l.map (hashesN w n) → Q out { s with toks := s.toks + (l.map draws).sum }) →
      wpAny (model prog w) A (forIn r acc fun x hs => do let h ← pyHash x; pure (ForInStep.yield (hs.push h))) Q E s
  | _, _, acc, s, Q, .nil, _, q => by
    rw [List.forIn_nil]
    exact wpAny_pure (q acc (by simp))
  | d :: l, v :: r, acc, s, Q, .cons h1 h2, k, q => by
    rw [List.forIn_cons]
    obtain ⟨k1, k2, k3⟩ := k d List.mem_cons_self
    refine wpAny_bind (wpAny_bind (one d v s _ k1 k2 h1 k3 (wpAny_pure ?_)))
    refine hash_loop one l r (acc.push (hashesN w n d)) { s with toks := s.toks + draws d } Q h2 (fun z hz => k z (List.mem_cons_of_mem _ hz)) fun out e => ?_
    have := q out (by rw [e]; simp)
    simpa [Nat.add_assoc] using this
theorem hash_n : ∀ (n : Nat) {d : D} {v : Value} {A : Around} {s : Shared} {Q : Int → Shared → Prop}, dep d ≤ n → pure_ d = true → Is s.heap d v → A.units + dep d < cLine → Q (hashesN w n d) { s with toks := s.toks + draws d } →
    wpAny (model prog w) A (pyHash v) Q E s := by
  intro n
  induction n with
  | zero =>
    intro d v A s Q hn hp h hu q
    cases d with
    | non => cases hp
    | int i => simp only [Is] at h; obtain ⟨t, rfl⟩ := h; exact wpAny_pyHash_int q
    | str i => simp only [Is] at h; obtain ⟨t, rfl⟩ := h; exact wpAny_pyHash_str q
    | nil => exact absurd hn (by decide)
    | cons x y => exact absurd hn (by show ¬ max (dep x + 1) (dep y) ≤ 0; omega)
  | succ n ih =>
    intro d v A s Q hn hp h hu q
    have tup : ∀ ds : List D, d = ofL ds → wpAny (model prog w) A (pyHash v) Q E s := by
      intro ds e
      subst e
      have e1 : hashesN w (n + 1) (ofL ds) = reduceHash (Builtin.Tuple.tupleHashOf (ds.map (hashesN w n))) := by
        rw [← hashL_ofL]
        cases ds <;> rfl
      rw [draws_ofL, e1] at q
      obtain ⟨a, its, rfl, ⟨o, ho, hc, k, hd⟩, al⟩ := is_tup.mp h
      refine PySem.W.pyHash_slot (T := "tuple") ⟨o, ho, hc⟩ F.slot_tuple_hash F.entry_tuple_hash (F.args_tuple_hash_1 _) (beq_builtin_none _) (.inr (by omega)) (wpAny_bind (wpAny_pure (wpAny_bind (wpAny_tupleItemsOf ho hd (wpAny_bind ?_)))))
      rw [← Array.forIn_toList]
      refine hash_loop (n := n) (fun d v s Q k1 k2 k3 k4 k5 => ih k1 k2 k3 k4 k5) ds its #[] s _ al (fun z hz => ?_) fun out e => ?_
      · have d1 := dep_mem hz
        exact ⟨by omega, pure_mem hp hz, by show A.units + 1 + dep z < cLine; omega⟩
      · have e2 : out.toList = ds.map (hashesN w n) := by simpa using e
        show wpAny _ _ (retInt (Builtin.Tuple.tupleHashOf out.toList)) _ _ _
        rw [e2]
        exact wpAny_bind (wpAny_mkInt (wpAny_pure ⟨_, _, rfl, by simpa [Nat.add_assoc] using q⟩))
    cases d with
    | non => cases hp
    | int i => simp only [Is] at h; obtain ⟨t, rfl⟩ := h; exact wpAny_pyHash_int q
    | str i => simp only [Is] at h; obtain ⟨t, rfl⟩ := h; exact wpAny_pyHash_str q
    | nil => exact tup [] rfl
    | cons x y =>
      obtain ⟨_, _, _, _, _, _, z1⟩ := (by simpa only [Is] using h)
      obtain ⟨ds, rfl, _⟩ := are_iff.mp z1
      exact tup (x :: ds) rfl
theorem quiet_loop {n : Nat} {A : Around} {s : Shared} : ∀ (r : List Value) (Q : Option Bool × PUnit → Shared → Prop), (∀ v ∈ r, ∀ Q' : Bool → Shared → Prop, Q' true s → wpAny (model prog w) A (eqIsQuiet n v) Q' E s) → Q (none, ⟨⟩) s →
      wpAny (model prog w) A (forIn r (none, ⟨⟩) fun y _ => do let b ← eqIsQuiet n y; if (!b) = true then pure (ForInStep.done (some false, PUnit.unit)) else pure (ForInStep.yield (none, PUnit.unit))) Q E s
  | [], Q, _, q => by
    rw [List.forIn_nil]
    exact wpAny_pure q
  | v :: r, Q, k, q => by
    rw [List.forIn_cons]
    exact wpAny_bind (wpAny_bind (k v List.mem_cons_self _ (wpAny_pure (quiet_loop r Q (fun u hu => k u (List.mem_cons_of_mem _ hu)) q))))
theorem quiet_n : ∀ (n : Nat) {d : D} {v : Value} {A : Around} {s : Shared} {Q : Bool → Shared → Prop}, dep d ≤ n → Is s.heap d v → Q true s → wpAny (model prog w) A (eqIsQuiet n v) Q E s := by
  intro n
  have flat : ∀ {n : Nat} {d : D} {v : Value} {A : Around} {s : Shared} {Q : Bool → Shared → Prop}, (d = .non ∨ (∃ i, d = .int i) ∨ ∃ x, d = .str x) → Is s.heap d v → Q true s → wpAny (model prog w) A (eqIsQuiet n v) Q E s := by
    intro n d v A s Q k h q
    have c : carriedByValue v = true := by
      rcases k with rfl | ⟨i, rfl⟩ | ⟨x, rfl⟩
      · rw [show v = .none by simpa only [Is] using h]; rfl
      · obtain ⟨t, rfl⟩ := (show ∃ t, v = .int i t by simpa only [Is] using h); rfl
      · obtain ⟨t, rfl⟩ := (show ∃ t, v = .str x t by simpa only [Is] using h); rfl
    rw [eqIsQuiet_byValue n c]
    exact wpAny_pure q
  induction n with
  | zero =>
    intro d v A s Q hn h q
    cases d with
    | non => exact flat (.inl rfl) h q
    | int i => exact flat (.inr (.inl ⟨i, rfl⟩)) h q
    | str i => exact flat (.inr (.inr ⟨i, rfl⟩)) h q
    | nil => exact absurd hn (by decide)
    | cons x y => exact absurd hn (by show ¬ max (dep x + 1) (dep y) ≤ 0; omega)
  | succ n ih =>
    intro d v A s Q hn h q
    have tup : ∀ ds : List D, d = ofL ds → wpAny (model prog w) A (eqIsQuiet (n + 1) v) Q E s := by
      intro ds e
      subst e
      obtain ⟨a, its, rfl, ⟨o, ho, hc, k, hd⟩, al⟩ := is_tup.mp h
      have ty : s.TypeIs (.ref a) "tuple" := ⟨o, ho, hc⟩
      unfold eqIsQuiet
      refine wpAny_bind (wpAny_specialOf ty F.slot_tuple_eq.lookup (wpAny_bind (wpAny_isInstance ty isSubtype_tuple_tuple ?_)))
      rw [if_neg (by decide)]
      refine wpAny_bind (wpAny_seqItems ho hd (wpAny_bind ?_))
      show wpAny _ _ (forIn its.toArray _ _) _ _ s
      rw [← Array.forIn_toList]
      refine quiet_loop its _ (fun u hu Q' q' => ?_) (wpAny_pure q)
      obtain ⟨i, hi⟩ := List.mem_iff_getElem.mp hu
      obtain ⟨h1, rfl⟩ := hi
      have h2 : i < ds.length := by rw [al.length]; exact h1
      have d1 := dep_mem (List.getElem_mem h2)
      exact ih (by omega) (al.get i h2 h1) q'
    cases d with
    | non => exact flat (.inl rfl) h q
    | int i => exact flat (.inr (.inl ⟨i, rfl⟩)) h q
    | str i => exact flat (.inr (.inr ⟨i, rfl⟩)) h q
    | nil => exact tup [] rfl
    | cons x y =>
      obtain ⟨_, _, _, _, _, _, z1⟩ := (by simpa only [Is] using h)
      obtain ⟨ds, rfl, _⟩ := are_iff.mp z1
      exact tup (x :: ds) rfl
end
theorem is_mono {h h' : Heap} (k : ∀ a its, h.IsTuple a its → h'.IsTuple a its) : ∀ (n : Nat) {d : D} {v : Value}, sz d ≤ n → Is h d v → Is h' d v := by
  intro n
  induction n using Nat.strongRecOn with
  | _ n ih =>
  intro d v hn z
  cases d with
  | non => simpa only [Is] using z
  | int i => simpa only [Is] using z
  | str x => simpa only [Is] using z
  | nil =>
    simp only [Is] at z ⊢
    obtain ⟨a, e, t⟩ := z
    exact ⟨a, e, k _ _ t⟩
  | cons x y =>
    obtain ⟨_, _, _, _, _, _, z1⟩ := (by simpa only [Is] using z)
    obtain ⟨ds, rfl, _⟩ := are_iff.mp z1
    obtain ⟨a, its, rfl, t, al⟩ := (is_tup (ds := x :: ds)).mp z
    refine (is_tup (ds := x :: ds)).mpr ⟨a, its, rfl, k _ _ t, ?_⟩
    have s2 : sz (ofL (x :: ds)) = sz (D.cons x (ofL ds)) := rfl
    have go : ∀ (l : List D) (r : List Value), (∀ y ∈ l, y ∈ x :: ds) → All2 (Is h) l r → All2 (Is h') l r := by
      intro l
      induction l with
      | nil => intro r _ q; cases q; exact .nil
      | cons y l ihl =>
        intro r hm q
        cases q with
        | cons q1 q2 =>
          have := sz_mem (hm y List.mem_cons_self)
          exact .cons (ih (sz y) (by omega) (Nat.le_refl _) q1) (ihl _ (fun z hz => hm z (List.mem_cons_of_mem _ hz)) q2)
    exact go _ _ (fun _ hy => hy) al
theorem Is.mono {h h' : Heap} {d : D} {v : Value} (z : Is h d v) (k : ∀ a its, h.IsTuple a its → h'.IsTuple a its) : Is h' d v := is_mono k (sz d) (Nat.le_refl _) z
def dataKind (prog : Program) (w : World) : HeapKind prog w D where
  is := fun h d a => Is h d (.ref a) ∧ pure_ d = true ∧ dep d ≤ 8
  hash := fun d => hashesN w 8 d
  draws := draws
  room := fun A => A.units + 8 < cLine
  inj := fun hx hy => hx.1.inj hy.1
  keeps := fun {h h' k a d o es ep} x ho hd hs => ⟨x.1.mono fun b its t => by
    obtain ⟨o', e, c, n, dd⟩ := t
    have ne : b ≠ d := by
      rintro rfl
      rw [ho] at e; cases e
      rw [hd] at dd; cases dd
    exact ⟨o', (hs.2 b ne).trans e, c, n, dd⟩, x.2⟩
  pyHash := fun hu hk h => hash_n 8 hk.2.2 hk.2.1 hk.1 (Nat.lt_of_le_of_lt (Nat.add_le_add_left hk.2.2 _) hu) h
  eqBool := fun hu hx hy h => eqAt hx.1 hy.1 (Nat.lt_of_le_of_lt (Nat.add_le_add_left hx.2.2 _) hu) (Nat.lt_of_le_of_lt (Nat.add_le_add_left hy.2.2 _) hu) _ _ _ _ h
  quiet := fun hk h => quiet_n 8 hk.2.2 hk.1 h
end DD
namespace DD
open PySem PySem.SeqAt
open PySem.AutoSeq1 (wpAny_loadPart')
open PySem.MeetsSeq PySem.MeetsSeq2 PySem.MeetsSeq3
def lt : D → D → Bool
  | .int a, .int b => decide (a < b)
  | .str a, .str b => decide (a.cps.toList < b.cps.toList)
  | .nil, .cons _ _ => true
  | .cons x xs, .cons y ys => if x = y then lt xs ys else lt x y
  | _, _ => false
def cm : D → D → Bool
  | .int _, .int _ => true
  | .str _, .str _ => true
  | .nil, .nil => true
  | .nil, .cons _ _ => true
  | .cons _ _, .nil => true
  | .cons x xs, .cons y ys => if x = y then cm xs ys else cm x y
  | _, _ => false
theorem lt_cons (x xs y ys : D) : lt (.cons x xs) (.cons y ys) = if x = y then lt xs ys else lt x y := rfl
theorem lt_irrefl : ∀ d : D, lt d d = false
  | .non => rfl
  | .int i => by simp [lt]
  | .str x => by simp [lt, List.lt_irrefl]
  | .nil => rfl
  | .cons x y => by rw [lt_cons, if_pos rfl]; exact lt_irrefl y
theorem lt_trans : ∀ d e f : D, lt d e = true → lt e f = true → lt d f = true
  | .non, e, f, h, _ => by cases e <;> cases h
  | .int a, .int b, .int c, h, k => by simp only [lt, decide_eq_true_eq] at *; omega
  | .int a, .int b, .non, _, k => nomatch k
  | .int a, .int b, .str _, _, k => nomatch k
  | .int a, .int b, .nil, _, k => nomatch k
  | .int a, .int b, .cons _ _, _, k => nomatch k
  | .int a, .non, _, h, _ => nomatch h
  | .int a, .str _, _, h, _ => nomatch h
  | .int a, .nil, _, h, _ => nomatch h
  | .int a, .cons _ _, _, h, _ => nomatch h
  | .str a, .str b, .str c, h, k => by simp only [lt, decide_eq_true_eq] at *; exact List.lt_trans h k
  | .str a, .str b, .non, _, k => nomatch k
  | .str a, .str b, .int _, _, k => nomatch k
  | .str a, .str b, .nil, _, k => nomatch k
  | .str a, .str b, .cons _ _, _, k => nomatch k
  | .str a, .non, _, h, _ => nomatch h
  | .str a, .int _, _, h, _ => nomatch h
  | .str a, .nil, _, h, _ => nomatch h
  | .str a, .cons _ _, _, h, _ => nomatch h
  | .nil, .cons _ _, .cons _ _, _, _ => rfl
  | .nil, .cons _ _, .non, _, k => nomatch k
  | .nil, .cons _ _, .int _, _, k => nomatch k
  | .nil, .cons _ _, .str _, _, k => nomatch k
  | .nil, .cons _ _, .nil, _, k => nomatch k
  | .nil, .non, _, h, _ => nomatch h
  | .nil, .int _, _, h, _ => nomatch h
  | .nil, .str _, _, h, _ => nomatch h
  | .nil, .nil, _, h, _ => nomatch h
  | .cons x xs, .cons y ys, .cons z zs, h, k => by
    rw [lt_cons] at h k ⊢
    by_cases e1 : x = y
    · rw [if_pos e1] at h
      by_cases e2 : y = z
      · rw [if_pos e2] at k; rw [if_pos (e1.trans e2)]; exact lt_trans xs ys zs h k
      · rw [if_neg e2] at k; rw [if_neg (by rw [e1]; exact e2), e1]; exact k
    · rw [if_neg e1] at h
      by_cases e2 : y = z
      · rw [if_pos e2] at k; rw [if_neg (by rw [← e2]; exact e1), ← e2]; exact h
      · rw [if_neg e2] at k
        have l := lt_trans x y z h k
        by_cases e3 : x = z
        · rw [e3, lt_irrefl] at l; cases l
        · rw [if_neg e3]; exact l
  | .cons x xs, .cons y ys, .non, _, k => nomatch k
  | .cons x xs, .cons y ys, .int _, _, k => nomatch k
  | .cons x xs, .cons y ys, .str _, _, k => nomatch k
  | .cons x xs, .cons y ys, .nil, _, k => nomatch k
  | .cons x xs, .non, _, h, _ => nomatch h
  | .cons x xs, .int _, _, h, _ => nomatch h
  | .cons x xs, .str _, _, h, _ => nomatch h
  | .cons x xs, .nil, _, h, _ => nomatch h
def RcLt (A : Around) (s : Shared) (y x : Value) (b : Bool) : Prop :=
  ∀ (prog : Program) (w : World) (E : Value → Shared → Prop) (Q : Value → Shared → Prop), Q (.bool b) s → wpAny (model prog w) A (richCompare .Lt y x) Q E s
def rLt (d e : D) : Bool := lt d e
theorem tuple_LtAt (l b : Addr) (items items2 : List Value) (n n2 : Nat) (dd dd2 : Option Addr) (sl sl2 : Array (Option Value)) (ds es : List D) :
    Meets (Builtin.«tuple.__lt__» ⟨[.ref l, .ref b], []⟩)
      (fun A R s => s.heap.get? l = some { cls := .type "tuple", dict := dd, data := .seq items.toArray n, slots := sl } ∧ s.heap.get? b = some { cls := .type "tuple", dict := dd2, data := .seq items2.toArray n2, slots := sl2 } ∧
        All2 (Is s.heap) ds items ∧ All2 (Is s.heap) es items2 ∧ (∀ x ∈ ds, ∀ y ∈ es, ∀ v u, Is s.heap x v → Is s.heap y u → EqAt A.in1 s v u (decide (x = y)) ∧ (cm x y = true → x ≠ y → RcLt A.in1 s v u (rLt x y))) ∧
        cm (ofL ds) (ofL es) = true ∧ R (.ok (.ret (.bool (rLt (ofL ds) (ofL es))))) s) :=
  .of_wp fun prog w A R s h => by
    obtain ⟨hp, g, d, tk, os⟩ := s; obtain ⟨hl, hb, h1, h2, he, hc, h⟩ := h
    have f2 := AutoSeq1.sub_tuple_tuple
    have z1 := h1.length
    have z2 := h2.length
    wp_walk using wpAny_loadPart' hl, wpAny_loadPart' hb, wpAny_forIn_list _ (fun rest b s' => b.1 = none ∧ s' = ⟨hp, g, d, tk, os⟩ ∧ ∃ (vs ws : List Value) (xs ys : List D), rest = vs.zip ws ∧
      All2 (Is hp) xs vs ∧ All2 (Is hp) ys ws ∧ (∀ x ∈ xs, x ∈ ds) ∧ (∀ y ∈ ys, y ∈ es) ∧ xs.length + items2.length = ys.length + items.length ∧ cm (ofL xs) (ofL ys) = true ∧ rLt (ofL xs) (ofL ys) = rLt (ofL ds) (ofL es)) _
    case turn =>
      rintro ⟨y, x⟩ rest b s' ⟨hb', rfl, vs, ws, xs, ys, hz, hvi, hwi, m1, m2, hlen, hcm, hR⟩
      cases hvi with
      | nil => rw [List.zip_nil_left] at hz; cases hz
      | @cons a v xs' vs' q1 hvi' =>
        cases hwi with
        | nil => rw [List.zip_nil_right] at hz; cases hz
        | @cons c u ys' ws' q2 hwi' =>
          rw [List.zip_cons_cons] at hz
          injection hz with hyx hrest
          injection hyx with hy hx
          subst hy hx
          simp only [List.length_cons] at hlen
          obtain ⟨k1, k2⟩ := he a (m1 a List.mem_cons_self) c (m2 c List.mem_cons_self) _ _ q1 q2
          refine wpAny_bind (k1 prog w _ _ ?_)
          have hcm' : (if a = c then cm (ofL xs') (ofL ys') else cm a c) = true := hcm
          by_cases e : a = c
          · rw [decide_eq_true e]
            rw [if_pos e] at hcm'
            have hR' : rLt (ofL xs') (ofL ys') = rLt (ofL ds) (ofL es) := by
              rw [← hR]
              show rLt _ _ = rLt (.cons a (ofL xs')) (.cons c (ofL ys'))
              unfold rLt
              rw [lt_cons, if_pos e]
            wp_walk
            exact ⟨rfl, rfl, _, _, _, _, hrest, hvi', hwi', fun x hx => m1 x (List.mem_cons_of_mem _ hx), fun x hx => m2 x (List.mem_cons_of_mem _ hx), by omega, hcm', hR'⟩
          · rw [decide_eq_false e]
            rw [if_neg e] at hcm'
            have hR' : rLt a c = rLt (ofL ds) (ofL es) := by
              rw [← hR]
              show rLt _ _ = rLt (.cons a (ofL xs')) (.cons c (ofL ys'))
              unfold rLt
              rw [lt_cons, if_neg e]
            have hri := k2 hcm' e prog w
            rw [hR'] at hri
            wp_walk using hri
            exact ⟨_, rfl, by simpa using h⟩
    case fin =>
      rintro ⟨b1, b2⟩ s' ⟨hb', rfl, vs, ws, xs, ys, hz, hvi, hwi, m1, m2, hlen, hcm, hR⟩
      simp only at hb'
      subst hb'
      have hv : rLt (ofL xs) (ofL ys) = decide (items.length < items2.length) := by
        cases hvi with
        | nil =>
          cases hwi with
          | nil =>
            simp only [List.length_nil] at hlen
            show false = _
            exact (decide_eq_false (by omega)).symm
          | cons q2 hw =>
            simp only [List.length_nil, List.length_cons] at hlen
            show true = _
            exact (decide_eq_true (by omega)).symm
        | cons q1 hv =>
          cases hwi with
          | nil =>
            simp only [List.length_nil, List.length_cons] at hlen
            show false = _
            exact (decide_eq_false (by omega)).symm
          | cons q2 hw =>
            rw [List.zip_cons_cons] at hz
            cases hz
      rw [← hR, hv] at h
      wp_walk
      exact ⟨_, rfl, by simpa [Builtin.Tuple.tupleCompareSizes] using h⟩
    case h =>
      exact ⟨rfl, rfl, items, items2, ds, es, rfl, h1, h2, fun _ hx => hx, fun _ hx => hx, by omega, hc, rfl⟩
theorem rcLt_n : ∀ (n : Nat) {d e : D} {v u : Value} {A : Around} {s : Shared}, sz d ≤ n → Is s.heap d v → Is s.heap e u → cm d e = true → A.units + dep d < cLine → A.units + dep e < cLine → RcLt A s v u (rLt d e) := by
  intro n
  induction n using Nat.strongRecOn with
  | _ n ih =>
  intro d e v u A s hn h1 h2 hc u1 u2
  have tt : ∀ ds es : List D, d = ofL ds → e = ofL es → RcLt A s v u (rLt d e) := by
    intro ds es e1 e2
    subst e1 e2
    have d0 := dep_tup ds
    obtain ⟨a, its, rfl, t, al⟩ := is_tup.mp h1
    obtain ⟨a', its', rfl, t', al'⟩ := is_tup.mp h2
    intro prog w E Q h
    obtain ⟨⟨cls, dd, data, sl⟩, ho, hcl, n, hd⟩ := id t
    obtain ⟨⟨cls2, dd2, data2, sl2⟩, ho2, hc2, n2, hd2⟩ := id t'
    simp only at hcl hd hc2 hd2
    subst hcl hd hc2 hd2
    have eu : A.in1.units = A.units + 1 := rfl
    refine richCompare_meets_room (op := .Lt) ⟨_, ho, rfl⟩ ⟨_, ho2, rfl⟩ F.slot_tuple_lt F.entry_tuple_lt (F.args_tuple_lt_2 _ _) (tuple_LtAt a a' its its' n n2 dd dd2 sl sl2 ds es)
      ⟨ho, ho2, al, al', fun x hx y hy v u q1 q2 => ⟨?_, fun c1 _ => ?_⟩, hc, show Value.bool (rLt (ofL ds) (ofL es)) ≠ Value.notImplemented ∧ Q (.bool (rLt (ofL ds) (ofL es))) s from ⟨(fun x => nomatch x), h⟩⟩ (by omega)
    · have m1 := dep_mem hx
      have m2 := dep_mem hy
      exact eqAt q1 q2 (by omega) (by omega)
    · have m1 := dep_mem hx
      have m2 := dep_mem hy
      have m3 := sz_mem hx
      exact ih (sz x) (by omega) (Nat.le_refl _) q1 q2 c1 (by omega) (by omega)
  have go : ∀ {z : D} {v : Value}, Is s.heap z v → (∃ x y, z = .cons x y) ∨ z = .nil → ∃ ds, z = ofL ds := by
    intro z v hz k
    rcases k with ⟨x, y, rfl⟩ | rfl
    · obtain ⟨_, _, _, _, _, _, z1⟩ := (by simpa only [Is] using hz)
      obtain ⟨ds, rfl, _⟩ := are_iff.mp z1
      exact ⟨x :: ds, rfl⟩
    · exact ⟨[], rfl⟩
  cases d with
  | non => cases e <;> cases hc
  | int i =>
    cases e with
    | int j =>
      simp only [Is] at h1 h2
      obtain ⟨t, rfl⟩ := h1
      obtain ⟨t', rfl⟩ := h2
      intro prog w E Q h
      exact PyProof.Rows.lt_int h
    | _ => cases hc
  | str i =>
    cases e with
    | str j =>
      simp only [Is] at h1 h2
      obtain ⟨t, rfl⟩ := h1
      obtain ⟨t', rfl⟩ := h2
      intro prog w E Q h
      exact PyProof.Rows.lt_str (by simpa only [rLt, lt] using h)
    | _ => cases hc
  | nil =>
    cases e with
    | nil => exact tt [] [] rfl rfl
    | cons x y =>
      obtain ⟨es, e2⟩ := go h2 (.inl ⟨x, y, rfl⟩)
      exact tt [] es rfl e2
    | _ => cases hc
  | cons x y =>
    obtain ⟨ds, e1⟩ := go h1 (.inl ⟨x, y, rfl⟩)
    cases e with
    | nil => exact tt ds [] e1 rfl
    | cons x' y' =>
      obtain ⟨es, e2⟩ := go h2 (.inl ⟨x', y', rfl⟩)
      exact tt ds es e1 e2
    | _ => cases hc
theorem rcLt {d e : D} {v u : Value} {A : Around} {s : Shared} (h1 : Is s.heap d v) (h2 : Is s.heap e u) (hc : cm d e = true) (u1 : A.units + dep d < cLine) (u2 : A.units + dep e < cLine) : RcLt A s v u (rLt d e) := rcLt_n (sz d) (Nat.le_refl _) h1 h2 hc u1 u2
end DD
namespace L2
open PySem PySem.Spec PyProof.Rows DD
abbrev Key := Sum Int Str
def keyIs : Key → Value → Bool
  | .inl k, v => Value.isInt k v
  | .inr x, v => Value.isStrOf x v
def keyH (w : World) : Key → Int
  | .inl k => hashInt k
  | .inr x => hashStr w x
theorem keyIs_shape : ∀ {k : Key} {v : Value}, keyIs k v = true → (∃ i t, k = Sum.inl i ∧ v = Value.int i t) ∨ (∃ x t, k = Sum.inr x ∧ v = Value.str x t)
  | .inl i, v, h => by
    obtain ⟨t, e⟩ := Value.isInt_shape (k := i) (v := v) h
    exact .inl ⟨i, t, rfl, e⟩
  | .inr x, v, h => by
    obtain ⟨t, e⟩ := Value.isStrOf_shape (x := x) (v := v) h
    exact .inr ⟨x, t, rfl, e⟩
theorem keyIs_int (i : Int) (t : Tok) : keyIs (.inl i) (.int i t) = true := by simp [keyIs, Value.isInt]
theorem keyIs_str (x : Str) (t : Tok) : keyIs (.inr x) (.str x t) = true := by simp [keyIs, Value.isStrOf]
theorem key_ll (a b : Int) : decide ((Sum.inl a : Key) = Sum.inl b) = (a == b) := by
  by_cases e : a = b
  · subst e; simp
  · have h : ¬ (Sum.inl a : Key) = Sum.inl b := fun q => e (Sum.inl.inj q)
    rw [decide_eq_false h]
    exact (beq_eq_false_iff_ne.mpr e).symm
theorem key_rr (a b : Str) : decide ((Sum.inr a : Key) = Sum.inr b) = decide (a = b) := by
  by_cases e : a = b
  · subst e; simp
  · have h : ¬ (Sum.inr a : Key) = Sum.inr b := fun q => e (Sum.inr.inj q)
    rw [decide_eq_false h, decide_eq_false e]
theorem key_lr (a : Int) (b : Str) : decide ((Sum.inl a : Key) = Sum.inr b) = false := decide_eq_false (fun q => nomatch q)
theorem key_rl (a : Str) (b : Int) : decide ((Sum.inr a : Key) = Sum.inl b) = false := decide_eq_false (fun q => nomatch q)
def mixKind (prog : Program) (w : World) : PySem.KeyKind prog w Key where
  is := keyIs
  hash := keyH w
  inj := fun v a b ha hb => by
    rcases keyIs_shape ha with ⟨i, t, rfl, rfl⟩ | ⟨x, t, rfl, rfl⟩
    · rcases keyIs_shape hb with ⟨j, u, rfl, e⟩ | ⟨y, u, rfl, e⟩
      · injection e with e1 _; rw [e1]
      · exact nomatch e
    · rcases keyIs_shape hb with ⟨j, u, rfl, e⟩ | ⟨y, u, rfl, e⟩
      · exact nomatch e
      · injection e with e1 _; rw [e1]
  byValue := fun k v h => by
    rcases keyIs_shape h with ⟨i, t, rfl, rfl⟩ | ⟨x, t, rfl, rfl⟩ <;> rfl
  pyHash := fun hv h => by
    rcases keyIs_shape hv with ⟨i, t, rfl, rfl⟩ | ⟨x, t, rfl, rfl⟩
    · exact wpAny_pyHash_int h
    · exact wpAny_pyHash_str h
  eqBool := fun hu hv h => by
    rcases keyIs_shape hu with ⟨i, t, rfl, rfl⟩ | ⟨x, t, rfl, rfl⟩
    · rcases keyIs_shape hv with ⟨j, u, rfl, rfl⟩ | ⟨y, u, rfl, rfl⟩
      · rw [key_ll] at h; exact wpAny_eqBool_int h
      · rw [key_lr] at h; exact SeqAt.EqAt.int_str i t y u _ _ _ _ h
    · rcases keyIs_shape hv with ⟨j, u, rfl, rfl⟩ | ⟨y, u, rfl, rfl⟩
      · rw [key_rl] at h; exact SeqAt.EqAt.str_int x t j u _ _ _ _ h
      · rw [key_rr] at h; exact wpAny_eqBool_str h
  «strs» := fun k x t v h => by
    rcases keyIs_shape h with ⟨i, u, rfl, e⟩ | ⟨y, u, rfl, e⟩
    · exact nomatch e
    · injection e with e1 _
      subst e1
      cases v <;> rfl
theorem mixKind_int (prog : Program) (w : World) (i : Int) (t : Tok) : (mixKind prog w).is (.inl i) (.int i t) = true := keyIs_int i t
theorem mixKind_str (prog : Program) (w : World) (x : Str) (t : Tok) : (mixKind prog w).is (.inr x) (.str x t) = true := keyIs_str x t
end L2
namespace L2
open PySem PySem.Spec PyProof.Rows DD
inductive V where
  | non | bl (b : Bool) | int (i : Int) | str (x : Str) | byt (b : Array UInt8) | flt (b : UInt64) | ref (a : Addr) | ty (n : String)
  deriving DecidableEq
def RelV : V → Value → Prop
  | .non, u => u = Value.none
  | .bl b, u => u = Value.bool b
  | .int i, u => ∃ t, u = Value.int i t
  | .str x, u => ∃ t, u = Value.str x t
  | .byt b, u => ∃ t, u = Value.bytes b t
  | .flt b, u => ∃ t, u = Value.float b t
  | .ref a, u => u = Value.ref a
  | .ty n, u => u = Value.type n
abbrev Vals : List V → List Value → Prop := Paired RelV
theorem Vals.length {xs : List V} {us : List Value} (r : Vals xs us) : xs.length = us.length := Paired.length r
theorem Vals.get : ∀ {xs : List V} {us : List Value} {i : Nat} {x : V}, Vals xs us → xs[i]? = some x → ∃ u, us[i]? = some u ∧ RelV x u
  | _, _, _, _, .nil, e => by simp at e
  | _, _, 0, _, .cons r _, e => by simp at e; subst e; exact ⟨_, rfl, r⟩
  | _, _, i + 1, x, .cons _ t, e => by
    obtain ⟨u, h1, h2⟩ := Vals.get (i := i) (x := x) t (by simpa using e)
    exact ⟨u, by simpa using h1, h2⟩
theorem Vals.set {x : V} {u : Value} (r : RelV x u) : ∀ {xs : List V} {us : List Value} (i : Nat), Vals xs us → Vals (xs.set i x) (us.set i u)
  | _, _, _, .nil => .nil
  | _, _, 0, .cons _ t => .cons r t
  | _, _, i + 1, .cons q t => .cons q (Vals.set r i t)
theorem Vals.append : ∀ {xs ys : List V} {us ws : List Value}, Vals xs us → Vals ys ws → Vals (xs ++ ys) (us ++ ws)
  | _, _, _, _, .nil, s => s
  | _, _, _, _, .cons r t, s => .cons r (Vals.append t s)
theorem Vals.take : ∀ {xs : List V} {us : List Value} (n : Nat), Vals xs us → Vals (xs.take n) (us.take n)
  | _, _, 0, _ => .nil
  | _, _, _ + 1, .nil => .nil
  | _, _, n + 1, .cons r t => .cons r (Vals.take n t)
theorem Vals.drop : ∀ {xs : List V} {us : List Value} (n : Nat), Vals xs us → Vals (xs.drop n) (us.drop n)
  | _, _, 0, r => r
  | _, _, _ + 1, .nil => .nil
  | _, _, n + 1, .cons _ t => Vals.drop n t
def RelO : Option V → Option Value → Prop
  | some v, some u => RelV v u
  | none, none => True
  | _, _ => False
def KV {κ : Type} : List (κ × V) → List (κ × Value) → Prop := Paired fun (p : κ × V) (q : κ × Value) => p.1 = q.1 ∧ RelV p.2 q.2
def kV : Key → V
  | .inl i => .int i
  | .inr x => .str x
inductive HO where
  | lst (xs : List V)
  | tup (xs : List V)
  | dK (kvs : List (Key × V)) | dT (kvs : List (D × V))
  | set (S : Int → Bool) (n : Nat)
  | ins (C dx : Addr) (fs : List (Str × V))
  | own (x : Addr)
  | xd (fs : List (Str × V))
  | met (f x : Addr)
  | rng (lo hi : Int)
  | frz (o : Obj) (u : HO)
  | tbl (ps : Array Value)
  | ext (φ : Heap → Prop)
abbrev Hp := Addr → Option HO
def upd (H : Hp) (a : Addr) (o : HO) : Hp := fun b => if b = a then some o else H b
theorem upd_same {H : Hp} {a : Addr} {o : HO} : upd H a o a = some o := by unfold upd; rw [if_pos rfl]
theorem upd_ne {H : Hp} {a b : Addr} {o : HO} (h : b ≠ a) : upd H a o b = H b := by unfold upd; rw [if_neg h]
def IsTp (h : Heap) (a : Addr) (items : Array Value) : Prop := ∃ o, h.get? a = some o ∧ o.cls = .type "tuple" ∧ ∃ n, o.data = .seq items n ∧ o.dict = none
theorem IsTp.tup {h : Heap} {a : Addr} {items : Array Value} (x : IsTp h a items) : IsTup h a items := let ⟨o, e, c, n, d, _⟩ := x; ⟨o, e, c, n, d⟩
theorem IsTp.lt {h : Heap} {a : Addr} {items : Array Value} (x : IsTp h a items) : a < h.objs.size := let ⟨_, e, _⟩ := x; Heap.lt_size e
theorem IsTp.new (h : Heap) (items : Array Value) : IsTp (h.push { cls := .type "tuple", data := .seq items }) h.objs.size items := ⟨_, Heap.get?_push_size _ rfl, rfl, _, rfl, rfl⟩
mutual
def DV (H : Hp) : D → V → Prop
  | .non, v => v = .non
  | .int i, v => v = .int i
  | .str x, v => v = .str x
  | .nil, v => ∃ a, v = .ref a ∧ H a = some (.tup [])
  | .cons x y, v => ∃ a v0 r, v = .ref a ∧ H a = some (.tup (v0 :: r)) ∧ DV H x v0 ∧ DVs H y r
def DVs (H : Hp) : D → List V → Prop
  | .nil, r => r = []
  | .cons x y, r => ∃ v0 r', r = v0 :: r' ∧ DV H x v0 ∧ DVs H y r'
  | _, _ => False
end
theorem dvs_iff {H : Hp} : ∀ {d : D} {vs : List V}, DVs H d vs ↔ ∃ ds, d = ofL ds ∧ All2 (DV H) ds vs
  | .non, vs => ⟨fun z => by simp [DVs] at z, fun ⟨ds, e, _⟩ => by cases ds <;> cases e⟩
  | .int i, vs => ⟨fun z => by simp [DVs] at z, fun ⟨ds, e, _⟩ => by cases ds <;> cases e⟩
  | .str i, vs => ⟨fun z => by simp [DVs] at z, fun ⟨ds, e, _⟩ => by cases ds <;> cases e⟩
  | .nil, vs => by
    constructor
    · intro z
      simp only [DVs] at z
      subst z
      exact ⟨[], rfl, .nil⟩
    · rintro ⟨ds, e, a⟩
      cases ds with
      | nil => cases a; simp [DVs]
      | cons x r => cases e
  | .cons x y, vs => by
    constructor
    · intro z
      simp only [DVs] at z
      obtain ⟨v0, r, rfl, h1, h2⟩ := z
      obtain ⟨ds, e, a⟩ := dvs_iff.mp h2
      exact ⟨x :: ds, by rw [e]; rfl, .cons h1 a⟩
    · rintro ⟨ds, e, a⟩
      cases ds with
      | nil => cases e
      | cons z r =>
        cases e
        cases a with
        | cons h1 t =>
          simp only [DVs]
          exact ⟨_, _, rfl, h1, dvs_iff.mpr ⟨r, rfl, t⟩⟩
theorem dv_tup {H : Hp} {ds : List D} {v : V} : DV H (ofL ds) v ↔ ∃ a vs, v = .ref a ∧ H a = some (.tup vs) ∧ All2 (DV H) ds vs := by
  cases ds with
  | nil =>
    simp only [ofL, DV]
    constructor
    · rintro ⟨a, rfl, t⟩
      exact ⟨a, [], rfl, t, .nil⟩
    · rintro ⟨a, its, rfl, t, al⟩
      cases al
      exact ⟨a, rfl, t⟩
  | cons x r =>
    simp only [ofL, DV]
    constructor
    · rintro ⟨a, v0, rr, rfl, t, h1, h2⟩
      obtain ⟨ds, e, al⟩ := dvs_iff.mp h2
      rw [ofL_inj e]
      exact ⟨a, v0 :: rr, rfl, t, .cons h1 al⟩
    · rintro ⟨a, its, rfl, t, al⟩
      cases al with
      | cons h1 al => exact ⟨a, _, _, rfl, t, h1, dvs_iff.mpr ⟨r, rfl, al⟩⟩
theorem dv_ofL {H : Hp} {d : D} {a : Addr} (z : DV H d (.ref a)) : ∃ ds, d = ofL ds := by
  cases d with
  | non => simp [DV] at z
  | int i => simp [DV] at z
  | str x => simp [DV] at z
  | nil => exact ⟨[], rfl⟩
  | cons x y =>
    simp only [DV] at z
    obtain ⟨_, _, _, _, _, _, h2⟩ := z
    obtain ⟨ds, e, _⟩ := dvs_iff.mp h2
    exact ⟨x :: ds, by rw [e]; rfl⟩
theorem dv_mono {H H' : Hp} (k : ∀ b xs, H b = some (.tup xs) → H' b = some (.tup xs)) : ∀ (n : Nat) {d : D} {v : V}, sz d ≤ n → DV H d v → DV H' d v := by
  intro n
  induction n using Nat.strongRecOn with
  | _ n ih =>
  intro d v hn z
  cases d with
  | non => simpa only [DV] using z
  | int i => simpa only [DV] using z
  | str x => simpa only [DV] using z
  | nil =>
    simp only [DV] at z ⊢
    obtain ⟨a, e, t⟩ := z
    exact ⟨a, e, k _ _ t⟩
  | cons x y =>
    obtain ⟨_, _, _, _, _, _, z1⟩ := (by simpa only [DV] using z)
    obtain ⟨ds, rfl, _⟩ := dvs_iff.mp z1
    obtain ⟨a, its, rfl, t, al⟩ := (dv_tup (ds := x :: ds)).mp z
    refine (dv_tup (ds := x :: ds)).mpr ⟨a, its, rfl, k _ _ t, ?_⟩
    have s2 : sz (ofL (x :: ds)) = sz (D.cons x (ofL ds)) := rfl
    have go : ∀ (l : List D) (r : List V), (∀ y ∈ l, y ∈ x :: ds) → All2 (DV H) l r → All2 (DV H') l r := by
      intro l
      induction l with
      | nil => intro r _ q; cases q; exact .nil
      | cons y l ihl =>
        intro r hm q
        cases q with
        | cons q1 q2 =>
          have := sz_mem (hm y List.mem_cons_self)
          exact .cons (ih (sz y) (by omega) (Nat.le_refl _) q1) (ihl _ (fun z hz => hm z (List.mem_cons_of_mem _ hz)) q2)
    exact go _ _ (fun _ hy => hy) al
theorem DV.mono {H H' : Hp} {d : D} {v : V} (z : DV H d v) (k : ∀ b xs, H b = some (.tup xs) → H' b = some (.tup xs)) : DV H' d v := dv_mono k (sz d) (Nat.le_refl _) z
def DKey (H : Hp) (d : D) (b : Addr) : Prop := DV H d (.ref b) ∧ pure_ d = true ∧ dep d ≤ 8
theorem DKey.mono {H H' : Hp} {d : D} {b : Addr} (z : DKey H d b) (k : ∀ b xs, H b = some (.tup xs) → H' b = some (.tup xs)) : DKey H' d b := ⟨z.1.mono k, z.2⟩
theorem ne_of {H : Hp} {a b : Addr} {o u : HO} (h : H a = some o) (h' : H b = some u) (d : o ≠ u) : a ≠ b := by
  intro e; subst e; rw [h] at h'; exact d (Option.some.inj h')
theorem ne_of_none {H : Hp} {a b : Addr} {o : HO} (h : H a = some o) (h' : H b = none) : a ≠ b := by
  intro e; subst e; rw [h] at h'; cases h'
section
variable (P : Program) (w : World)
def ObjOk (H : Hp) (h : Heap) (a : Addr) : HO → Prop
  | .lst xs => xs.length ≤ sizeLine ∧ ∃ (its : List Value) (n : Nat), Vals xs its ∧ h.get? a = some { cls := .type "list", data := .seq its.toArray n }
  | .tup xs => xs.length ≤ sizeLine ∧ ∃ its : List Value, Vals xs its ∧ IsTp h a its.toArray
  | .dK kvs => kvs.length ≤ sizeLine ∧ (a == sysModules) = false ∧ ∃ vs, KV kvs vs ∧ h.DictOf (mixKind P w) a vs
  | .dT kvs => kvs.length ≤ sizeLine ∧ (a == sysModules) = false ∧ ∃ xs : List (D × Addr × Value),
      Paired (fun (p : D × V) (q : D × Addr × Value) => p.1 = q.1 ∧ DKey H p.1 q.2.1 ∧ RelV p.2 q.2.2) kvs xs ∧
      ∃ o es ep, h.get? a = some o ∧ o.ExactDict ∧ o.data = .dict es ep ∧ es.toList = xs.map (entryOfKey (dataKind P w)) ∧ (xs.map (·.1)).Nodup
  | .set S n => h.SetOf (intKind P w) a S n
  | .ins C dx fs => H dx = some (.own a) ∧ fs.length ≤ 1000 ∧ dx ≠ a ∧ h.get? a = some (PySem.W.instObj C dx) ∧
      ∃ mA, h.Ns1 dx mA ∧ (∀ f, RelO (fs.lookup f) (mA f)) ∧ PySem.Within mA (fs.map (·.1))
  | .own _ => ∃ o, h.get? a = some o
  | .xd fs => ∃ mA, h.Ns1 a mA ∧ ∀ f, RelO (fs.lookup f) (mA f)
  | .rng lo hi => ∃ t u v, h.get? a = some { cls := .type "range", data := .fields #[.int lo t, .int hi u, .int 1 v] }
  | .frz o u => h.get? a = some o ∧ ObjOk H h a u
  | .tbl ps => h.get? a = some { cls := .none, data := .fields ps }
  | .met f x => h.get? a = some (PySem.W.methodObj (.ref f) (.ref x))
  | .ext φ => φ h ∧ (∃ o, h.get? a = some o) ∧ ∀ h1 h2 : Heap, φ h1 → (∀ o, h1.get? a = some o → h2.get? a = some o) → φ h2
def HOk (H : Hp) (h : Heap) : Prop := ∀ a o, H a = some o → ObjOk P w H h a o
end
section
variable {P : Program} {w : World} {H H' : Hp} {h h' : Heap} {a : Addr} {o : HO}
theorem ObjOk.lt (x : ObjOk P w H h a o) : a < h.objs.size := by
  cases o with
  | lst xs => obtain ⟨_, _, _, _, e⟩ := x; exact Heap.lt_size e
  | tup xs => obtain ⟨_, _, _, p⟩ := x; exact p.lt
  | dK kvs => obtain ⟨_, _, _, _, o, _, _, e, _⟩ := x; exact Heap.lt_size e
  | dT kvs => obtain ⟨_, _, _, _, o, _, _, e, _⟩ := x; exact Heap.lt_size e
  | set S n => obtain ⟨o, _, _, _, e, _⟩ := x; exact Heap.lt_size e
  | ins C dx fs => obtain ⟨_, _, _, e, _⟩ := x; exact Heap.lt_size e
  | own y => obtain ⟨_, e⟩ := x; exact Heap.lt_size e
  | xd fs => obtain ⟨_, ⟨_, _, _, e, _⟩, _⟩ := x; exact Heap.lt_size e
  | rng lo hi => obtain ⟨_, _, _, e⟩ := x; exact Heap.lt_size e
  | frz ob u => obtain ⟨e, _⟩ := x; exact Heap.lt_size e
  | tbl ps => exact Heap.lt_size (show h.get? a = some _ from x)
  | met f y => exact Heap.lt_size (show h.get? a = some _ from x)
  | ext φ => obtain ⟨_, ⟨_, e⟩, _⟩ := x; exact Heap.lt_size e
theorem Paired.mapP {α β : Type} {F G : α → β → Prop} : ∀ {l₁ : List α} {l₂ : List β}, Paired F l₁ l₂ → (∀ a b, F a b → G a b) → Paired G l₁ l₂
  | _, _, .nil, _ => .nil
  | _, _, .cons r t, f => .cons (f _ _ r) (Paired.mapP t f)
theorem ObjOk.stay (x : ObjOk P w H h a o) (k : ∀ b u, (b = a ∨ H b = some (.own a)) → h.get? b = some u → h'.get? b = some u)
    (ho : ∀ b, H b = some (.own a) → H' b = some (.own a)) (ht : ∀ b xs, H b = some (.tup xs) → H' b = some (.tup xs)) : ObjOk P w H' h' a o := by
  induction o with
  | lst xs => obtain ⟨z, its, n, r, e⟩ := x; exact ⟨z, its, n, r, k _ _ (.inl rfl) e⟩
  | tup xs => obtain ⟨z, its, r, ob, e, c⟩ := x; exact ⟨z, its, r, ob, k _ _ (.inl rfl) e, c⟩
  | dK kvs => obtain ⟨z, y, vs, r, ob, es, ep, e, c⟩ := x; exact ⟨z, y, vs, r, ob, es, ep, k _ _ (.inl rfl) e, c⟩
  | dT kvs =>
    obtain ⟨z, y, xs, r, ob, es, ep, e, c⟩ := x
    exact ⟨z, y, xs, Paired.mapP r fun p q z => ⟨z.1, z.2.1.mono ht, z.2.2⟩, ob, es, ep, k _ _ (.inl rfl) e, c⟩
  | set S n => obtain ⟨ob, es, ep, t, e, c⟩ := x; exact ⟨ob, es, ep, t, k _ _ (.inl rfl) e, c⟩
  | ins C dx fs =>
    obtain ⟨d, z, ne, e, mA, ⟨od, es, ep, e2, c⟩, r⟩ := x
    exact ⟨ho _ d, z, ne, k _ _ (.inl rfl) e, mA, ⟨od, es, ep, k _ _ (.inr d) e2, c⟩, r⟩
  | own y => obtain ⟨ob, e⟩ := x; exact ⟨ob, k _ _ (.inl rfl) e⟩
  | xd fs => obtain ⟨mA, ⟨od, es, ep, e, c⟩, r⟩ := x; exact ⟨mA, ⟨od, es, ep, k _ _ (.inl rfl) e, c⟩, r⟩
  | rng lo hi => obtain ⟨t, u, v, e⟩ := x; exact ⟨t, u, v, k _ _ (.inl rfl) e⟩
  | frz ob u ih => obtain ⟨e, q⟩ := x; exact ⟨k _ _ (.inl rfl) e, ih q⟩
  | tbl ps =>
    have e : h.get? a = some { cls := .none, data := .fields ps } := x
    show h'.get? a = some { cls := .none, data := .fields ps }
    exact k a _ (.inl rfl) e
  | met f y =>
    have e : h.get? a = some (PySem.W.methodObj (.ref f) (.ref y)) := x
    show h'.get? a = some (PySem.W.methodObj (.ref f) (.ref y))
    exact k a _ (.inl rfl) e
  | ext φ => obtain ⟨p, ⟨o, e⟩, st⟩ := x; exact ⟨st _ _ p fun o q => k _ _ (.inl rfl) q, ⟨o, k _ _ (.inl rfl) e⟩, st⟩
theorem HOk.lt (x : HOk P w H h) (e : H a = some o) : a < h.objs.size := (x a o e).lt
theorem HOk.fresh (x : HOk P w H h) (e : h.objs.size ≤ a) : H a = none := by
  cases q : H a with
  | none => rfl
  | some u => exact absurd (Nat.lt_of_lt_of_le (x.lt q) e) (Nat.lt_irrefl _)
theorem HOk.kept (x : HOk P w H h) (k : ∀ b u, h.get? b = some u → h'.get? b = some u) : HOk P w H h' := fun a o e =>
  (x a o e).stay (fun b u _ q => k b u q) (fun _ q => q) fun _ _ q => q
theorem HOk.laid (x : HOk P w H h) (k : ∀ b u, h.get? b = some u → h'.get? b = some u) (hp : h.objs.size ≤ a) (new : ObjOk P w (upd H a o) h' a o) : HOk P w (upd H a o) h' := fun b u e => by
  have hn := x.fresh hp
  by_cases hb : b = a
  · subst hb; rw [upd_same] at e; cases e; exact new
  · rw [upd_ne hb] at e
    exact (x b u e).stay (fun c v _ q => k c v q) (fun c q => by rw [upd_ne (ne_of_none q hn)]; exact q) fun c xs q => by rw [upd_ne (ne_of_none q hn)]; exact q
end
def Rd (H : Hp) (a : Addr) (u : HO) : Prop := H a = some u ∨ ∃ o, H a = some (.frz o u)
theorem Rd.of {H : Hp} {a : Addr} {u : HO} (h : H a = some u) : Rd H a u := .inl h
theorem Rd.ok {P : Program} {w : World} {H : Hp} {h : Heap} {a : Addr} {u : HO} (r : Rd H a u) (x : HOk P w H h) : ObjOk P w H h a u := by
  rcases r with r | ⟨o, r⟩
  · exact x a u r
  · obtain ⟨_, q⟩ := x a _ r
    exact q
def Mut : Option HO → Prop
  | some (.lst _) => True
  | some (.dK _) => True
  | some (.dT _) => True
  | some (.set _ _) => True
  | some (.ins _ _ _) => True
  | some (.ext _) => True
  | _ => False
section
variable {P : Program} {w : World} {H : Hp} {h h' : Heap} {x e : Addr} {o' : HO}
theorem HOk.write (ok : HOk P w H h) (mu : Mut (H x)) (he : e = x ∨ H e = some (.own x)) (k : ∀ b u, b ≠ e → h.get? b = some u → h'.get? b = some u) (heo : ∃ u, h'.get? e = some u)
    (new : ObjOk P w (upd H x o') h' x o') : HOk P w (upd H x o') h' := fun b u q => by
  have nown : ∀ c y, H c = some (.own y) → c ≠ x := fun c y r z => by subst z; rw [r] at mu; exact mu
  have ntup : ∀ c xs, H c = some (.tup xs) → c ≠ x := fun c xs r z => by subst z; rw [r] at mu; exact mu
  by_cases hb : b = x
  · subst hb; rw [upd_same] at q; cases q; exact new
  · rw [upd_ne hb] at q
    by_cases hbe : b = e
    · have q' : H b = some (.own x) := by
        rcases he with z | z
        · exact absurd (hbe.trans z) hb
        · rw [hbe]; exact z
      rw [q] at q'; cases q'
      obtain ⟨v, hv⟩ := heo
      exact ⟨v, by rw [hbe]; exact hv⟩
    · refine (ok b u q).stay (fun c v hc r => k c v ?_ r) (fun c r => by rw [upd_ne (nown c b r)]; exact r) fun c xs r => by rw [upd_ne (ntup c xs r)]; exact r
      rcases hc with rfl | hc
      · exact hbe
      · rintro rfl
        rcases he with z | z
        · exact nown c b hc z
        · rw [hc] at z; cases z; exact hb rfl
end
structure Un (fs ex : List Addr) (H H' : Hp) (h h' : Heap) : Prop where
  keep : ∀ b o, h.get? b = some o → H b = none → b ∉ fs → b ∉ ex → h'.get? b = some o
  slot : ∀ b o, h.get? b = some o → H b = none → b ∈ fs → b ∉ ex → ∃ sl, h'.get? b = some { o with slots := sl }
  free : ∀ b o, h.get? b = some o → H b = none → b ∉ ex → H' b = none
  there : ∀ b o, h.get? b = some o → b ∉ ex → ∃ o', h'.get? b = some o'
  tups : ∀ b xs, H b = some (.tup xs) → H' b = some (.tup xs)
  frzs : ∀ b o u, H b = some (.frz o u) → H' b = some (.frz o u)
  tbls : ∀ b ps, H b = some (.tbl ps) → ∃ more, H' b = some (.tbl (ps ++ more))
section
variable {fs fs' ex ex' : List Addr} {H H1 H2 : Hp} {h h1 h2 h' : Heap} {a x e : Addr} {o : HO}
theorem Un.any (u : Un fs ex H H1 h h1) {b : Addr} {ob : Obj} (q : h.get? b = some ob) (n : H b = none) (hx : b ∉ ex) : ∃ sl, h1.get? b = some { ob with slots := sl } := by
  by_cases hb : b ∈ fs
  · exact u.slot b ob q n hb hx
  · exact ⟨ob.slots, u.keep b ob q n hb hx⟩
theorem Un.trans (a : Un fs ex H H1 h h1) (b : Un fs ex H1 H2 h1 h2) : Un fs ex H H2 h h2 where
  keep := fun c ob q n hc hx => b.keep c ob (a.keep c ob q n hc hx) (a.free c ob q n hx) hc hx
  slot := fun c ob q n hc hx => by
    obtain ⟨sl, e1⟩ := a.slot c ob q n hc hx
    obtain ⟨sl', e2⟩ := b.slot c _ e1 (a.free c ob q n hx) hc hx
    exact ⟨sl', e2⟩
  free := fun c ob q n hx => by
    obtain ⟨o', e1⟩ := a.there c ob q hx
    exact b.free c o' e1 (a.free c ob q n hx) hx
  there := fun c ob q hx => by
    obtain ⟨o', e1⟩ := a.there c ob q hx
    exact b.there c o' e1 hx
  tups := fun c xs q => b.tups c xs (a.tups c xs q)
  frzs := fun c ob xs q => b.frzs c ob xs (a.frzs c ob xs q)
  tbls := fun c ps q => by
    obtain ⟨m1, e1⟩ := a.tbls c ps q
    obtain ⟨m2, e2⟩ := b.tbls c _ e1
    exact ⟨m1 ++ m2, by rw [e2, Array.append_assoc]⟩
theorem Un.kept (k : ∀ b u, h.get? b = some u → h'.get? b = some u) : Un fs ex H H h h' :=
  ⟨fun b ob q _ _ _ => k b ob q, fun b ob q _ _ _ => ⟨ob.slots, k b ob q⟩, fun _ _ _ n _ => n, fun b ob q _ => ⟨ob, k b ob q⟩, fun _ _ q => q, fun _ _ _ q => q, fun _ ps q => ⟨#[], by rw [q]; simp⟩⟩
theorem Un.refl : Un fs ex H H h h := Un.kept fun _ _ q => q
theorem Un.laid (k : ∀ b u, h.get? b = some u → h'.get? b = some u) (hp : h.objs.size ≤ a) (hn : H a = none) : Un fs ex H (upd H a o) h h' where
  keep := fun b u q _ _ _ => k b u q
  slot := fun b u q _ _ _ => ⟨u.slots, k b u q⟩
  free := fun b u q n _ => by rw [upd_ne (Nat.ne_of_lt (Nat.lt_of_lt_of_le (Heap.lt_size q) hp))]; exact n
  there := fun b u q _ => ⟨u, k b u q⟩
  tups := fun b xs q => by rw [upd_ne (ne_of_none q hn)]; exact q
  frzs := fun b u xs q => by rw [upd_ne (ne_of_none q hn)]; exact q
  tbls := fun b ps q => ⟨#[], by rw [upd_ne (ne_of_none q hn), q]; simp⟩
theorem Un.write (mu : Mut (H x)) (he : e = x ∨ H e = some (.own x)) (k : ∀ b u, b ≠ e → h.get? b = some u → h'.get? b = some u) (heo : ∃ u, h'.get? e = some u) : Un fs ex H (upd H x o) h h' := by
  have hx : ∀ b, H b = none → b ≠ x := fun b n z => by subst z; rw [n] at mu; exact mu
  have hb : ∀ b, H b = none → b ≠ e := fun b n z => by
    subst z
    rcases he with r | r
    · exact hx b n r
    · rw [n] at r; cases r
  have hm : ∀ b u, H b = some u → ¬ Mut (some u) → b ≠ x := fun b u q nm z => by subst z; rw [q] at mu; exact nm mu
  refine ⟨fun b u q n _ _ => k b u (hb b n) q, fun b u q n _ _ => ⟨u.slots, k b u (hb b n) q⟩, fun b u q n _ => by rw [upd_ne (hx b n)]; exact n, fun b u q _ => ?_,
    fun b xs q => by rw [upd_ne (hm b _ q fun z => z)]; exact q, fun b u xs q => by rw [upd_ne (hm b _ q fun z => z)]; exact q, fun b ps q => ⟨#[], by rw [upd_ne (hm b _ q fun z => z), q]; simp⟩⟩
  by_cases hbe : b = e
  · subst hbe; exact heo
  · exact ⟨u, k b u hbe q⟩
theorem Un.mono (u : Un fs ex H H1 h h1) (hs : ∀ b ∈ fs, b ∈ fs') (hx : ∀ b ∈ ex, b ∈ ex') : Un fs' ex' H H1 h h1 :=
  ⟨fun b ob q n hb he => u.keep b ob q n (fun z => hb (hs b z)) fun z => he (hx b z), fun _ _ q n _ he => u.any q n fun z => he (hx _ z), fun b ob q n he => u.free b ob q n fun z => he (hx b z), fun b ob q he => u.there b ob q fun z => he (hx b z), u.tups, u.frzs, u.tbls⟩
end
def trk (h : Heap) (H : Hp) : List Addr := (List.range h.objs.size).filter fun a => (H a).isSome
def hidT (h : Heap) (H : Hp) : Heap := PySem.W.hideAll h (trk h H)
theorem hidT_size (h : Heap) (H : Hp) : (hidT h H).objs.size = h.objs.size := PySem.W.hideAll_size _ _
theorem hidT_get {h : Heap} {H : Hp} {b : Addr} {o : Obj} (e : h.get? b = some o) (n : H b = none) : (hidT h H).get? b = some o :=
  PySem.W.hideAll_get _ e fun hm => by
    have q : (H b).isSome = true := (List.mem_filter.mp hm).2
    rw [n] at q; simp at q
theorem of_hidT {h : Heap} {H : Hp} {b : Addr} {o : Obj} (e : (hidT h H).get? b = some o) : h.get? b = some o ∧ H b = none := by
  have e' : h.get? b = some o := PySem.W.of_hideAll (trk h H) e
  refine ⟨e', ?_⟩
  cases q : H b with
  | none => rfl
  | some x =>
    have hm : b ∈ trk h H := List.mem_filter.mpr ⟨List.mem_range.mpr (Heap.lt_size e'), by simp [q]⟩
    have z : (hidT h H).get? b = none := PySem.W.hideAll_none (trk h H) hm
    rw [z] at e; cases e
def allNews (g h : Heap) (L : Addr) : List (Addr × Obj) := (List.range h.objs.size).filterMap fun a => if a = L ∨ (g.get? a).isSome = true then none else (h.get? a).map fun o => (a, o)
def rest (g h : Heap) (L d : Addr) : List (Addr × Obj) := (allNews g h L).filter fun p => decide (p.1 ≠ d)
end L2
namespace L2
open PySem PySem.Spec PyProof.Rows DD
structure Mod (K : PySem.W.Frag) (mg : Str → Option Value) (base : Heap) : Prop where
  kin : K.In base
  glob : base.Ns mainGlobals mg
  blt : ∃ mb, base.Ns builtinsNs mb ∧ ∀ x : Str, x ≠ "__name__" → mb x = bootBuiltins x
  nolimit : base.NoLimit
structure Cx where
  prog : Program
  w : World
  K : PySem.W.Frag
  mg : Str → Option Value
  base : Heap
  A : Around
  N : List Str
  s₀ : Shared
  H₀ : Hp
  env : Env
  outer : List Env
  stack : List Env
  ex : List Addr
  fn : Str → Bool
  calm : Bool
  pn : List (Addr × Obj)
  xe : Value → Shared → Prop
def frs (l : List Env) : List Addr := l.filterMap (·.frame)
abbrev Cx.fs (X : Cx) : List Addr := frs X.outer
def Vis (sc : Scope) (x : Str) : Prop := sc.names.lookup x = some .local ∨ sc.names.lookup x = some .cell ∨ sc.names.lookup x = some .free
def Loc (sc : Scope) (x : Str) : Prop := sc.names.lookup x = some .local ∨ sc.names.lookup x = some .cell
def Look (env : Env) (h : Heap) (m : Str → Option Value) (x : Str) (u : Value) : Prop :=
  (env.kindOf x = some .local ∧ m x = some u) ∨ ((env.kindOf x = some .cell ∨ env.kindOf x = some .free) ∧ ∃ c, env.cells.lookup x = some c ∧ h.IsCell c (some u))
structure Cx.Ok (X : Cx) : Prop where
  mod : Mod X.K X.mg X.base
  kind : X.env.scope.kind = .function
  glob : X.env.globals = mainGlobals
  blt : X.env.builtins = builtinsNs
  above : X.s₀.heap.objs.size ≤ X.env.locals
  inj : ∀ x y c, X.env.cells.lookup x = some c → X.env.cells.lookup y = some c → x = y
  has : ∀ x, (X.env.kindOf x = some .cell ∨ X.env.kindOf x = some .free) → ∃ c, X.env.cells.lookup x = some c
  cab : ∀ x c, X.fn x = true → X.env.cells.lookup x = some c → X.s₀.heap.objs.size ≤ c
  hd : X.calm = true → X.A.handled = none
  frames : X.A.frames = some X.stack
  stk : X.stack = X.outer ∨ (X.stack = X.env :: X.outer ∧ X.env.frame = some X.env.locals)
  exf : ∀ b ∈ X.ex, b ≠ X.env.locals ∧ ∀ x c, X.env.cells.lookup x = some c → c ≠ b
  bs : ∀ b o, X.base.get? b = some o → X.s₀.heap.get? b = some o ∧ X.H₀ b = none
  bsz : X.base.objs.size ≤ X.s₀.heap.objs.size
  noex : ∀ b o, X.base.get? b = some o → b ∉ X.ex
  exfs : ∀ b ∈ X.ex, b ∉ X.fs
  funs : X.s₀.heap.FunFrames X.base X.outer
  frf : ∀ b ∈ X.fs, X.H₀ b = none
structure Inv (X : Cx) (pins : List (Addr × Obj)) (σ : List (Option V)) (H : Hp) (s : Shared) : Prop where
  ok : X.Ok
  os : s.os = X.s₀.os
  bare : AllBare s.gens
  base : Un X.fs X.ex X.H₀ H X.s₀.heap s.heap
  loc : ∃ m, s.heap.Ns X.env.locals m ∧ ∀ (i : Nat) (x : Str) (v : V), X.N[i]? = some x → σ[i]? = some (some v) → Vis X.env.scope x → ∃ u, RelV v u ∧ Look X.env s.heap m x u
  cell : ∀ x c, X.env.cells.lookup x = some c → ∃ v, s.heap.IsCell c v
  free : H X.env.locals = none
  freeC : ∀ x c, X.env.cells.lookup x = some c → H c = none
  pin : ∀ p ∈ X.pn ++ pins, s.heap.get? p.1 = some p.2 ∧ H p.1 = none ∧ p.1 ≠ X.env.locals ∧ p.1 ∉ X.fs ∧ ∀ v, p.2.data ≠ .cell v
  hok : HOk X.prog X.w H s.heap
  len : σ.length = X.N.length
section
variable {X : Cx} {pins : List (Addr × Obj)} {σ : List (Option V)} {H H' : Hp} {s : Shared} {h' : Heap}
theorem Cx.Ok.nofr (ok : X.Ok) {b : Addr} {o : Obj} (e : X.base.get? b = some o) : b ∉ X.fs := fun hb => by
  have := (ok.funs.mem hb).1
  rw [e] at this; cases this
theorem Inv.bs (I : Inv X pins σ H s) : ∀ b o, X.base.get? b = some o → s.heap.get? b = some o ∧ H b = none := fun b o e =>
  ⟨I.base.keep b o (I.ok.bs b o e).1 (I.ok.bs b o e).2 (I.ok.nofr e) (I.ok.noex b o e), I.base.free b o (I.ok.bs b o e).1 (I.ok.bs b o e).2 (I.ok.noex b o e)⟩
theorem Inv.bk (I : Inv X pins σ H s) : ∀ b o, X.base.get? b = some o → s.heap.get? b = some o := fun b o e => (I.bs b o e).1
theorem Inv.mod (I : Inv X pins σ H s) : Mod X.K X.mg X.base := I.ok.mod
theorem Inv.kIn (I : Inv X pins σ H s) : X.K.In s.heap := I.ok.mod.kin.keeps I.bk
theorem Inv.nolimit (I : Inv X pins σ H s) : s.heap.NoLimit := I.ok.mod.nolimit.keeps I.bk
theorem Inv.lt (I : Inv X pins σ H s) : X.env.locals < s.heap.objs.size := let ⟨_, hn, _⟩ := I.loc; hn.lt
theorem Inv.sz (I : Inv X pins σ H s) : X.s₀.heap.objs.size ≤ s.heap.objs.size := Nat.le_trans I.ok.above (Nat.le_of_lt I.lt)
theorem Inv.nofs (I : Inv X pins σ H s) {a : Addr} (h : s.heap.objs.size ≤ a) : a ∉ X.fs := fun hb => by
  obtain ⟨_, o, ho, _⟩ := I.ok.funs.mem hb
  exact absurd (Nat.lt_of_lt_of_le (Heap.lt_size ho) (Nat.le_trans I.sz h)) (Nat.lt_irrefl _)
theorem Inv.cne (I : Inv X pins σ H s) : ∀ x c, X.env.cells.lookup x = some c → c ≠ X.env.locals := fun x c e z => by
  obtain ⟨v, o, ho, hd⟩ := I.cell x c e
  obtain ⟨m, ⟨o', es, ep, ho', hd', _⟩, _⟩ := I.loc
  rw [z, ho'] at ho; cases ho; rw [hd'] at hd; cases hd
theorem Inv.funs (I : Inv X pins σ H s) : s.heap.FunFrames X.base X.outer := by
  have all : ∀ (l : List Env), (∀ b ∈ frs l, b ∈ X.fs) → X.s₀.heap.FunFrames X.base l → s.heap.FunFrames X.base l := by
    intro l
    induction l with
    | nil => intro _ _; trivial
    | cons env r ih =>
      intro hs hl
      obtain ⟨hk, ⟨L, o, hf, hn, ho, hd⟩, hr⟩ := hl
      have hL : L ∈ X.fs := hs L (by unfold frs; rw [List.filterMap_cons, hf]; exact List.mem_cons_self)
      obtain ⟨sl, e⟩ := I.base.slot L o ho (I.ok.frf L hL) hL fun z => I.ok.exfs L z hL
      exact ⟨hk, ⟨L, _, hf, hn, e, hd⟩, ih (fun b hb => hs b (by unfold frs; rw [List.filterMap_cons, hf]; exact List.mem_cons_of_mem _ hb)) hr⟩
  exact all X.outer (fun _ hb => hb) I.ok.funs
theorem Inv.stack (I : Inv X pins σ H s) : s.heap.FunFrames X.base X.stack := by
  rcases I.ok.stk with e | ⟨e, hf⟩
  · rw [e]; exact I.funs
  · rw [e]
    obtain ⟨m, hn, _⟩ := I.loc
    refine .cons (by rw [I.ok.kind]; decide) hf hn ?_ I.funs
    exact Heap.get?_none_of_le (Nat.le_trans I.ok.bsz I.ok.above)
theorem Inv.stkSub (I : Inv X pins σ H s) : ∀ b ∈ frs X.stack, b ∈ X.env.locals :: X.fs := fun b hb => by
  rcases I.ok.stk with e | ⟨e, hf⟩
  · rw [e] at hb; exact List.mem_cons_of_mem _ hb
  · rw [e] at hb
    unfold frs at hb
    rw [List.filterMap_cons, hf] at hb
    exact hb
theorem Inv.stkFree (I : Inv X pins σ H s) : ∀ b ∈ frs X.stack, H b = none := fun b hb => by
  rcases List.mem_cons.mp (I.stkSub b hb) with e | hb
  · rw [e]; exact I.free
  · obtain ⟨_, o, ho, _⟩ := I.ok.funs.mem hb
    exact I.base.free b o ho (I.ok.frf b hb) fun z => I.ok.exfs b z hb
theorem Inv.step {g' : Array GenState} {t' : Nat} {d' : Drawn} {ch : List Addr} (I : Inv X pins σ H s)
    (hch : ∀ b ∈ ch, (b ∈ X.ex ∨ X.s₀.heap.objs.size ≤ b) ∧ b ≠ X.env.locals ∧ (∀ x c, X.env.cells.lookup x = some c → c ≠ b) ∧ ∀ p ∈ X.pn ++ pins, p.1 ≠ b)
    (keep : ∀ b o, b ≠ X.env.locals → b ∉ X.fs → b ∉ ch → s.heap.get? b = some o → H b = none → h'.get? b = some o)
    (slot : ∀ b o, b ≠ X.env.locals → b ∈ X.fs → b ∉ ch → s.heap.get? b = some o → H b = none → ∃ sl, h'.get? b = some { o with slots := sl }) (free : ∀ b o, b ∉ ch → s.heap.get? b = some o → H b = none → H' b = none)
    (there : ∀ b o, b ∉ ch → s.heap.get? b = some o → ∃ o', h'.get? b = some o')
    (tups : ∀ b xs, H b = some (.tup xs) → H' b = some (.tup xs)) (frzs : ∀ b o u, H b = some (.frz o u) → H' b = some (.frz o u)) (tbls : ∀ b ps, H b = some (.tbl ps) → ∃ more, H' b = some (.tbl (ps ++ more)))
    (ns : ∀ m, s.heap.Ns X.env.locals m → h'.Ns X.env.locals m) (hok : HOk X.prog X.w H' h') (hg : AllBare g') :
    Inv X pins σ H' { s with heap := h', gens := g', drawn := d', toks := t' } := by
  have neL : ∀ b o, X.s₀.heap.get? b = some o → b ≠ X.env.locals := fun b o e => Nat.ne_of_lt (Nat.lt_of_lt_of_le (Heap.lt_size e) I.ok.above)
  have neC : ∀ b o, X.s₀.heap.get? b = some o → b ∉ X.ex → b ∉ ch := fun b o e hx hb => by
    rcases (hch b hb).1 with z | z
    · exact hx z
    · exact absurd (Nat.lt_of_lt_of_le (Heap.lt_size e) z) (Nat.lt_irrefl _)
  have cellK : ∀ x c, X.env.cells.lookup x = some c → ∀ v, s.heap.IsCell c v → h'.IsCell c v := fun x c e v ⟨o, ho, hd⟩ => by
    have nch : c ∉ ch := fun z => (hch c z).2.2.1 x c e rfl
    by_cases hc : c ∈ X.fs
    · obtain ⟨sl, q⟩ := slot c o (I.cne x c e) hc nch ho (I.freeC x c e)
      exact ⟨_, q, hd⟩
    · exact ⟨o, keep c o (I.cne x c e) hc nch ho (I.freeC x c e), hd⟩
  refine ⟨I.ok, I.os, hg, ⟨fun b o e n hb hx => ?_, fun b o e n hb hx => ?_, fun b o e n hx => ?_, fun b o e hx => ?_, fun b xs e => tups b xs (I.base.tups b xs e), fun b o xs e => frzs b o xs (I.base.frzs b o xs e), fun b ps e => ?_⟩, ?_, fun x c e => ?_, ?_, fun x c e => ?_, fun p hp => ?_, hok, I.len⟩
  · exact keep b o (neL b o e) hb (neC b o e hx) (I.base.keep b o e n hb hx) (I.base.free b o e n hx)
  · obtain ⟨sl, e1⟩ := I.base.slot b o e n hb hx
    obtain ⟨sl', e2⟩ := slot b _ (neL b o e) hb (neC b o e hx) e1 (I.base.free b o e n hx)
    exact ⟨sl', e2⟩
  · obtain ⟨o', e1⟩ := I.base.there b o e hx
    exact free b o' (neC b o e hx) e1 (I.base.free b o e n hx)
  · obtain ⟨o', e1⟩ := I.base.there b o e hx
    exact there b o' (neC b o e hx) e1
  · obtain ⟨m1, e1⟩ := I.base.tbls b ps e
    obtain ⟨m2, e2⟩ := tbls b _ e1
    exact ⟨m1 ++ m2, by rw [e2, Array.append_assoc]⟩
  · obtain ⟨m, hn, hl⟩ := I.loc
    refine ⟨m, ns m hn, fun i x v e1 e2 e3 => ?_⟩
    obtain ⟨u, r, l⟩ := hl i x v e1 e2 e3
    refine ⟨u, r, ?_⟩
    rcases l with l | ⟨k, c, e, z⟩
    · exact .inl l
    · exact .inr ⟨k, c, e, cellK x c e _ z⟩
  · obtain ⟨v, z⟩ := I.cell x c e
    exact ⟨v, cellK x c e v z⟩
  · obtain ⟨m, ⟨o, _, _, ho, _⟩, _⟩ := I.loc
    exact free _ o (fun z => (hch _ z).2.1 rfl) ho I.free
  · obtain ⟨v, o, ho, hd⟩ := I.cell x c e
    exact free c o (fun z => (hch c z).2.2.1 x c e rfl) ho (I.freeC x c e)
  · obtain ⟨e, n, ne, nf, d⟩ := I.pin p hp
    have nch : p.1 ∉ ch := fun z => (hch p.1 z).2.2.2 p hp rfl
    exact ⟨keep p.1 p.2 ne nf nch e n, free p.1 p.2 nch e n, ne, nf, d⟩
theorem Inv.un {t' : Nat} (I : Inv X pins σ H s) (u : Un X.fs [] H H' s.heap h') (hok : HOk X.prog X.w H' h') : Inv X pins σ H' { s with heap := h', toks := t' } := by
  obtain ⟨m, ⟨o, es, ep, ho, r⟩, _⟩ := id I.loc
  obtain ⟨sl, hL⟩ := u.any ho I.free (by simp)
  exact I.step (g' := s.gens) (d' := s.drawn) (ch := []) (fun _ z => nomatch z) (fun b o _ hb _ e n => u.keep b o e n hb (by simp)) (fun b o _ hb _ e n => u.slot b o e n hb (by simp)) (fun b o _ e n => u.free b o e n (by simp)) (fun b o _ e => u.there b o e (by simp)) u.tups u.frzs u.tbls (fun m' hm => by
    obtain ⟨o', es', ep', ho', r'⟩ := hm
    rw [ho] at ho'; cases ho'
    exact ⟨_, es', ep', hL, r'⟩) hok I.bare
theorem Inv.call {g' : Array GenState} {t' : Nat} {d' : Drawn} {ch : List Addr} (I : Inv X pins σ H s) (u : Un (frs X.stack) ch H H' s.heap h') (hok : HOk X.prog X.w H' h') (hg : AllBare g')
    (hch : ∀ b ∈ ch, (b ∈ X.ex ∨ X.s₀.heap.objs.size ≤ b) ∧ b ≠ X.env.locals ∧ (∀ x c, X.env.cells.lookup x = some c → c ≠ b) ∧ ∀ p ∈ X.pn ++ pins, p.1 ≠ b) :
    Inv X pins σ H' { s with heap := h', gens := g', drawn := d', toks := t' } := by
  obtain ⟨m, ⟨o, es, ep, ho, r⟩, _⟩ := id I.loc
  obtain ⟨sl, hL⟩ := u.any ho I.free fun z => (hch _ z).2.1 rfl
  exact I.step (ch := ch) hch (fun b o hL hb hc e n => u.keep b o e n (fun z => (List.mem_cons.mp (I.stkSub b z)).elim hL hb) hc) (fun b o _ _ hc e n => u.any e n hc) (fun b o hc e n => u.free b o e n hc) (fun b o hc e => u.there b o e hc) u.tups u.frzs u.tbls (fun m' hm => by
    obtain ⟨o', es', ep', ho', r'⟩ := hm
    rw [ho] at ho'; cases ho'
    exact ⟨_, es', ep', hL, r'⟩) hok hg
theorem Inv.turned {t' : Nat} {it : Addr} (I : Inv X pins σ H s) (k : ∀ b o, b ≠ it → s.heap.get? b = some o → h'.get? b = some o) (hn : H it = none) (hL : it ≠ X.env.locals)
    (h1 : it ∈ X.ex ∨ X.s₀.heap.objs.size ≤ it) (h2 : ∀ x c, X.env.cells.lookup x = some c → c ≠ it) (h3 : ∀ p ∈ X.pn ++ pins, p.1 ≠ it) : Inv X pins σ H { s with heap := h', toks := t' } := by
  have nit : ∀ b u, H b = some u → b ≠ it := fun b u e z => by rw [z, hn] at e; cases e
  refine I.step (g' := s.gens) (d' := s.drawn) (ch := [it]) (fun b hb => ?_) (fun b o _ _ hc e _ => k b o (fun z => hc (by simp [z])) e) (fun b o _ _ hc e _ => ⟨o.slots, k b o (fun z => hc (by simp [z])) e⟩) (fun _ _ _ _ n => n)
    (fun b o hc e => ⟨o, k b o (fun z => hc (by simp [z])) e⟩) (fun _ _ e => e) (fun _ _ _ e => e) (fun b ps e => ⟨#[], by rw [e]; simp⟩) (fun m hm => ?_) (fun b u e => ?_) I.bare
  · have e : b = it := by simpa using hb
    subst e
    exact ⟨h1, hL, h2, h3⟩
  · obtain ⟨o, es, ep, ho, r⟩ := hm
    exact ⟨o, es, ep, k _ o (Ne.symm hL) ho, r⟩
  · refine (I.hok b u e).stay (fun c v hc q => k c v ?_ q) (fun _ q => q) fun _ _ q => q
    rcases hc with z | z
    · rw [z]; exact nit b u e
    · exact nit c _ z
theorem Inv.tok (I : Inv X pins σ H s) (t : Nat) : Inv X pins σ H { s with toks := t } := I.un (h' := s.heap) (t' := t) Un.refl I.hok
theorem Inv.kept {t' : Nat} (I : Inv X pins σ H s) (k : ∀ b u, s.heap.get? b = some u → h'.get? b = some u) : Inv X pins σ H { s with heap := h', toks := t' } := I.un (Un.kept k) (I.hok.kept k)
theorem Inv.laid {a : Addr} {o : HO} {t' : Nat} (I : Inv X pins σ H s) (k : ∀ b u, s.heap.get? b = some u → h'.get? b = some u) (hp : s.heap.objs.size ≤ a) (new : ObjOk X.prog X.w (upd H a o) h' a o) :
    Inv X pins σ (upd H a o) { s with heap := h', toks := t' } := I.un (Un.laid k hp (I.hok.fresh hp)) (I.hok.laid k hp new)
theorem Inv.write {x e : Addr} {o : HO} {t' : Nat} (I : Inv X pins σ H s) (mu : Mut (H x)) (he : e = x ∨ H e = some (.own x)) (k : ∀ b u, b ≠ e → s.heap.get? b = some u → h'.get? b = some u) (heo : ∃ u, h'.get? e = some u)
    (new : ObjOk X.prog X.w (upd H x o) h' x o) : Inv X pins σ (upd H x o) { s with heap := h', toks := t' } := I.un (Un.write mu he k heo) (I.hok.write mu he k heo new)
theorem Inv.pins_of {pins' : List (Addr × Obj)} (I : Inv X pins σ H s) (h : ∀ p ∈ pins', s.heap.get? p.1 = some p.2 ∧ H p.1 = none ∧ p.1 ≠ X.env.locals ∧ p.1 ∉ X.fs ∧ ∀ v, p.2.data ≠ .cell v) : Inv X pins' σ H s :=
  ⟨I.ok, I.os, I.bare, I.base, I.loc, I.cell, I.free, I.freeC, fun p hp => (List.mem_append.mp hp).elim (fun z => I.pin p (List.mem_append_left _ z)) (h p), I.hok, I.len⟩
theorem nodup_ix {N : List Str} (hN : N.Nodup) {i j : Nat} {x : Str} (a : N[i]? = some x) (b : N[j]? = some x) : i = j := by
  obtain ⟨h1, e1⟩ := List.getElem?_eq_some_iff.mp a
  obtain ⟨h2, e2⟩ := List.getElem?_eq_some_iff.mp b
  exact (List.getElem_inj hN).mp (e1.trans e2.symm)
theorem store_ok2 {M : Model} {A : Around} {E : Value → Shared → Prop} {i : Nat} {x : Str} {v : V} {u : Value} {Q : Unit → Shared → Prop} (I : Inv X pins σ H s) (hN : X.N.Nodup) (hi : X.N[i]? = some x) (hx : Loc X.env.scope x) (r : RelV v u)
    (h : ∀ s', Inv X pins (σ.set i (some v)) H s' → (∃ a, Heap.SameBut a s.heap s'.heap ∧ (a = X.env.locals ∨ X.env.cells.lookup x = some a)) → Q () s') (hf : X.fn x = true ∨ X.env.scope.names.lookup x = some .local := by first | exact .inl rfl | exact .inr rfl | assumption) : wpAny M A (storeName X.env x u) Q E s := by
  obtain ⟨m, hn, hl⟩ := id I.loc
  have hcls : (X.env.scope.kind == .class || (X.env.scope.kind == .module && X.env.locals != X.env.globals)) = false := by rw [I.ok.kind]; rfl
  have hiσ : i < σ.length := by rw [I.len]; exact (List.getElem?_eq_some_iff.mp hi).1
  have cne := I.cne
  have tracked : ∀ {a : Addr} {h' : Heap}, (∃ o, s.heap.get? a = some o ∧ H a = none) → Heap.SameBut a s.heap h' → HOk X.prog X.w H h' := fun {a h'} ha hs b ob e => by
    obtain ⟨_, _, hfree⟩ := ha
    refine (I.hok b ob e).stay (fun c w' hc q => (hs.2 c ?_).trans q) (fun _ q => q) fun _ _ q => q
    rintro rfl
    rcases hc with rfl | hc
    · rw [hfree] at e; cases e
    · rw [hfree] at hc; cases hc
  rcases hx with hk | hk
  · refine wpAny_storeName_local hk hn (fun h' hn' hs => ?_) hcls
    obtain ⟨oL, _, _, hoL, _⟩ := id hn
    refine h _ ⟨I.ok, I.os, I.bare, ⟨fun b o e n hb hx => ?_, fun b o e n hb hx => ?_, I.base.free, fun b o e hx => ?_, I.base.tups, I.base.frzs, I.base.tbls⟩, ⟨_, hn', fun j y v' e1 e2 e3 => ?_⟩, fun y c e => ?_, I.free, I.freeC, fun p hp => ?_, tracked ⟨oL, hoL, I.free⟩ hs, by simpa using I.len⟩ ⟨_, hs, .inl rfl⟩
    · exact (hs.2 b (Nat.ne_of_lt (Nat.lt_of_lt_of_le (Heap.lt_size e) I.ok.above))).trans (I.base.keep b o e n hb hx)
    · obtain ⟨sl, e1⟩ := I.base.slot b o e n hb hx
      exact ⟨sl, (hs.2 b (Nat.ne_of_lt (Nat.lt_of_lt_of_le (Heap.lt_size e) I.ok.above))).trans e1⟩
    · obtain ⟨o', e1⟩ := I.base.there b o e hx
      exact ⟨o', (hs.2 b (Nat.ne_of_lt (Nat.lt_of_lt_of_le (Heap.lt_size e) I.ok.above))).trans e1⟩
    · by_cases hj : j = i
      · subst hj
        rw [hi] at e1; cases e1
        rw [List.getElem?_set_self hiσ] at e2
        cases e2
        exact ⟨u, r, .inl ⟨hk, by simp⟩⟩
      · rw [List.getElem?_set_ne (Ne.symm hj)] at e2
        obtain ⟨u', r', q⟩ := hl j y v' e1 e2 e3
        refine ⟨u', r', ?_⟩
        rcases q with ⟨k, e⟩ | ⟨k, c, e, z⟩
        · refine .inl ⟨k, ?_⟩
          have : y ≠ x := fun e => hj (nodup_ix hN e1 (e ▸ hi))
          simp [this, e]
        · exact .inr ⟨k, c, e, z.sameBut hs (cne y c e)⟩
    · obtain ⟨w', z⟩ := I.cell y c e
      exact ⟨w', z.sameBut hs (cne y c e)⟩
    · obtain ⟨e, n, ne, nf, d⟩ := I.pin p hp
      exact ⟨(hs.2 p.1 ne).trans e, n, ne, nf, d⟩
  · have hfn : X.fn x = true := by
      rcases hf with z | z
      · exact z
      · rw [z] at hk; cases hk
    obtain ⟨c, hc⟩ := I.ok.has x (.inl hk)
    obtain ⟨w', z⟩ := I.cell x c hc
    refine wpAny_storeName_cell I.ok.kind hk hc z (fun h' hc' hs => ?_)
    obtain ⟨oc, hoc, hocd⟩ := id z
    refine h { s with heap := h' } ⟨I.ok, I.os, I.bare, ⟨fun b o e n hb hx => ?_, fun b o e n hb hx => ?_, I.base.free, fun b o e hx => ?_, I.base.tups, I.base.frzs, I.base.tbls⟩, ⟨m, hn.sameBut hs (Ne.symm (cne x c hc)), fun j y v' e1 e2 e3 => ?_⟩, fun y c' e => ?_, I.free, I.freeC, fun p hp => ?_, tracked ⟨oc, hoc, I.freeC x c hc⟩ hs, by simpa using I.len⟩ ⟨c, hs, .inr hc⟩
    · exact (hs.2 b (Nat.ne_of_lt (Nat.lt_of_lt_of_le (Heap.lt_size e) (I.ok.cab x c hfn hc)))).trans (I.base.keep b o e n hb hx)
    · obtain ⟨sl, e1⟩ := I.base.slot b o e n hb hx
      exact ⟨sl, (hs.2 b (Nat.ne_of_lt (Nat.lt_of_lt_of_le (Heap.lt_size e) (I.ok.cab x c hfn hc)))).trans e1⟩
    · obtain ⟨o', e1⟩ := I.base.there b o e hx
      exact ⟨o', (hs.2 b (Nat.ne_of_lt (Nat.lt_of_lt_of_le (Heap.lt_size e) (I.ok.cab x c hfn hc)))).trans e1⟩
    · by_cases hj : j = i
      · subst hj
        rw [hi] at e1; cases e1
        rw [List.getElem?_set_self hiσ] at e2
        cases e2
        exact ⟨u, r, .inr ⟨.inl hk, c, hc, hc'⟩⟩
      · rw [List.getElem?_set_ne (Ne.symm hj)] at e2
        obtain ⟨u', r', q⟩ := hl j y v' e1 e2 e3
        refine ⟨u', r', ?_⟩
        rcases q with q | ⟨k, c', e, z'⟩
        · exact .inl q
        · refine .inr ⟨k, c', e, z'.sameBut hs ?_⟩
          rintro rfl
          exact hj (nodup_ix hN e1 (I.ok.inj _ _ _ e hc ▸ hi))
    · by_cases hcc : c' = c
      · subst hcc; exact ⟨_, hc'⟩
      · obtain ⟨w2, z2⟩ := I.cell y c' e
        exact ⟨w2, z2.sameBut hs hcc⟩
    · obtain ⟨e, n, ne, nf, d⟩ := I.pin p hp
      refine ⟨(hs.2 p.1 ?_).trans e, n, ne, nf, d⟩
      intro q
      rw [q, hoc] at e
      have q' : oc = p.2 := Option.some.inj e
      exact d w' (by rw [← q']; exact hocd)
theorem store_ok {M : Model} {A : Around} {E : Value → Shared → Prop} {i : Nat} {x : Str} {v : V} {u : Value} {Q : Unit → Shared → Prop} (I : Inv X pins σ H s) (hN : X.N.Nodup) (hi : X.N[i]? = some x) (hx : Loc X.env.scope x) (r : RelV v u)
    (h : ∀ s', Inv X pins (σ.set i (some v)) H s' → Q () s') (hf : X.fn x = true ∨ X.env.scope.names.lookup x = some .local := by first | exact .inl rfl | exact .inr rfl | assumption) : wpAny M A (storeName X.env x u) Q E s :=
  store_ok2 I hN hi hx r (fun s' I' _ => h s' I') hf
theorem Inv.call' {s' : Shared} {ch : List Addr} (I : Inv X pins σ H s) (ho : s'.os = s.os) (u : Un (frs X.stack) ch H H' s.heap s'.heap) (hok : HOk X.prog X.w H' s'.heap) (hg : AllBare s'.gens)
    (hch : ∀ b ∈ ch, (b ∈ X.ex ∨ X.s₀.heap.objs.size ≤ b) ∧ b ≠ X.env.locals ∧ (∀ x c, X.env.cells.lookup x = some c → c ≠ b) ∧ ∀ p ∈ X.pn ++ pins, p.1 ≠ b) : Inv X pins σ H' s' := by
  obtain ⟨h', g', d', t', o'⟩ := s'
  have e : o' = s.os := ho
  subst e
  exact I.call (g' := g') (t' := t') (d' := d') u hok hg hch
end
abbrev XK := Value → Option Addr → Hp → Prop
abbrev St := List (Option V)
abbrev VK := V → Hp → Prop
abbrev TE := St → Hp → VK → Prop
abbrev TT := St → Hp → (Bool → Hp → Prop) → Prop
abbrev TA := St → Hp → (List V → Hp → Prop) → Prop
structure Ends where
  nx : St → Hp → Prop
  rt : VK
  bk : St → Hp → Prop := fun _ _ => False
  ct : St → Hp → Prop := fun _ _ => False
abbrev TS := Ends → St → Hp → Prop
def EP (X : Cx) (pins : List (Addr × Obj)) (σ : St) (Q : VK) (u : Value) (s' : Shared) : Prop := ∃ v H', Inv X pins σ H' s' ∧ RelV v u ∧ Q v H'
def TP (X : Cx) (pins : List (Addr × Obj)) (σ : St) (Q : Bool → Hp → Prop) (b : Bool) (s' : Shared) : Prop := ∃ H', Inv X pins σ H' s' ∧ Q b H'
def AP (X : Cx) (pins : List (Addr × Obj)) (σ : St) (Q : List V → Hp → Prop) (us : List Value) (s' : Shared) : Prop := ∃ vs H', Inv X pins σ H' s' ∧ Vals vs us ∧ Q vs H'
def SP (X : Cx) (pins : List (Addr × Obj)) (D : Ends) (f : Flow) (s' : Shared) : Prop :=
  match f with
  | .next => ∃ σ' H', Inv X pins σ' H' s' ∧ D.nx σ' H'
  | .brk => ∃ σ' H', Inv X pins σ' H' s' ∧ D.bk σ' H'
  | .cont => ∃ σ' H', Inv X pins σ' H' s' ∧ D.ct σ' H'
  | .ret u => ∃ v σ' H', Inv X pins σ' H' s' ∧ RelV v u ∧ D.rt v H'
def PE (X : Cx) (e : Expr) (t : TE) : Prop :=
  ∀ (pins : List (Addr × Obj)) (s : Shared) (σ : St) (H : Hp) (Q : VK), Inv X pins σ H s → t σ H Q → wpAny (model X.prog X.w) X.A (eval e X.env) (EP X pins σ Q) X.xe s
def PT (X : Cx) (e : Expr) (t : TT) : Prop :=
  ∀ (pins : List (Addr × Obj)) (s : Shared) (σ : St) (H : Hp) (Q : Bool → Hp → Prop), Inv X pins σ H s → t σ H Q → wpAny (model X.prog X.w) X.A (isTrue e X.env (eval e X.env)) (TP X pins σ Q) X.xe s
def PW (X : Cx) (e : Expr) (t : TT) : Prop :=
  ∀ (whole : Sem Value) (pins : List (Addr × Obj)) (s : Shared) (σ : St) (H : Hp) (Q : Bool → Hp → Prop), Inv X pins σ H s → t σ H Q → wpAny (model X.prog X.w) X.A (isTrue e X.env whole) (TP X pins σ Q) X.xe s
theorem PW.pt {X : Cx} {e : Expr} {t : TT} (h : PW X e t) : PT X e t := h _
def PA (X : Cx) (es : List Expr) (t : TA) : Prop :=
  ∀ (pos : Pos) (pins : List (Addr × Obj)) (s : Shared) (σ : St) (H : Hp) (Q : List V → Hp → Prop), Inv X pins σ H s → t σ H Q → wpAny (model X.prog X.w) X.A (spliced (backTo pos (starEach es X.env))) (AP X pins σ Q) X.xe s
def PS (X : Cx) (st : Stmt) (t : TS) : Prop :=
  ∀ (pins : List (Addr × Obj)) (s : Shared) (σ : St) (H : Hp) (D : Ends), Inv X pins σ H s → t D σ H → wpAny (model X.prog X.w) X.A (exec st X.env) (SP X pins D) X.xe s
def PSs (X : Cx) (st : List Stmt) (t : TS) : Prop :=
  ∀ (pins : List (Addr × Obj)) (s : Shared) (σ : St) (H : Hp) (D : Ends), Inv X pins σ H s → t D σ H → wpAny (model X.prog X.w) X.A (execs st X.env) (SP X pins D) X.xe s
theorem thn {α : Type} {t : Sem α} {Q Q' : α → Shared → Prop} {M : Model} {A : Around} {E : Value → Shared → Prop} {s : Shared} (h : wpAny M A t Q E s) (hQ : ∀ a s, Q a s → Q' a s) : wpAny M A t Q' E s := wpAny_mono h hQ fun _ _ x => x
end L2
namespace L2
open PySem PySem.Spec PyProof.Rows DD
section
variable {X : Cx}
inductive IVar (σ : St) (i : Nat) (H : Hp) (Q : VK) : Prop
  | mk (v : V) (h : σ[i]? = some (some v)) (q : Q v H) : IVar σ i H Q
def tVar (i : Nat) : TE := fun σ H Q => IVar σ i H Q
def tC (v : V) : TE := fun _ H Q => Q v H
theorem pe_var {i : Nat} {x : Str} {pos : Pos} (hN : X.N[i]? = some x) (hv : Vis X.env.scope x) (hd : (x == ("__debug__" : Str)) = false := by decide) (hcd : (x == ("__classdict__" : Str)) = false := by decide) : PE X (.Name x pos) (tVar i) := by
  intro pins s σ H Q I h
  obtain ⟨v, e, h⟩ := h
  obtain ⟨m, hn, hl⟩ := I.loc
  obtain ⟨u, r, l⟩ := hl i x v hN e hv
  have fin : EP X pins σ Q u s := ⟨v, H, I, r, h⟩
  rcases l with ⟨hk, hm⟩ | ⟨hk, c, hc, hcell⟩
  · exact wpAny_Name (wpAny_loadName_local I.ok.kind hk hn hm fin) hd
  · rcases hk with hk | hk
    · exact wpAny_Name (wpAny_loadName_cell I.ok.kind hk hc hcell fin) hd
    · exact wpAny_Name (wpAny_loadName_free I.ok.kind hk hc hcell fin hcd) hd
theorem pe_int {i j pos} : PE X (.Constant (.int i) j pos) (tC (.int i)) := fun _ _ _ H _ I h => wpAny_Constant_int ⟨.int i, H, I.tok _, ⟨_, rfl⟩, h⟩
theorem pe_str {x j pos} : PE X (.Constant (.str x) j pos) (tC (.str x)) := fun _ _ _ H _ I h => Calls.Constant_str ⟨.str x, H, I.tok _, ⟨_, rfl⟩, h⟩
def Gl (X : Cx) (x : Str) : Prop := X.env.kindOf x = some .globalImplicit
theorem ld_glob {E : Value → Shared → Prop} {pins : List (Addr × Obj)} {s : Shared} {σ : St} {H : Hp} {x : Str} {u : Value} {pos : Pos} {Q : Value → Shared → Prop} (I : Inv X pins σ H s) (hg : Gl X x) (hm : X.mg x = some u) (h : Q u s)
    (hd : (x == ("__debug__" : Str)) = false := by decide) : wpAny (model X.prog X.w) X.A (eval (.Name x pos) X.env) Q E s :=
  Calls.Name_function_global I.ok.kind hg (Calls.loadGlobal_global (by rw [I.ok.glob]; exact I.mod.glob.keeps I.bk) hm h) hd
theorem ld_blt {E : Value → Shared → Prop} {pins : List (Addr × Obj)} {s : Shared} {σ : St} {H : Hp} {x : Str} {u : Value} {pos : Pos} {Q : Value → Shared → Prop} (I : Inv X pins σ H s) (hg : Gl X x) (hm : X.mg x = none) (hv : bootBuiltins x = some u) (h : Q u s)
    (hn : x ≠ "__name__" := by decide) (hd : (x == ("__debug__" : Str)) = false := by decide) : wpAny (model X.prog X.w) X.A (eval (.Name x pos) X.env) Q E s := by
  obtain ⟨mb, h1, h2⟩ := I.mod.blt
  exact Calls.Name_function_global I.ok.kind hg (Calls.loadGlobal_builtin (by rw [I.ok.glob]; exact I.mod.glob.keeps I.bk) hm (by rw [I.ok.blt]; exact h1.keeps I.bk) ((h2 x hn).trans hv) h) hd
theorem pe_glob {x : Str} {v : V} {u : Value} {pos : Pos} (hg : Gl X x) (hm : X.mg x = some u) (r : RelV v u) (hd : (x == ("__debug__" : Str)) = false := by decide) : PE X (.Name x pos) (tC v) :=
  fun _ _ _ H _ I h => ld_glob I hg hm ⟨v, H, I, r, h⟩ hd
theorem pe_bltn {x : Str} {v : V} {u : Value} {pos : Pos} (hg : Gl X x) (hm : X.mg x = none) (hv : bootBuiltins x = some u) (r : RelV v u) (hn : x ≠ "__name__" := by decide) (hd : (x == ("__debug__" : Str)) = false := by decide) : PE X (.Name x pos) (tC v) :=
  fun _ _ _ H _ I h => ld_blt I hg hm hv ⟨v, H, I, r, h⟩ hn hd
variable {a b : Expr} {ta tb : TE} {pos : Pos}
inductive IBl (x : V) (H : Hp) (Q : Bool → Hp → Prop) : Prop
  | mk (c : Bool) (e : x = .bl c) (q : Q c H) : IBl x H Q
def tB (t : TE) : TT := fun σ H Q => t σ H fun x H1 => IBl x H1 Q
theorem pt_val {e : Expr} {t : TE} (h : PE X e t) (he : ∀ whole, isTrue e X.env whole = (do let v ← whole; standAt e.pos; holding [v] (truthy v)) := by intro _; rfl) : PT X e (tB t) := by
  intro pins s σ H Q I hw
  refine isTrue_plain (thn (h pins s σ H _ I hw) fun v s1 ⟨x, H1, I1, r1, q1⟩ => ?_) (he _)
  obtain ⟨d, rfl, q⟩ := q1
  cases r1
  exact wpAny_truthy_bool ⟨H1, I1, q⟩
variable {tA tB' : TT} {rest : List Expr}
def tAnd (t u : TT) : TT := fun σ H Q => t σ H fun c H1 => if c = true then u σ H1 Q else Q false H1
def tOr (t u : TT) : TT := fun σ H Q => t σ H fun c H1 => if c = true then Q true H1 else u σ H1 Q
theorem pw_and1 (ha : PT X a tA) : PW X (.BoolOp .And [a] pos) tA := by
  intro wh pins s σ H Q I h
  refine isTrue_and (thn (ha pins s σ H Q I h) fun c s1 e => ?_)
  cases c with
  | true => exact isTrue_and_nil e
  | false => exact e
theorem pw_or1 (ha : PT X a tA) : PW X (.BoolOp .Or [a] pos) tA := by
  intro wh pins s σ H Q I h
  refine isTrue_or (thn (ha pins s σ H Q I h) fun c s1 e => ?_)
  cases c with
  | false => exact isTrue_or_nil e
  | true => exact e
theorem pw_and (ha : PT X a tA) (hb : PW X (.BoolOp .And (b :: rest) pos) tB') : PW X (.BoolOp .And (a :: b :: rest) pos) (tAnd tA tB') := by
  intro wh pins s σ H Q I h
  refine isTrue_and (thn (ha pins s σ H _ I h) fun c s1 ⟨H1, I1, q1⟩ => ?_)
  cases c with
  | true => exact hb wh pins s1 σ H1 Q I1 q1
  | false => exact ⟨H1, I1, q1⟩
theorem pw_or (ha : PT X a tA) (hb : PW X (.BoolOp .Or (b :: rest) pos) tB') : PW X (.BoolOp .Or (a :: b :: rest) pos) (tOr tA tB') := by
  intro wh pins s σ H Q I h
  refine isTrue_or (thn (ha pins s σ H _ I h) fun c s1 ⟨H1, I1, q1⟩ => ?_)
  cases c with
  | true => exact ⟨H1, I1, q1⟩
  | false => exact hb wh pins s1 σ H1 Q I1 q1
def tAndV (ta tb : TE) : TE := fun σ H Q => ta σ H fun x H1 => ∃ c, x = .bl c ∧ if c = true then tb σ H1 Q else Q (.bl false) H1
theorem pe_one {op} {t : TE} (h : PE X a t) : PE X (.BoolOp op [a] pos) t := fun pins s σ H Q I hw => BoolOp_one (h pins s σ H Q I hw)
theorem pe_and (ha : PE X a ta) (hb : PE X (.BoolOp .And (b :: rest) pos) tb) : PE X (.BoolOp .And (a :: b :: rest) pos) (tAndV ta tb) := by
  intro pins s σ H Q I h
  refine BoolOp_and (thn (ha pins s σ H _ I h) fun v s1 ⟨x, H1, I1, r1, q1⟩ => ?_)
  obtain ⟨c, rfl, q1⟩ := q1
  cases r1
  refine wpAny_truthy_bool ?_
  cases c with
  | true => exact hb pins s1 σ H1 Q I1 q1
  | false => exact ⟨.bl false, H1, I1, rfl, q1⟩
def tIf (t : TT) (ta tb : TE) : TE := fun σ H Q => t σ H fun c H1 => if c = true then ta σ H1 Q else tb σ H1 Q
theorem pe_ifExp {c : Expr} (hc : PT X c tA) (ha : PE X a ta) (hb : PE X b tb) : PE X (.IfExp c a b pos) (tIf tA ta tb) := by
  intro pins s σ H Q I h
  refine wpAny_IfExp (thn (hc pins s σ H _ I h) fun d s1 ⟨H1, I1, q1⟩ => ?_)
  cases d with
  | true => exact ha pins s1 σ H1 Q I1 q1
  | false => exact hb pins s1 σ H1 Q I1 q1
end
end L2
namespace L2
open PySem PySem.Spec PyProof.Rows DD
def SqL (K : PySem.W.Frag) (H : Hp) (a : Addr) (xs : List V) : Prop :=
  Rd H a (.lst xs) ∨
    ∃ (o : Obj) (its : Array Value) (n : Nat), K.lookup a = some o ∧ o.cls = .type "list" ∧ o.dict = none ∧ o.data = .seq its n ∧ its.size ≤ sizeLine ∧ Vals xs its.toList
def SqT (K : PySem.W.Frag) (H : Hp) (a : Addr) (xs : List V) : Prop :=
  Rd H a (.tup xs) ∨
    ∃ (o : Obj) (its : Array Value) (n : Nat), K.lookup a = some o ∧ o.cls = .type "tuple" ∧ o.data = .seq its n ∧ its.size ≤ sizeLine ∧ Vals xs its.toList
def absV : Value → Option V
  | .none => some .non
  | .bool b => some (.bl b)
  | .int i _ => some (.int i)
  | .str x _ => some (.str x)
  | .bytes b _ => some (.byt b)
  | .float b _ => some (.flt b)
  | .ref a => some (.ref a)
  | .type n => some (.ty n)
  | _ => none
theorem RelV.abs {x : V} {u : Value} (r : RelV x u) : absV u = some x := by
  cases x with
  | non => cases r; rfl
  | bl _ => cases r; rfl
  | int _ => obtain ⟨t, rfl⟩ := r; rfl
  | str _ => obtain ⟨t, rfl⟩ := r; rfl
  | byt _ => obtain ⟨t, rfl⟩ := r; rfl
  | flt _ => obtain ⟨t, rfl⟩ := r; rfl
  | ref _ => cases r; rfl
  | ty _ => cases r; rfl
theorem RelV.inj {x y : V} {u : Value} (r : RelV x u) (q : RelV y u) : x = y := Option.some.inj (r.abs.symm.trans q.abs)
theorem Vals.inj : ∀ {xs ys : List V} {us : List Value}, Vals xs us → Vals ys us → xs = ys
  | _, _, _, .nil, .nil => rfl
  | _, _, _, .cons r t, .cons r' t' => by rw [r.inj r', Vals.inj t t']
section
variable {X : Cx} {pins : List (Addr × Obj)} {σ : St} {H : Hp} {s : Shared} {a : Addr} {xs ys : List V}
theorem SqL.of {K : PySem.W.Frag} (h : H a = some (.lst xs)) : SqL K H a xs := .inl (.inl h)
theorem SqT.of {K : PySem.W.Frag} (h : H a = some (.tup xs)) : SqT K H a xs := .inl (.inl h)
theorem Inv.list (I : Inv X pins σ H s) (h : SqL X.K H a xs) : ∃ its : List Value, Vals xs its ∧ PlainL s.heap a its.toArray ∧ xs.length ≤ sizeLine := by
  rcases h with h | ⟨o, its, n, hk, hc, hd, hs, hz, r⟩
  · obtain ⟨z, its, n, r, e⟩ := h.ok I.hok
    exact ⟨its, r, ⟨_, n, e, rfl, rfl, rfl⟩, z⟩
  · refine ⟨its.toList, r, ⟨o, n, I.kIn a o hk, hc, hd, by simpa using hs⟩, ?_⟩
    have e := r.length
    simp only [Array.length_toList] at e
    omega
theorem Inv.tuple (I : Inv X pins σ H s) (h : SqT X.K H a xs) : ∃ its : List Value, Vals xs its ∧ IsTup s.heap a its.toArray ∧ xs.length ≤ sizeLine := by
  rcases h with h | ⟨o, its, n, hk, hc, hs, hz, r⟩
  · obtain ⟨z, its, r, p⟩ := h.ok I.hok
    exact ⟨its, r, p.tup, z⟩
  · refine ⟨its.toList, r, ⟨o, I.kIn a o hk, hc, n, by simpa using hs⟩, ?_⟩
    have e := r.length
    simp only [Array.length_toList] at e
    omega
theorem Inv.list_inj (I : Inv X pins σ H s) (h : SqL X.K H a xs) (h' : SqL X.K H a ys) : xs = ys := by
  obtain ⟨its, r, ⟨o, n, e, _, _, d⟩, _⟩ := I.list h
  obtain ⟨its', r', ⟨o', n', e', _, _, d'⟩, _⟩ := I.list h'
  rw [e] at e'; cases e'
  rw [d] at d'
  injection d' with d1 _
  have : its = its' := by simpa using congrArg Array.toList d1
  subst this
  exact r.inj r'
theorem Inv.tuple_inj (I : Inv X pins σ H s) (h : SqT X.K H a xs) (h' : SqT X.K H a ys) : xs = ys := by
  obtain ⟨its, r, ⟨o, e, _, n, d⟩, _⟩ := I.tuple h
  obtain ⟨its', r', ⟨o', e', _, n', d'⟩, _⟩ := I.tuple h'
  rw [e] at e'; cases e'
  rw [d] at d'
  injection d' with d1 _
  have : its = its' := by simpa using congrArg Array.toList d1
  subst this
  exact r.inj r'
end
abbrev Cx.wish (X : Cx) (E : Value → Shared → Prop) : Cx := { X with xe := E }
abbrev Cx.nox (X : Cx) : Cx := X.wish fun _ _ => False
theorem Cx.Ok.wish {X : Cx} (ok : X.Ok) (E : Value → Shared → Prop) : (X.wish E).Ok :=
  ⟨ok.mod, ok.kind, ok.glob, ok.blt, ok.above, ok.inj, ok.has, ok.cab, ok.hd, ok.frames, ok.stk, ok.exf, ok.bs, ok.bsz, ok.noex, ok.exfs, ok.funs, ok.frf⟩
theorem Cx.Ok.unwish {X : Cx} {E : Value → Shared → Prop} (ok : (X.wish E).Ok) : X.Ok :=
  ⟨ok.mod, ok.kind, ok.glob, ok.blt, ok.above, ok.inj, ok.has, ok.cab, ok.hd, ok.frames, ok.stk, ok.exf, ok.bs, ok.bsz, ok.noex, ok.exfs, ok.funs, ok.frf⟩
section
variable {X : Cx} {pins : List (Addr × Obj)} {σ : St} {H : Hp} {s : Shared} {E : Value → Shared → Prop}
theorem Inv.wish (I : Inv X pins σ H s) (E : Value → Shared → Prop) : Inv (X.wish E) pins σ H s := ⟨I.ok.wish E, I.os, I.bare, I.base, I.loc, I.cell, I.free, I.freeC, I.pin, I.hok, I.len⟩
theorem Inv.unwish (I : Inv (X.wish E) pins σ H s) : Inv X pins σ H s := ⟨I.ok.unwish, I.os, I.bare, I.base, I.loc, I.cell, I.free, I.freeC, I.pin, I.hok, I.len⟩
theorem SP.unwish {D : Ends} {f : Flow} {s' : Shared} (h : SP (X.wish E) pins D f s') : SP X pins D f s' := by
  cases f with
  | next => obtain ⟨σ', H', I, q⟩ := h; exact ⟨σ', H', I.unwish, q⟩
  | brk => obtain ⟨σ', H', I, q⟩ := h; exact ⟨σ', H', I.unwish, q⟩
  | cont => obtain ⟨σ', H', I, q⟩ := h; exact ⟨σ', H', I.unwish, q⟩
  | ret u => obtain ⟨v, σ', H', I, r, q⟩ := h; exact ⟨v, σ', H', I.unwish, r, q⟩
theorem PE.nox {e : Expr} {t : TE} (h : PE X.nox e t) : PE X e t := fun pins s σ H Q I hw =>
  wpAny_mono (h pins s σ H Q (I.wish _) hw) (fun _ _ ⟨v, H', I', r, q⟩ => ⟨v, H', I'.unwish, r, q⟩) fun _ _ z => False.elim z
theorem PT.nox {e : Expr} {t : TT} (h : PT X.nox e t) : PT X e t := fun pins s σ H Q I hw =>
  wpAny_mono (h pins s σ H Q (I.wish _) hw) (fun _ _ ⟨H', I', q⟩ => ⟨H', I'.unwish, q⟩) fun _ _ z => False.elim z
theorem PSs.nox {st : List Stmt} {t : TS} (h : PSs X.nox st t) : PSs X st t := fun pins s σ H D I hw =>
  wpAny_mono (h pins s σ H D (I.wish _) hw) (fun _ _ q => q.unwish) fun _ _ z => False.elim z
end
section
variable {X : Cx} {st : Stmt} {rest : List Stmt} {t u : TS} {e : Expr} {te : TE} {pos : Pos}
def tNext : TS := fun D σ H => D.nx σ H
def tSeq (t u : TS) : TS := fun D σ H => t { D with nx := u D } σ H
theorem pss_nil : PSs X [] tNext := fun _ _ σ H _ I h => wpAny_execs_nil ⟨σ, H, I, h⟩
theorem pss_cons (h1 : PS X st t) (h2 : PSs X rest u) : PSs X (st :: rest) (tSeq t u) := by
  intro pins s σ H D I h
  refine wpAny_execs_cons (thn (h1 pins s σ H { D with nx := u D } I h) fun f s1 q => ?_)
  cases f with
  | next =>
    obtain ⟨σ', H', I', q⟩ := q
    exact h2 pins s1 σ' H' D I' q
  | ret v => exact q
  | brk => exact q
  | cont => exact q
theorem pss_one (h1 : PS X st t) : PSs X [st] t := by
  intro pins s σ H D I h
  refine wpAny_execs_cons (thn (h1 pins s σ H D I h) fun f s1 q => ?_)
  cases f with
  | next => exact wpAny_execs_nil q
  | ret v => exact q
  | brk => exact q
  | cont => exact q
theorem Inv.quiet {pins : List (Addr × Obj)} {σ : St} {H : Hp} {s : Shared} (I : Inv X pins σ H s) : interactive X.env = false := by simp [interactive, I.ok.kind]
def tDrop (te : TE) : TS := fun D σ H => te σ H fun _ H1 => D.nx σ H1
theorem ps_expr (he : PE X e te) (hs : swapsWith e none pos.line X.env = pure false := by rfl) : PS X (.Expr e pos) (tDrop te) := by
  intro pins s σ H D I h
  exact wpAny_Expr_any (thn (he pins s σ H _ I h) fun v s1 ⟨x, H1, I1, r1, q1⟩ => ⟨σ, H1, I1, q1⟩) I.quiet hs
def tRet (te : TE) : TS := fun D σ H => te σ H D.rt
theorem ps_ret (he : PE X e te) : PS X (.Return (some e) pos) (tRet te) := by
  intro pins s σ H D I h
  exact wpAny_Return_some (thn (he pins s σ H _ I h) fun v s1 ⟨x, H1, I1, r1, q1⟩ => ⟨x, σ, H1, I1, r1, q1⟩)
def tIfS (c : TT) (t u : TS) : TS := fun D σ H => c σ H fun b H1 => if b = true then t D σ H1 else u D σ H1
theorem ps_if {c : Expr} {a b : List Stmt} {tc : TT} (hc : PT X c tc) (ha : PSs X a t) (hb : PSs X b u) : PS X (.If c a b pos) (tIfS tc t u) := by
  intro pins s σ H D I h
  refine wpAny_If (thn (hc pins s σ H _ I h) fun d s1 ⟨H1, I1, q1⟩ => ?_)
  cases d with
  | true => exact ha pins s1 σ H1 D I1 q1
  | false => exact hb pins s1 σ H1 D I1 q1
end
abbrev TG := V → St → Hp → (St → Hp → Prop) → Prop
abbrev TGs := List V → St → Hp → (St → Hp → Prop) → Prop
def PG (X : Cx) (target : Expr) (t : TG) : Prop :=
  ∀ (pins : List (Addr × Obj)) (s : Shared) (σ : St) (H : Hp) (v : V) (u : Value) (Q : St → Hp → Prop), Inv X pins σ H s → RelV v u → t v σ H Q →
    wpAny (model X.prog X.w) X.A (assign target X.env u) (fun _ s' => ∃ σ' H', Inv X pins σ' H' s' ∧ Q σ' H') X.xe s
def PGs (X : Cx) (ts : List Expr) (t : TGs) : Prop :=
  ∀ (pins : List (Addr × Obj)) (s : Shared) (σ : St) (H : Hp) (vs : List V) (us : List Value) (Q : St → Hp → Prop), Inv X pins σ H s → Vals vs us → t vs σ H Q →
    wpAny (model X.prog X.w) X.A (assignInOrder ((assignEach ts X.env).map (·.2)) us) (fun _ s' => ∃ σ' H', Inv X pins σ' H' s' ∧ Q σ' H') X.xe s
section
variable {X : Cx} {pos : Pos}
def gName (i : Nat) : TG := fun v σ H Q => Q (σ.set i (some v)) H
theorem pg_name {i : Nat} {x : Str} (hN : X.N.Nodup) (hi : X.N[i]? = some x) (hx : Loc X.env.scope x) (hf : X.fn x = true ∨ X.env.scope.names.lookup x = some .local := by first | exact .inl rfl | exact .inr rfl | assumption) : PG X (.Name x pos) (gName i) := by
  intro pins s σ H v u Q I r h
  exact wpAny_assign_Name (store_ok I hN hi hx r (fun s' I' => ⟨_, H, I', h⟩) hf)
def gNil : TGs := fun vs σ H Q => vs = [] ∧ Q σ H
inductive IG (t : TG) (u : TGs) (vs : List V) (σ : St) (H : Hp) (Q : St → Hp → Prop) : Prop
  | mk (v : V) (r : List V) (e : vs = v :: r) (q : t v σ H fun σ' H' => u r σ' H' Q) : IG t u vs σ H Q
def gCons (t : TG) (u : TGs) : TGs := fun vs σ H Q => IG t u vs σ H Q
theorem pgs_nil : PGs X [] gNil := by
  intro pins s σ H vs us Q I r h
  obtain ⟨e, h⟩ := h
  subst e
  cases r
  exact assignInOrder_nil ⟨σ, H, I, h⟩
theorem pgs_cons {e : Expr} {es : List Expr} {t : TG} {u : TGs} (h1 : PG X e t) (h2 : PGs X es u)
    (hs : (assignEach (e :: es) X.env).map (·.2) = assign e X.env :: (assignEach es X.env).map (·.2) := by rfl) : PGs X (e :: es) (gCons t u) := by
  intro pins s σ H vs us Q I r h
  obtain ⟨v, vr, e1, h⟩ := h
  subst e1
  cases r with
  | cons r rr =>
    rw [hs]
    refine assignInOrder_cons (thn (h1 pins s σ H _ _ _ I r h) fun _ s1 ⟨σ1, H1, I1, q1⟩ => ?_)
    exact h2 pins s1 σ1 H1 _ _ Q I1 rr q1
inductive IGT (K : PySem.W.Frag) (n : Nat) (t : TGs) (v : V) (σ : St) (H : Hp) (Q : St → Hp → Prop) : Prop
  | mk (a : Addr) (xs : List V) (e : v = .ref a) (s : SqT K H a xs) (l : xs.length = n) (q : t xs σ H Q) : IGT K n t v σ H Q
def gTup (K : PySem.W.Frag) (n : Nat) (t : TGs) : TG := fun v σ H Q => IGT K n t v σ H Q
theorem pg_tup {es : List Expr} {k : Nat} {t : TGs} {n : Nat} (hc : X.calm = true) (h : PGs X es t)
    (hn : (assignEach es X.env).length = n := by rfl) (hst : (assignEach es X.env).findIdx? (·.1) = none := by rfl) : PG X (.Tuple es k pos) (gTup X.K n t) := by
  intro pins s σ H v u Q I r hw
  obtain ⟨a, xs, e1, hq, hl, hw⟩ := hw
  subst e1
  cases r
  obtain ⟨its, rv, ht, hz⟩ := I.tuple hq
  refine assign_Tuple_tuple (I.ok.hd hc) ht (by simp [hn, ← hl, rv.length]) hst fun h' hx => ?_
  have I1 : Inv X pins σ H { s with heap := h' } := I.kept (t' := s.toks) fun b o e => hx b o (Nat.ne_of_lt (Heap.lt_size e)) e
  exact h pins _ σ H xs _ Q I1 (by simpa using rv) hw
def tAsg (te : TE) (g : TG) : TS := fun D σ H => te σ H fun x H1 => g x σ H1 D.nx
theorem ps_set {i : Nat} {x : Str} {e : Expr} {te : TE} {pos' : Pos} (hN : X.N.Nodup) (hi : X.N[i]? = some x) (hx : Loc X.env.scope x) (he : PE X e te) (hs : swapsWith e (some (.Name x pos')) pos.line X.env = pure false := by rfl) (hf : X.fn x = true ∨ X.env.scope.names.lookup x = some .local := by first | exact .inl rfl | exact .inr rfl | assumption) :
    PS X (.Assign [.Name x pos'] e pos) (tAsg te (gName i)) := by
  intro pins s σ H D I h
  refine wpAny_Assign_Name (thn (he pins s σ H _ I h) fun v s1 ⟨y, H1, I1, r1, q1⟩ => ?_) hs
  exact store_ok I1 hN hi hx r1 (fun s2 I2 => ⟨_, H1, I2, q1⟩) hf
end
section
variable {X : Cx} {pos : Pos}
end
structure It where
  go : Nat → Hp → Prop
  yld : Nat → Hp → V → Hp → Prop
  stop : Nat → Hp → Prop
def FpOk (X : Cx) (pins : List (Addr × Obj)) (H : Hp) (b : Addr) : Prop :=
  H b = none ∧ b ≠ X.env.locals ∧ b ∉ X.fs ∧ (b ∈ X.ex ∨ X.s₀.heap.objs.size ≤ b) ∧ (∀ x c, X.env.cells.lookup x = some c → c ≠ b) ∧ ∀ p ∈ X.pn ++ pins, p.1 ≠ b
theorem Inv.fpOk {X : Cx} {pins : List (Addr × Obj)} {σ : St} {H H' : Hp} {s : Shared} {b : Addr} (I : Inv X pins σ H s) (hb : s.heap.objs.size ≤ b) (hn : H' b = none) : FpOk X pins H' b := by
  refine ⟨hn, Nat.ne_of_gt (Nat.lt_of_lt_of_le I.lt hb), I.nofs hb, .inr (Nat.le_trans I.sz hb), fun x c e z => ?_, fun p hp z => ?_⟩
  · obtain ⟨v, q⟩ := I.cell x c e
    exact absurd (Nat.lt_of_lt_of_le q.lt (by rw [z]; exact hb)) (Nat.lt_irrefl _)
  · exact absurd (Nat.lt_of_lt_of_le (Heap.lt_size (I.pin p hp).1) (by rw [z]; exact hb)) (Nat.lt_irrefl _)
structure Turn (P : Program) (w : World) (K : PySem.W.Frag) (tg : Expr) (J : It) (fp : List Addr) (it : Addr) (tn : Nat → Heap → Prop) : Prop where
  mem : it ∈ fp
  obj : ∀ i h, tn i h → ∀ b ∈ fp, ∃ o, h.get? b = some o ∧ ∀ v, o.data ≠ .cell v
  keep : ∀ i h h', tn i h → (∀ b ∈ fp, ∀ o, h.get? b = some o → h'.get? b = some o) → tn i h'
  item : ∀ (X : Cx), X.prog = P → X.w = w → X.K = K → X.calm = true → ∀ (i : Nat) (pins : List (Addr × Obj)) (s : Shared) (σ : St) (H : Hp) (E : Value → Shared → Prop), Inv X pins σ H s → (∀ b ∈ fp, FpOk X pins H b) → tn i s.heap → J.go i H →
    wpAny (model P w) X.A (pyNext (.ref it)) (fun r s1 => ∃ u, r = some u ∧
      wpAny (model P w) X.A (letOwnedTupleGo tg (.ref it) u) (fun _ s2 => ∃ x H', Inv X pins σ H' s2 ∧ RelV x u ∧ J.yld i H x H' ∧ tn (i + 1) s2.heap ∧ ∀ b ∈ fp, H' b = none) E s1) E s
  done : ∀ (X : Cx), X.prog = P → X.w = w → X.K = K → X.calm = true → ∀ (i : Nat) (pins : List (Addr × Obj)) (s : Shared) (σ : St) (H : Hp) (E : Value → Shared → Prop), Inv X pins σ H s → (∀ b ∈ fp, FpOk X pins H b) → tn i s.heap → J.stop i H →
    wpAny (model P w) X.A (pyNext (.ref it)) (fun r s1 => r = none ∧ Inv X pins σ H s1) E s
  self : ∀ (A : Around) (i : Nat) (s : Shared) (Q : Value → Shared → Prop) (E : Value → Shared → Prop), tn i s.heap → Q (.ref it) s → wpAny (model P w) A (pyIter (.ref it)) Q E s
abbrev TI := St → Hp → (It → Hp → Prop) → Prop
def PIE (X : Cx) (pins : List (Addr × Obj)) (σ : St) (tg : Expr) (R : It → Hp → Prop) (itv : Value) (s2 : Shared) : Prop :=
  ∃ (it : Addr) (fp : List Addr) (tn : Nat → Heap → Prop) (J : It) (H' : Hp), itv = .ref it ∧ Inv X pins σ H' s2 ∧ Turn X.prog X.w X.K tg J fp it tn ∧ tn 0 s2.heap ∧ (∀ b ∈ fp, FpOk X pins H' b) ∧ R J H'
def PI (X : Cx) (tg iter : Expr) (wi : TI) : Prop :=
  ∀ (pins : List (Addr × Obj)) (s : Shared) (σ : St) (H : Hp) (R : It → Hp → Prop), Inv X pins σ H s → wi σ H R →
    wpAny (model X.prog X.w) X.A (eval iter X.env) (fun v s1 => wpAny (model X.prog X.w) X.A (pyIter v) (PIE X pins σ tg R) X.xe s1) X.xe s
theorem go_of {M : Model} {A : Around} {E : Value → Shared → Prop} {s : Shared} {tg : Expr} {it : Addr} {u : Value} {o : Obj} {n : String} {vs : Array Value} {Q : Unit → Shared → Prop} (ho : s.heap.get? it = some o) (hc : o.cls = .type n) (hd : o.data = .fields vs)
    (hn : ["enumerate", "zip", "dict_itemiterator", "dict_reverseitemiterator", "odict_iterator", "itertools.zip_longest", "itertools.pairwise"].contains n = false) (hQ : Q () s) : wpAny M A (letOwnedTupleGo tg (.ref it) u) Q E s := by
  unfold letOwnedTupleGo
  cases tg <;> first
    | exact wpAny_pure hQ
    | (cases u <;> first
        | exact wpAny_pure hQ
        | (refine wpAny_bind (wpAny_load ho ?_)
           rw [hc, hd]
           show wpAny M A (if (["enumerate", "zip", "dict_itemiterator", "dict_reverseitemiterator", "odict_iterator", "itertools.zip_longest", "itertools.pairwise"].contains n && vs[0]? == some (rawInt _)) = true then _ else _) Q E s
           rw [if_neg (by intro h; rw [hn, Bool.false_and] at h; cases h)]
           exact wpAny_pure hQ))
def Itl (K : PySem.W.Frag) (a : Addr) : It :=
  ⟨fun i H => ∃ xs x, SqL K H a xs ∧ xs[i]? = some x, fun i H x H' => H' = H ∧ ∀ xs, SqL K H a xs → xs[i]? = some x, fun i H => ∃ xs, SqL K H a xs ∧ xs.length ≤ i⟩
def Itt (K : PySem.W.Frag) (a : Addr) : It :=
  ⟨fun i H => ∃ xs x, SqT K H a xs ∧ xs[i]? = some x, fun i H x H' => H' = H ∧ ∀ xs, SqT K H a xs → xs[i]? = some x, fun i H => ∃ xs, SqT K H a xs ∧ xs.length ≤ i⟩
def Itr (lo : Int) (n : Nat) : It := ⟨fun i _ => i < n, fun i H x H' => H' = H ∧ x = .int (lo + i), fun i _ => n ≤ i⟩
theorem turn_list {P : Program} {w : World} {K : PySem.W.Frag} {tg : Expr} (a it : Addr) : Turn P w K tg (Itl K a) [it] it (fun i h => h.IsListIter it a i) where
  mem := by simp
  obj := fun i h st b hb => by
    have e : b = it := by simpa using hb
    subst e
    obtain ⟨o, e, c, d⟩ := st
    exact ⟨o, e, fun v z => by rw [d] at z; cases z⟩
  keep := fun i h h' st k => st.at fun o e => k it (by simp) o e
  item := by
    intro X hP hw hK hc i pins s σ H E I hf st hg
    subst hP hw hK
    obtain ⟨xs, x, hq, hx⟩ := hg
    obtain ⟨its, rv, p, hz⟩ := I.list hq
    obtain ⟨u, hu, ru⟩ := rv.get hx
    obtain ⟨f0, f1, f2, f3, f4, f5⟩ := hf it (by simp)
    refine wpAny_pyNext_list_item st p.isList (x := u) (by simpa using hu) fun h' st' sb => ?_
    have I1 : Inv X pins σ H { s with heap := h' } := I.turned (t' := s.toks) (fun b o hb e => (sb.2 b hb).trans e) f0 f1 f3 f4 f5
    obtain ⟨o, e, c, d⟩ := id st'
    exact ⟨u, rfl, go_of (s := { s with heap := h' }) e c d (by decide) ⟨x, H, I1, ru, ⟨rfl, fun ys hy => by rw [I.list_inj hy hq]; exact hx⟩, st', fun b hb => (hf b hb).1⟩⟩
  done := by
    intro X hP hw hK hc i pins s σ H E I hf st hg
    subst hP hw hK
    obtain ⟨xs, hq, hx⟩ := hg
    obtain ⟨its, rv, p, hz⟩ := I.list hq
    obtain ⟨f0, f1, f2, f3, f4, f5⟩ := hf it (by simp)
    have hl := rv.length
    exact wpAny_pyNext_list_end (I.ok.hd hc) st p.isList (by simp; omega) fun h' eb => ⟨rfl, I.turned (t' := s.toks) (fun b o hb e => eb b o hb e) f0 f1 f3 f4 f5⟩
  self := fun _ _ _ _ _ st h => wpAny_pyIter_listiter st h
theorem turn_tuple {P : Program} {w : World} {K : PySem.W.Frag} {tg : Expr} (a it : Addr) : Turn P w K tg (Itt K a) [it] it (fun i h => h.IsTupleIter it a i) where
  mem := by simp
  obj := fun i h st b hb => by
    have e : b = it := by simpa using hb
    subst e
    obtain ⟨o, e, c, d⟩ := st
    exact ⟨o, e, fun v z => by rw [d] at z; cases z⟩
  keep := fun i h h' st k => st.at fun o e => k it (by simp) o e
  item := by
    intro X hP hw hK hc i pins s σ H E I hf st hg
    subst hP hw hK
    obtain ⟨xs, x, hq, hx⟩ := hg
    obtain ⟨its, rv, p, hz⟩ := I.tuple hq
    obtain ⟨u, hu, ru⟩ := rv.get hx
    obtain ⟨f0, f1, f2, f3, f4, f5⟩ := hf it (by simp)
    refine wpAny_pyNext_tuple_item st (show s.heap.IsTuple a its.toArray from p) (x := u) (by simpa using hu) fun h' st' sb => ?_
    have I1 : Inv X pins σ H { s with heap := h' } := I.turned (t' := s.toks) (fun b o hb e => (sb.2 b hb).trans e) f0 f1 f3 f4 f5
    obtain ⟨o, e, c, d⟩ := id st'
    exact ⟨u, rfl, go_of (s := { s with heap := h' }) e c d (by decide) ⟨x, H, I1, ru, ⟨rfl, fun ys hy => by rw [I.tuple_inj hy hq]; exact hx⟩, st', fun b hb => (hf b hb).1⟩⟩
  done := by
    intro X hP hw hK hc i pins s σ H E I hf st hg
    subst hP hw hK
    obtain ⟨xs, hq, hx⟩ := hg
    obtain ⟨its, rv, p, hz⟩ := I.tuple hq
    obtain ⟨f0, f1, f2, f3, f4, f5⟩ := hf it (by simp)
    have hl := rv.length
    exact wpAny_pyNext_tuple_end (I.ok.hd hc) st (show s.heap.IsTuple a its.toArray from p) (by simp; omega) fun h' eb => ⟨rfl, I.turned (t' := s.toks) (fun b o hb e => eb b o hb e) f0 f1 f3 f4 f5⟩
  self := fun _ _ _ _ _ st h => wpAny_pyIter_tupleiter st h
theorem turn_range {P : Program} {w : World} {K : PySem.W.Frag} {tg : Expr} (it : Addr) (lo : Int) (n : Nat) : Turn P w K tg (Itr lo n) [it] it (fun i h => IsRangeIter h it (lo + (i : Nat) * 1) ((n : Int) - (i : Nat)) 1) where
  mem := by simp
  obj := fun i h st b hb => by
    have e : b = it := by simpa using hb
    subst e
    exact ⟨_, st, fun v z => by
      have z' : Data.fields _ = Data.cell v := z
      cases z'⟩
  keep := fun i h h' st k => k it (by simp) _ st
  item := by
    intro X hP hw hK hc i pins s σ H E I hf st hg
    subst hP hw hK
    obtain ⟨f0, f1, f2, f3, f4, f5⟩ := hf it (by simp)
    have W := Walks.range (prog := X.prog) (w := X.w) (I.ok.hd hc) it lo 1 n
    refine W.item i s _ _ hg st fun v h' tk hv st' kk => ?_
    obtain ⟨t, rfl⟩ := hv
    have I1 : Inv X pins σ H { s with heap := h', toks := tk } := I.turned (fun b o hb e => kk b o (by simpa using hb) e) f0 f1 f3 f4 f5
    refine ⟨_, rfl, go_of (s := { s with heap := h', toks := tk }) (n := "range_iterator") st' rfl rfl (by decide) ⟨.int (lo + i), H, I1, ⟨t, ?_⟩, ⟨rfl, rfl⟩, st', fun b hb => (hf b hb).1⟩⟩
    rw [Int.mul_one]
  done := by
    intro X hP hw hK hc i pins s σ H E I hf st hg
    subst hP hw hK
    obtain ⟨f0, f1, f2, f3, f4, f5⟩ := hf it (by simp)
    exact wpAny_pyNext_range_end (I.ok.hd hc) st (by have : n ≤ i := hg; omega) fun h' eb => ⟨rfl, I.turned (t' := s.toks) (fun b o hb e => eb b o hb e) f0 f1 f3 f4 f5⟩
  self := fun _ _ _ _ _ st h => wpAny_pyIter_rangeiter st h
end L2
namespace L2
open PySem PySem.Spec PyProof.Rows DD
section
variable {X : Cx} {tg : Expr}
def iList (K : PySem.W.Frag) (tl : TE) : TI := fun σ H R => tl σ H fun x H1 => ∃ a, x = .ref a ∧ (∃ xs, SqL K H1 a xs) ∧ R (Itl K a) H1
def iTup (K : PySem.W.Frag) (tl : TE) : TI := fun σ H R => tl σ H fun x H1 => ∃ a, x = .ref a ∧ (∃ xs, SqT K H1 a xs) ∧ R (Itt K a) H1
theorem pi_list {l : Expr} {tl : TE} (hl : PE X l tl) : PI X tg l (iList X.K tl) := by
  intro pins s σ H R I h
  refine thn (hl pins s σ H _ I h) fun v s1 ⟨x, H1, I1, r1, q1⟩ => ?_
  obtain ⟨a, e, ⟨xs, hq⟩, q⟩ := q1
  subst e
  cases r1
  obtain ⟨its, rv, p, hz⟩ := I1.list hq
  refine wpAny_pyIter_list p.isList ?_
  refine ⟨s1.heap.objs.size, [s1.heap.objs.size], _, _, H1, rfl, I1.kept (t' := s1.toks) fun b o e => Heap.get?_push_of_some _ e, turn_list a _, ⟨_, Heap.get?_push_size _ rfl, rfl, rfl⟩, fun b hb => ?_, q⟩
  have e : b = s1.heap.objs.size := by simpa using hb
  subst e
  exact I1.fpOk (Nat.le_refl _) (I1.hok.fresh (Nat.le_refl _))
theorem pi_tup {l : Expr} {tl : TE} (hl : PE X l tl) : PI X tg l (iTup X.K tl) := by
  intro pins s σ H R I h
  refine thn (hl pins s σ H _ I h) fun v s1 ⟨x, H1, I1, r1, q1⟩ => ?_
  obtain ⟨a, e, ⟨xs, hq⟩, q⟩ := q1
  subst e
  cases r1
  obtain ⟨its, rv, p, hz⟩ := I1.tuple hq
  refine wpAny_pyIter_tuple (show s1.heap.IsTuple a its.toArray from p) ?_
  refine ⟨s1.heap.objs.size, [s1.heap.objs.size], _, _, H1, rfl, I1.kept (t' := s1.toks) fun b o e => Heap.get?_push_of_some _ e, turn_tuple a _, ⟨_, Heap.get?_push_size _ rfl, rfl, rfl⟩, fun b hb => ?_, q⟩
  have e : b = s1.heap.objs.size := by simpa using hb
  subst e
  exact I1.fpOk (Nat.le_refl _) (I1.hok.fresh (Nat.le_refl _))
theorem range_it {pins : List (Addr × Obj)} {σ : St} {H : Hp} {s : Shared} {R : It → Hp → Prop} {E : Value → Shared → Prop} {lo hi : Int} {t u v : Tok} {tk : Nat} (I : Inv X pins σ H s) (h1 : -(2 ^ 62) ≤ lo) (h2 : lo < 2 ^ 62) (h3 : -(2 ^ 62) ≤ hi) (h4 : hi < 2 ^ 62)
    (q : R (Itr lo (hi - lo).toNat) H) : wpAny (model X.prog X.w) X.A (pyIter (.ref s.heap.objs.size)) (PIE X pins σ tg R) E { s with heap := s.heap.push { cls := .type "range", data := .fields #[.int lo t, .int hi u, .int 1 v] }, toks := tk } := by
  refine wpAny_pyIter_range (IsRange.new ..) (small_one h1 h2 h3 h4) ?_
  have I1 : Inv X pins σ H { s with heap := s.heap.push { cls := .type "range", data := .fields #[.int lo t, .int hi u, .int 1 v] }, toks := tk } := I.kept fun b o e => Heap.get?_push_of_some _ e
  refine ⟨(s.heap.push { cls := .type "range", data := .fields #[.int lo t, .int hi u, .int 1 v] }).objs.size, [(s.heap.push { cls := .type "range", data := .fields #[.int lo t, .int hi u, .int 1 v] }).objs.size], _, _, H, rfl,
    I1.kept (t' := tk) fun b o e => Heap.get?_push_of_some _ e, turn_range _ lo (hi - lo).toNat, ?_, fun b hb => ?_, q⟩
  · have e1 : lo + ((0 : Nat) : Int) * 1 = lo := by simp
    have e2 : (((hi - lo).toNat : Nat) : Int) - ((0 : Nat) : Int) = Builtin.Range.rangeSize lo hi 1 := by rw [rangeSize_one]; split <;> omega
    show IsRangeIter _ _ (lo + ((0 : Nat) : Int) * 1) ((((hi - lo).toNat : Nat) : Int) - ((0 : Nat) : Int)) 1
    rw [e1, e2]
    exact Heap.get?_push_size _ rfl
  · have e : b = (s.heap.push { cls := .type "range", data := .fields #[.int lo t, .int hi u, .int 1 v] }).objs.size := by simpa using hb
    subst e
    exact I1.fpOk (Nat.le_refl _) (I1.hok.fresh (Nat.le_refl _))
def iRng1 (ta : TA) : TI := fun σ H R => ta σ H fun vs H1 => ∃ j : Int, vs = [.int j] ∧ -(2 ^ 62) ≤ j ∧ j < 2 ^ 62 ∧ R (Itr 0 j.toNat) H1
theorem pi_range1 {a : Expr} {ta : TA} {p pos : Pos} (hg : Gl X "range") (hm : X.mg "range" = none) (ha : PA X [a] ta) (hs : starEach [a] X.env = [(false, eval a X.env)] := by rfl) : PI X tg (.Call (.Name "range" p) [a] [] pos) (iRng1 ta) := by
  intro pins s σ H R I h
  refine Call_ (ld_blt I hg hm boot_range (PyProof.Rows.callWith_type1 (thn (ha pos pins s σ H _ I h) fun us s1 ⟨vs, H1, I1, r1, q1⟩ => ?_) hs rfl))
  obtain ⟨j, e, q1, q2, q⟩ := q1
  subst e
  cases r1 with
  | cons r rr =>
    cases rr
    obtain ⟨t, rfl⟩ := r
    exact call_range_1 (range_it I1 (by omega) (by omega) q1 q2 (by simpa using q))
def tFor (wi : TI) (g : TG) (tb : TS) : TS := fun D σ H => wi σ H fun J H1 => ∃ W : Nat → Nat → St → Hp → Prop, (∃ m, W 0 m σ H1) ∧ ∀ i m σ H, W i m σ H →
  (J.stop i H ∧ D.nx σ H) ∨ (J.go i H ∧ ∃ N : St → Hp → Prop, (∀ σ' H', N σ' H' → ∃ m', m' < m ∧ W (i + 1) m' σ' H') ∧ ∀ x H', J.yld i H x H' → g x σ H' fun σ2 H2 => tb { D with nx := N, ct := N, bk := D.nx } σ2 H2)
def pinsAt (fp : List Addr) (h : Heap) : List (Addr × Obj) := fp.filterMap fun b => (h.get? b).map fun o => (b, o)
theorem mem_pinsAt {fp : List Addr} {h : Heap} {b : Addr} {o : Obj} (hb : b ∈ fp) (e : h.get? b = some o) : (b, o) ∈ pinsAt fp h := List.mem_filterMap.mpr ⟨b, hb, by rw [e]; rfl⟩
theorem of_pinsAt {fp : List Addr} {h : Heap} {p : Addr × Obj} (hp : p ∈ pinsAt fp h) : p.1 ∈ fp ∧ h.get? p.1 = some p.2 := by
  obtain ⟨b, hb, e⟩ := List.mem_filterMap.mp hp
  cases q : h.get? b with
  | none => rw [q] at e; cases e
  | some o =>
    rw [q] at e
    have e' : (b, o) = p := Option.some.inj e
    subst e'
    exact ⟨hb, q⟩
theorem Inv.pinned {pins : List (Addr × Obj)} {σ : St} {H : Hp} {s : Shared} {fp : List Addr} (I : Inv X pins σ H s) (hf : ∀ b ∈ fp, FpOk X pins H b) (ho : ∀ b ∈ fp, ∃ o, s.heap.get? b = some o ∧ ∀ v, o.data ≠ .cell v) : Inv X (pins ++ pinsAt fp s.heap) σ H s :=
  I.pins_of fun p hp => (List.mem_append.mp hp).elim (fun z => I.pin p (List.mem_append_right _ z)) fun z => by
    obtain ⟨hb, e⟩ := of_pinsAt z
    obtain ⟨f0, f1, f2, _⟩ := hf p.1 hb
    obtain ⟨o, e', d⟩ := ho p.1 hb
    rw [e] at e'; cases e'
    exact ⟨e, f0, f1, f2, d⟩
theorem Inv.unpinned {pins pl : List (Addr × Obj)} {σ : St} {H : Hp} {s : Shared} (I : Inv X (pins ++ pl) σ H s) : Inv X pins σ H s := I.pins_of fun p hp => I.pin p (List.mem_append_right _ (List.mem_append_left _ hp))
theorem ps_for {iter : Expr} {body : List Stmt} {wi : TI} {g : TG} {tb : TS} {pos : Pos} (hp : PassesOwn (model X.prog X.w) X.A X.env X.xe) (hc : X.calm = true) (hi : PI X tg iter wi) (hg : PG X tg g) (hb : PSs X body tb)
    (hs : ∀ x, foldedSetIterable iter X.env x = pure x := by intro _; rfl) : PS X (.For tg iter body [] pos) (tFor wi g tb) := by
  intro pins s σ H D I h
  refine wpAny_For (thn (hi pins s σ H _ I h) fun v s1 h1 => thn h1 fun itv s2 h2 => ?_) hs
  obtain ⟨it, fp, tn, J, H2, e, I2, T, st2, f2, W, ⟨m0, w0⟩, turn⟩ := h2
  subst e
  have stat : ∀ {H' : Hp}, (∀ b ∈ fp, H' b = none) → ∀ b ∈ fp, FpOk X pins H' b := fun hn b hb => ⟨hn b hb, (f2 b hb).2⟩
  refine codeAny_forLoop_any (fun n s' => ∃ i σ' H', Inv X pins σ' H' s' ∧ tn i s'.heap ∧ (∀ b ∈ fp, H' b = none) ∧ W i n σ' H') ?_ m0 ⟨0, σ, H2, I2, st2, fun b hb => (f2 b hb).1, w0⟩
  rintro n s3 ⟨i, σ3, H3, I3, st3, fr3, w3⟩
  rcases turn i n σ3 H3 w3 with ⟨stop, qn⟩ | ⟨go, N, hN, step⟩
  · refine wpAny_passesOwn hp (thn (T.done X rfl rfl rfl hc i pins s3 σ3 H3 X.xe I3 (stat fr3) st3 stop) fun r s4 ⟨hr, I4⟩ => ?_)
    subst hr
    exact wpAny_execs_nil ⟨σ3, H3, I4, qn⟩
  · refine wpAny_passesOwn hp (thn (T.item X rfl rfl rfl hc i pins s3 σ3 H3 X.xe I3 (stat fr3) st3 go) fun r s4 ⟨u, hr, h4⟩ => ?_)
    subst hr
    refine wpAny_passesOwn hp (thn h4 fun _ s5 ⟨x, H5, I5, r5, y5, st5, fr5⟩ => ?_)
    have I5' := I5.pinned (stat fr5) (T.obj _ _ st5)
    refine wpAny_passesOwn hp (thn (hg _ s5 σ3 H5 x u _ I5' r5 (step x H5 y5)) fun _ s6 ⟨σ6, H6, I6, q6⟩ => ?_)
    refine wpAny_passesOwn hp (thn (hb _ s6 σ6 H6 _ I6 q6) fun f s7 q7 => ?_)
    have again : ∀ {σ7 : St} {H7 : Hp}, Inv X (pins ++ pinsAt fp s5.heap) σ7 H7 s7 → N σ7 H7 → ∃ m, m < n ∧ ∃ i σ' H', Inv X pins σ' H' s7 ∧ tn i s7.heap ∧ (∀ b ∈ fp, H' b = none) ∧ W i m σ' H' := fun {σ7 H7} I7 n7 => by
      obtain ⟨m', hm, w7⟩ := hN σ7 H7 n7
      refine ⟨m', hm, i + 1, σ7, H7, I7.unpinned, T.keep _ _ _ st5 fun b hb o e => (I7.pin (b, o) (List.mem_append_right _ (List.mem_append_right _ (mem_pinsAt hb e)))).1, fun b hb => ?_, w7⟩
      obtain ⟨o, e, d⟩ := T.obj _ _ st5 b hb
      exact (I7.pin (b, o) (List.mem_append_right _ (List.mem_append_right _ (mem_pinsAt hb e)))).2.1
    cases f with
    | next => obtain ⟨σ7, H7, I7, n7⟩ := q7; exact again I7 n7
    | cont => obtain ⟨σ7, H7, I7, n7⟩ := q7; exact again I7 n7
    | brk => obtain ⟨σ7, H7, I7, q7⟩ := q7; exact ⟨σ7, H7, I7.unpinned, q7⟩
    | ret v => obtain ⟨x7, σ7, H7, I7, r7, q7⟩ := q7; exact ⟨x7, σ7, H7, I7.unpinned, r7, q7⟩
end
theorem for_list {K : PySem.W.Frag} {a : Addr} {xs : List V} {g : TG} {tb : TS} {D : Ends} {σ : St} {H : Hp} (Pv : Nat → St → Hp → Prop) (h0 : Pv 0 σ H) (hl : ∀ i σ H, i ≤ xs.length → Pv i σ H → SqL K H a xs)
    (hs : ∀ i x σ H, xs[i]? = some x → Pv i σ H → g x σ H fun σ2 H2 => tb { D with nx := Pv (i + 1), ct := Pv (i + 1), bk := D.nx } σ2 H2) (hd : ∀ σ H, Pv xs.length σ H → D.nx σ H) :
    ∃ W : Nat → Nat → St → Hp → Prop, (∃ m, W 0 m σ H) ∧ ∀ i m σ H, W i m σ H →
      ((Itl K a).stop i H ∧ D.nx σ H) ∨ ((Itl K a).go i H ∧ ∃ N : St → Hp → Prop, (∀ σ' H', N σ' H' → ∃ m', m' < m ∧ W (i + 1) m' σ' H') ∧ ∀ x H', (Itl K a).yld i H x H' → g x σ H' fun σ2 H2 => tb { D with nx := N, ct := N, bk := D.nx } σ2 H2) := by
  refine ⟨fun i m σ H => m = xs.length - i ∧ i ≤ xs.length ∧ Pv i σ H, ⟨xs.length, by simp, Nat.zero_le _, h0⟩, ?_⟩
  rintro i m σ H ⟨rfl, hi, p⟩
  have q := hl i σ H hi p
  by_cases hlt : i < xs.length
  · refine .inr ⟨⟨xs, xs[i], q, by simp [hlt]⟩, Pv (i + 1), fun σ' H' p' => ⟨xs.length - (i + 1), by omega, rfl, hlt, p'⟩, fun x H' y => ?_⟩
    obtain ⟨e, y⟩ := y
    subst e
    exact hs i x σ _ (y xs q) p
  · have e : i = xs.length := by omega
    subst e
    exact .inl ⟨⟨xs, q, Nat.le_refl _⟩, hd σ H p⟩
theorem for_tup {K : PySem.W.Frag} {a : Addr} {xs : List V} {g : TG} {tb : TS} {D : Ends} {σ : St} {H : Hp} (Pv : Nat → St → Hp → Prop) (h0 : Pv 0 σ H) (hl : ∀ i σ H, i ≤ xs.length → Pv i σ H → SqT K H a xs)
    (hs : ∀ i x σ H, xs[i]? = some x → Pv i σ H → g x σ H fun σ2 H2 => tb { D with nx := Pv (i + 1), ct := Pv (i + 1), bk := D.nx } σ2 H2) (hd : ∀ σ H, Pv xs.length σ H → D.nx σ H) :
    ∃ W : Nat → Nat → St → Hp → Prop, (∃ m, W 0 m σ H) ∧ ∀ i m σ H, W i m σ H →
      ((Itt K a).stop i H ∧ D.nx σ H) ∨ ((Itt K a).go i H ∧ ∃ N : St → Hp → Prop, (∀ σ' H', N σ' H' → ∃ m', m' < m ∧ W (i + 1) m' σ' H') ∧ ∀ x H', (Itt K a).yld i H x H' → g x σ H' fun σ2 H2 => tb { D with nx := N, ct := N, bk := D.nx } σ2 H2) := by
  refine ⟨fun i m σ H => m = xs.length - i ∧ i ≤ xs.length ∧ Pv i σ H, ⟨xs.length, by simp, Nat.zero_le _, h0⟩, ?_⟩
  rintro i m σ H ⟨rfl, hi, p⟩
  have q := hl i σ H hi p
  by_cases hlt : i < xs.length
  · refine .inr ⟨⟨xs, xs[i], q, by simp [hlt]⟩, Pv (i + 1), fun σ' H' p' => ⟨xs.length - (i + 1), by omega, rfl, hlt, p'⟩, fun x H' y => ?_⟩
    obtain ⟨e, y⟩ := y
    subst e
    exact hs i x σ _ (y xs q) p
  · have e : i = xs.length := by omega
    subst e
    exact .inl ⟨⟨xs, q, Nat.le_refl _⟩, hd σ H p⟩
theorem for_range {lo : Int} {n : Nat} {g : TG} {tb : TS} {D : Ends} {σ : St} {H : Hp} (Pv : Nat → St → Hp → Prop) (h0 : Pv 0 σ H)
    (hs : ∀ i σ H, i < n → Pv i σ H → g (.int (lo + i)) σ H fun σ2 H2 => tb { D with nx := Pv (i + 1), ct := Pv (i + 1), bk := D.nx } σ2 H2) (hd : ∀ σ H, Pv n σ H → D.nx σ H) :
    ∃ W : Nat → Nat → St → Hp → Prop, (∃ m, W 0 m σ H) ∧ ∀ i m σ H, W i m σ H →
      ((Itr lo n).stop i H ∧ D.nx σ H) ∨ ((Itr lo n).go i H ∧ ∃ N : St → Hp → Prop, (∀ σ' H', N σ' H' → ∃ m', m' < m ∧ W (i + 1) m' σ' H') ∧ ∀ x H', (Itr lo n).yld i H x H' → g x σ H' fun σ2 H2 => tb { D with nx := N, ct := N, bk := D.nx } σ2 H2) := by
  refine ⟨fun i m σ H => m = n - i ∧ i ≤ n ∧ Pv i σ H, ⟨n, by simp, Nat.zero_le _, h0⟩, ?_⟩
  rintro i m σ H ⟨rfl, hi, p⟩
  by_cases hlt : i < n
  · refine .inr ⟨hlt, Pv (i + 1), fun σ' H' p' => ⟨n - (i + 1), by omega, rfl, hlt, p'⟩, fun x H' y => ?_⟩
    obtain ⟨e, y⟩ := y
    subst e y
    exact hs i σ _ hlt p
  · have e : i = n := by omega
    subst e
    exact .inl ⟨Nat.le_refl _, hd σ H p⟩
end L2
namespace L2
open PySem PySem.Spec PyProof.Rows DD
abbrev R2 := V → V → Hp → VK → Prop
def OpR (X : Cx) (f : Value → Value → Sem Value) (r : R2) : Prop :=
  ∀ (pins : List (Addr × Obj)) (s : Shared) (σ : St) (H : Hp) (x y : V) (v u : Value) (Q : VK), Inv X pins σ H s → RelV x v → RelV y u → r x y H Q →
    wpAny (model X.prog X.w) X.A (f v u) (EP X pins σ Q) X.xe s
def UnR (X : Cx) (f : Value → Sem Value) (r : V → Hp → VK → Prop) : Prop :=
  ∀ (pins : List (Addr × Obj)) (s : Shared) (σ : St) (H : Hp) (x : V) (v : Value) (Q : VK), Inv X pins σ H s → RelV x v → r x H Q →
    wpAny (model X.prog X.w) X.A (f v) (EP X pins σ Q) X.xe s
def CallR (X : Cx) (f : Value) (r : List V → Hp → VK → Prop) : Prop :=
  ∀ (pins : List (Addr × Obj)) (s : Shared) (σ : St) (H : Hp) (xs : List V) (us : List Value) (Q : VK), Inv X pins σ H s → Vals xs us → r xs H Q →
    wpAny (model X.prog X.w) X.A (call f us) (EP X pins σ Q) X.xe s
def tOp (r : R2) (ta tb : TE) : TE := fun σ H Q => ta σ H fun x H1 => tb σ H1 fun y H2 => r x y H2 Q
def tUn (r : V → Hp → VK → Prop) (ta : TE) : TE := fun σ H Q => ta σ H fun x H1 => r x H1 Q
inductive II (C : Int → Int → Prop) (g : Int → Int → V) (x y : V) (H : Hp) (Q : VK) : Prop
  | mk (i j : Int) (e1 : x = .int i) (e2 : y = .int j) (c : C i j) (q : Q (g i j) H) : II C g x y H Q
def rI (C : Int → Int → Prop) (g : Int → Int → V) : R2 := fun x y H Q => II C g x y H Q
inductive II0 (g : Int → Int → V) (x y : V) (H : Hp) (Q : VK) : Prop
  | mk (i j : Int) (e1 : x = .int i) (e2 : y = .int j) (q : Q (g i j) H) : II0 g x y H Q
def rI0 (g : Int → Int → V) : R2 := fun x y H Q => II0 g x y H Q
inductive IU (g : Int → V) (x : V) (H : Hp) (Q : VK) : Prop
  | mk (i : Int) (e : x = .int i) (q : Q (g i) H) : IU g x H Q
def rU (g : Int → V) : V → Hp → VK → Prop := fun x H Q => IU g x H Q
section
variable {X : Cx} {a b c : Expr} {ta tb tc : TE} {pos : Pos}
theorem binT (ha : PE X a ta) (hb : PE X b tb) {pins : List (Addr × Obj)} {s : Shared} {σ : St} {H : Hp} {R : V → V → Hp → Prop} (I : Inv X pins σ H s)
    (h : ta σ H fun x H1 => tb σ H1 fun y H2 => R x y H2) {Q : Value → Shared → Prop} {f : Value → Value → Sem Value}
    (hf : ∀ v u s2 x y H2, Inv X pins σ H2 s2 → RelV x v → RelV y u → R x y H2 → wpAny (model X.prog X.w) X.A (f v u) Q X.xe s2) :
    wpAny (model X.prog X.w) X.A (eval a X.env) (fun v s₁ => wpAny (model X.prog X.w) X.A (eval b X.env) (fun u s₂ => wpAny (model X.prog X.w) X.A (f v u) Q X.xe s₂) X.xe s₁) X.xe s := by
  refine thn (ha pins s σ H _ I h) fun v s1 ⟨x, H1, I1, r1, q1⟩ => ?_
  refine thn (hb pins s1 σ H1 _ I1 q1) fun u s2 ⟨y, H2, I2, r2, q2⟩ => ?_
  exact hf v u s2 x y H2 I2 r1 r2 q2
theorem pe_op {op : Operator} {r : R2} (ho : OpR X (binaryOp op) r) (ha : PE X a ta) (hb : PE X b tb) : PE X (.BinOp a op b pos) (tOp r ta tb) := by
  intro pins s σ H Q I h
  exact wpAny_BinOp (binT ha hb I h fun v u s2 x y H2 I2 rx ry q => ho pins s2 σ H2 x y v u Q I2 rx ry q)
theorem pe_un {op : UnaryOp} {r : V → Hp → VK → Prop} (ho : UnR X (unaryOp op) r) (ha : PE X a ta) : PE X (.UnaryOp op a pos) (tUn r ta) := by
  intro pins s σ H Q I h
  exact UnaryOp_ (thn (ha pins s σ H _ I h) fun v s1 ⟨x, H1, I1, r1, q1⟩ => ho pins s1 σ H1 x v Q I1 r1 q1)
theorem opI {f : Value → Value → Sem Value} {C : Int → Int → Prop} {g : Int → Int → Int}
    (rule : ∀ (i j : Int) (t u : Tok) (s : Shared) (Q : Value → Shared → Prop) (E : Value → Shared → Prop), C i j → Q (.int (g i j) s.toks) { s with toks := s.toks + 1 } → wpAny (model X.prog X.w) X.A (f (.int i t) (.int j u)) Q E s) :
    OpR X f (rI C fun i j => .int (g i j)) := by
  intro pins s σ H x y v u Q I rx ry h
  obtain ⟨i, j, rfl, rfl, hc, q⟩ := h
  obtain ⟨t, rfl⟩ := rx
  obtain ⟨t', rfl⟩ := ry
  exact rule i j t t' s _ _ hc ⟨.int (g i j), H, I.tok _, ⟨_, rfl⟩, q⟩
theorem opI0 {f : Value → Value → Sem Value} {g : Int → Int → Int}
    (rule : ∀ (i j : Int) (t u : Tok) (s : Shared) (Q : Value → Shared → Prop) (E : Value → Shared → Prop), Q (.int (g i j) s.toks) { s with toks := s.toks + 1 } → wpAny (model X.prog X.w) X.A (f (.int i t) (.int j u)) Q E s) :
    OpR X f (rI0 fun i j => .int (g i j)) := by
  intro pins s σ H x y v u Q I rx ry h
  obtain ⟨i, j, rfl, rfl, q⟩ := h
  obtain ⟨t, rfl⟩ := rx
  obtain ⟨t', rfl⟩ := ry
  exact rule i j t t' s _ _ ⟨.int (g i j), H, I.tok _, ⟨_, rfl⟩, q⟩
theorem opB0 {f : Value → Value → Sem Value} {g : Int → Int → Bool}
    (rule : ∀ (i j : Int) (t u : Tok) (s : Shared) (Q : Value → Shared → Prop) (E : Value → Shared → Prop), Q (.bool (g i j)) s → wpAny (model X.prog X.w) X.A (f (.int i t) (.int j u)) Q E s) :
    OpR X f (rI0 fun i j => .bl (g i j)) := by
  intro pins s σ H x y v u Q I rx ry h
  obtain ⟨i, j, rfl, rfl, q⟩ := h
  obtain ⟨t, rfl⟩ := rx
  obtain ⟨t', rfl⟩ := ry
  exact rule i j t t' s _ _ ⟨.bl (g i j), H, I, rfl, q⟩
def CPow (i j : Int) : Prop := 0 ≤ j ∧ j ≤ 1000000 ∧ i.natAbs < 2 ^ 64
def CMul (i j : Int) : Prop := (-(2 ^ 64) < i ∧ i < 2 ^ 64) ∨ (-(2 ^ 64) < j ∧ j < 2 ^ 64)
theorem CMul.ok {i j : Int} (h : CMul i j) : IntMulOk i j := by
  rcases h with ⟨h1, h2⟩ | ⟨h1, h2⟩
  · exact .of_left (intBits_le_64 h1 h2)
  · exact .of_right (intBits_le_64 h1 h2)
theorem op_add : OpR X (binaryOp .Add) (rI0 fun i j => .int (i + j)) := opI0 fun _ _ _ _ _ _ _ q => add_int q
theorem op_sub : OpR X (binaryOp .Sub) (rI0 fun i j => .int (i - j)) := opI0 fun _ _ _ _ _ _ _ q => sub_int q
theorem op_mod : OpR X (binaryOp .Mod) (rI (fun _ j => 0 < j) fun i j => .int (i % j)) := opI fun i j _ _ _ _ _ hc q => by
  have h1 : (0 : Int) < j := hc
  exact mod_int' (by omega) (by rw [Int.fmod_eq_emod_of_nonneg i (by omega)]; exact q)
theorem op_pow : OpR X (binaryOp .Pow) (rI CPow fun i j => .int (i ^ j.toNat)) := opI fun _ _ _ _ _ _ _ hc q => pow_int_small hc.1 hc.2.1 hc.2.2 q
theorem unI {f : Value → Sem Value} {g : Int → Int}
    (rule : ∀ (i : Int) (t : Tok) (s : Shared) (Q : Value → Shared → Prop) (E : Value → Shared → Prop), Q (.int (g i) s.toks) { s with toks := s.toks + 1 } → wpAny (model X.prog X.w) X.A (f (.int i t)) Q E s) :
    UnR X f (rU fun i => .int (g i)) := by
  intro pins s σ H x v Q I rx h
  obtain ⟨i, rfl, q⟩ := h
  obtain ⟨t, rfl⟩ := rx
  exact rule i t s _ _ ⟨.int (g i), H, I.tok _, ⟨_, rfl⟩, q⟩
theorem un_neg : UnR X (unaryOp .USub) (rU fun i => .int (-i)) := unI fun _ _ _ _ _ q => neg_int q
end
def scal : V → V → Bool
  | .non, .non => true | .non, .int _ => true | .int _, .non => true | .non, .bl _ => true | .bl _, .non => true | .non, .str _ => true | .str _, .non => true
  | .int _, .int _ => true | .bl _, .bl _ => true | .str _, .str _ => true | .byt _, .byt _ => true
  | .int _, .str _ => true | .str _, .int _ => true | .bl _, .str _ => true | .str _, .bl _ => true
  | _, _ => false
def rEq : R2 := fun x y H Q => scal x y = true ∧ Q (.bl (decide (x = y))) H
def rNe : R2 := fun x y H Q => scal x y = true ∧ Q (.bl (!decide (x = y))) H
theorem dec_int {i j : Int} : decide (V.int i = V.int j) = (i == j) := by
  rw [Bool.eq_iff_iff]
  simp
theorem dec_bl {i j : Bool} : decide (V.bl i = V.bl j) = (i == j) := by
  rw [Bool.eq_iff_iff]
  simp
theorem dec_str {i j : Str} : decide (V.str i = V.str j) = (i == j) := by
  rw [Bool.eq_iff_iff]
  simp
theorem dec_byt {i j : Array UInt8} : decide (V.byt i = V.byt j) = (i.toList == j.toList) := by
  rw [Bool.eq_iff_iff]
  cases i
  cases j
  simp
section
variable {X : Cx} {a b c : Expr} {ta tb tc : TE} {pos : Pos}
theorem fin_bl {pins : List (Addr × Obj)} {σ : St} {H : Hp} {s : Shared} {Q : VK} {k k' : Bool} (I : Inv X pins σ H s) (q : Q (.bl k) H) (e : k = k') : EP X pins σ Q (.bool k') s := by
  subst e
  exact ⟨.bl k, H, I, rfl, q⟩
theorem op_eq : OpR X (compareOp .Eq) rEq := by
  intro pins s σ H x y v u Q I rx ry h
  obtain ⟨hs, q⟩ := h
  cases x with
  | non =>
    cases rx
    cases y with
    | non => cases ry; exact PySem.EqNone.eq_none_none (fin_bl I q (by simp))
    | bl j => cases ry; exact PySem.EqNone.eq_none_bool (fin_bl I q (by simp))
    | int j => obtain ⟨t', rfl⟩ := ry; exact PySem.EqNone.eq_none_int (fin_bl I q (by simp))
    | str j => obtain ⟨t', rfl⟩ := ry; exact PySem.EqNone.eq_none_str (fin_bl I q (by simp))
    | _ => exact absurd (show false = true from hs) Bool.false_ne_true
  | bl i =>
    cases rx
    cases y with
    | non => cases ry; exact PySem.EqNone.eq_bool_none (fin_bl I q (by simp))
    | bl j => cases ry; exact eq_bool (fin_bl I q dec_bl)
    | str j => obtain ⟨t', rfl⟩ := ry; exact PySem.EqMixed.eq_bool_str (fin_bl I q (by simp))
    | _ => exact absurd (show false = true from hs) Bool.false_ne_true
  | int i =>
    obtain ⟨t, rfl⟩ := rx
    cases y with
    | non => cases ry; exact PySem.EqNone.eq_int_none (fin_bl I q (by simp))
    | int j => obtain ⟨t', rfl⟩ := ry; exact eq_int (fin_bl I q dec_int)
    | str j => obtain ⟨t', rfl⟩ := ry; exact PySem.EqMixed.eq_int_str (fin_bl I q (by simp))
    | _ => exact absurd (show false = true from hs) Bool.false_ne_true
  | str i =>
    obtain ⟨t, rfl⟩ := rx
    cases y with
    | non => cases ry; exact PySem.EqNone.eq_str_none (fin_bl I q (by simp))
    | bl j => cases ry; exact PySem.EqMixed.eq_str_bool (fin_bl I q (by simp))
    | int j => obtain ⟨t', rfl⟩ := ry; exact PySem.EqMixed.eq_str_int (fin_bl I q (by simp))
    | str j => obtain ⟨t', rfl⟩ := ry; exact eq_str (fin_bl I q dec_str)
    | _ => exact absurd (show false = true from hs) Bool.false_ne_true
  | byt i =>
    obtain ⟨t, rfl⟩ := rx
    cases y with
    | byt j => obtain ⟨t', rfl⟩ := ry; exact PySem.W.eq_bytes (fin_bl I q dec_byt)
    | _ => exact absurd (show false = true from hs) Bool.false_ne_true
  | _ => cases y <;> exact absurd (show false = true from hs) Bool.false_ne_true
theorem op_ne : OpR X (compareOp .NotEq) rNe := by
  intro pins s σ H x y v u Q I rx ry h
  obtain ⟨hs, q⟩ := h
  cases x with
  | non =>
    cases rx
    cases y with
    | non => cases ry; exact PySem.EqNone.ne_none_none (fin_bl I q (by simp))
    | bl j => cases ry; exact PySem.EqNone.ne_none_bool (fin_bl I q (by simp))
    | int j => obtain ⟨t', rfl⟩ := ry; exact PySem.EqNone.ne_none_int (fin_bl I q (by simp))
    | str j => obtain ⟨t', rfl⟩ := ry; exact PySem.EqNone.ne_none_str (fin_bl I q (by simp))
    | _ => exact absurd (show false = true from hs) Bool.false_ne_true
  | bl i =>
    cases rx
    cases y with
    | non => cases ry; exact PySem.EqNone.ne_bool_none (fin_bl I q (by simp))
    | bl j => cases ry; exact ne_bool (fin_bl I q (congrArg not dec_bl))
    | str j => obtain ⟨t', rfl⟩ := ry; exact PySem.EqMixed.ne_bool_str (fin_bl I q (by simp))
    | _ => exact absurd (show false = true from hs) Bool.false_ne_true
  | int i =>
    obtain ⟨t, rfl⟩ := rx
    cases y with
    | non => cases ry; exact PySem.EqNone.ne_int_none (fin_bl I q (by simp))
    | int j => obtain ⟨t', rfl⟩ := ry; exact ne_int (fin_bl I q (congrArg not dec_int))
    | str j => obtain ⟨t', rfl⟩ := ry; exact PySem.EqMixed.ne_int_str (fin_bl I q (by simp))
    | _ => exact absurd (show false = true from hs) Bool.false_ne_true
  | str i =>
    obtain ⟨t, rfl⟩ := rx
    cases y with
    | non => cases ry; exact PySem.EqNone.ne_str_none (fin_bl I q (by simp))
    | bl j => cases ry; exact PySem.EqMixed.ne_str_bool (fin_bl I q (by simp))
    | int j => obtain ⟨t', rfl⟩ := ry; exact PySem.EqMixed.ne_str_int (fin_bl I q (by simp))
    | str j => obtain ⟨t', rfl⟩ := ry; exact ne_str (fin_bl I q (congrArg not dec_str))
    | _ => exact absurd (show false = true from hs) Bool.false_ne_true
  | byt i =>
    obtain ⟨t, rfl⟩ := rx
    cases y with
    | byt j => obtain ⟨t', rfl⟩ := ry; exact PySem.W.ne_bytes (fin_bl I q (congrArg not dec_byt))
    | _ => exact absurd (show false = true from hs) Bool.false_ne_true
  | _ => cases y <;> exact absurd (show false = true from hs) Bool.false_ne_true
theorem op_lt : OpR X (compareOp .Lt) (rI0 fun i j => .bl (decide (i < j))) := opB0 fun _ _ _ _ _ _ _ q => lt_int q
theorem op_gt : OpR X (compareOp .Gt) (rI0 fun i j => .bl (decide (j < i))) := opB0 fun _ _ _ _ _ _ _ q => gt_int q
theorem OpR.or {f : Value → Value → Sem Value} {r r' : R2} (h : OpR X f r) (h' : OpR X f r') : OpR X f (fun x y H Q => r x y H Q ∨ r' x y H Q) := by
  intro pins s σ H x y v u Q I rx ry q
  rcases q with q | q
  · exact h pins s σ H x y v u Q I rx ry q
  · exact h' pins s σ H x y v u Q I rx ry q
theorem nomark (b : Expr) {op : CmpOp} (h : op ≠ .In := by decide) (h2 : op ≠ .NotIn := by decide) : behindInMarks op b = false := by
  have e1 : (op == CmpOp.In) = false := by cases op <;> first | rfl | exact absurd rfl h
  have e2 : (op == CmpOp.NotIn) = false := by cases op <;> first | rfl | exact absurd rfl h2
  cases b <;> simp [behindInMarks, e1, e2]
theorem pe_cmpR {op : CmpOp} {r : R2} (ho : OpR X (compareOp op) r) (ha : PE X a ta) (hb : PE X b tb) (hm : behindInMarks op b = false) : PE X (.Compare a [op] [b] pos) (tOp r ta tb) := by
  intro pins s σ H Q I h
  exact wpAny_Compare1 (binT ha hb I h fun v u s2 x y H2 I2 rx ry q => ho pins s2 σ H2 x y v u Q I2 rx ry q) hm
def tTest (t : TE) : TT := fun σ H Q => t σ H fun x H' => IBl x H' Q
theorem pt_cmpR {op : CmpOp} {r : R2} (ho : OpR X (compareOp op) r) (ha : PE X a ta) (hb : PE X b tb) (hm : behindInMarks op b = false) : PT X (.Compare a [op] [b] pos) (tTest (tOp r ta tb)) := by
  intro pins s σ H Q I h
  refine wpAny_isTrue_Compare1 (thn (ha pins s σ H _ I h) fun v s1 ⟨x, H1, I1, r1, q1⟩ => thn (hb pins s1 σ H1 _ I1 q1) fun u s2 ⟨y, H2, I2, r2, q2⟩ =>
    thn (ho pins s2 σ H2 x y v u _ I2 r1 r2 q2) fun c s3 ⟨z, H3, I3, r3, k, e, q3⟩ => ?_) hm
  subst e
  cases r3
  exact wpAny_truthy_bool ⟨H3, I3, q3⟩
theorem line63 : (sizeLine : Nat) < 2 ^ 63 := by rw [sizeLine_eq]; decide
theorem op_add_str : OpR X (binaryOp .Add) (fun x y H Q => ∃ i j, x = .str i ∧ y = .str j ∧ i.length + j.length ≤ sizeLine ∧ Q (.str (i ++ j)) H) := by
  intro pins s σ H x y v u Q I rx ry h
  obtain ⟨i, j, rfl, rfl, hz, q⟩ := h
  obtain ⟨t, rfl⟩ := rx
  obtain ⟨t', rfl⟩ := ry
  exact add_str (fun t' tk => ⟨.str (i ++ j), H, I.tok _, ⟨_, rfl⟩, q⟩) hz
theorem vals1 {x : V} {us : List Value} (r : Vals [x] us) : ∃ u, us = [u] ∧ RelV x u := by
  cases r with
  | cons r1 r2 => cases r2; exact ⟨_, rfl, r1⟩
theorem vals2 {x y : V} {us : List Value} (r : Vals [x, y] us) : ∃ u w', us = [u, w'] ∧ RelV x u ∧ RelV y w' := by
  cases r with
  | cons r1 r2 =>
    cases r2 with
    | cons r3 r4 => cases r4; exact ⟨_, _, rfl, r1, r3⟩
theorem call_abs : CallR X (.builtin "abs") (fun xs H Q => ∃ i, xs = [.int i] ∧ Q (.int (if i < 0 then -i else i)) H) := by
  intro pins s σ H xs us Q I r h
  obtain ⟨i, rfl, q⟩ := h
  obtain ⟨u, rfl, t, rfl⟩ := vals1 r
  exact call_abs_int fun u tk => ⟨.int (if i < 0 then -i else i), H, I.tok _, ⟨_, rfl⟩, q⟩
theorem call_max2 (hc : X.calm = true) : CallR X (.builtin "max") (fun xs H Q => ∃ i j, xs = [.int i, .int j] ∧ Q (.int (if j > i then j else i)) H) := by
  intro pins s σ H xs us Q I r h
  obtain ⟨i, j, rfl, q⟩ := h
  obtain ⟨u, w', rfl, ⟨t, rfl⟩, ⟨t', rfl⟩⟩ := vals2 r
  refine max_two_ints (I.ok.hd hc) fun h' tk k => ⟨_, H, I.kept k, ?_, q⟩
  by_cases hj : j > i
  · rw [if_pos hj, if_pos hj]; exact ⟨_, rfl⟩
  · rw [if_neg hj, if_neg hj]; exact ⟨_, rfl⟩
theorem call_int1 : CallR X (.type "int") (fun xs H Q => (∃ i, xs = [.int i] ∧ Q (.int i) H) ∨ ∃ k, xs = [.bl k] ∧ Q (.int (if k then 1 else 0)) H) := by
  intro pins s σ H xs us Q I r h
  rcases h with ⟨i, rfl, q⟩ | ⟨k, rfl, q⟩
  · obtain ⟨u, rfl, t, rfl⟩ := vals1 r
    exact call_int_int ⟨.int i, H, I, ⟨_, rfl⟩, q⟩
  · obtain ⟨u, rfl, r1⟩ := vals1 r
    cases r1
    exact call_int_bool ⟨.int (if k then 1 else 0), H, I.tok _, ⟨_, rfl⟩, q⟩
theorem call_str_int : CallR X (.type "str") (fun xs H Q => ∃ i, xs = [.int i] ∧ i.natAbs.log2 < 1920 ∧ Q (.str (toString i)) H) := by
  intro pins s σ H xs us Q I r h
  obtain ⟨i, rfl, hz, q⟩ := h
  obtain ⟨u, rfl, t, rfl⟩ := vals1 r
  exact PySem.P.str_of_int hz ⟨.str _, H, I.tok _, ⟨_, rfl⟩, q⟩
end
end L2
namespace L2
open PySem PySem.Spec PyProof.Rows DD
structure ObjM (h : Heap) (x dx C : Addr) (mA : Str → Option Value) : Prop where
  obj : h.get? x = some (PySem.W.instObj C dx)
  ns : h.Ns1 dx mA
  ne : dx ≠ x
theorem lookIn_ns {h : Heap} {dx : Addr} {mA : Str → Option Value} (n : h.Ns1 dx mA) : ∃ od, h.get? dx = some od ∧ ∀ name, PySem.W.lookIn name od = some (mA name) := by
  obtain ⟨o, es, ep, ho, hd, hk, _, hm⟩ := n
  refine ⟨o, ho, fun name => ?_⟩
  have e := hm name
  unfold nsFind findBy at e
  rw [← Array.find?_toList] at e
  unfold PySem.W.lookIn
  rw [hd]
  dsimp only
  split
  · rename_i y q
    rw [q] at e
    exact congrArg some e
  · rename_i q
    rw [q] at e
    have a : es.toList.any (·.refKey) = false := by
      rw [List.any_eq_false]
      intro y hy
      obtain ⟨z, t, hkey⟩ := hk y (Array.mem_toList_iff.mp hy)
      simp [DictEntry.refKey, hkey]
    have a' : ¬ es.toList.any (·.refKey) = true := by rw [a]; exact Bool.false_ne_true
    rw [if_neg a']
    exact congrArg some e
theorem ObjM.look {h : Heap} {x dx C : Addr} {mA : Str → Option Value} (I : ObjM h x dx C mA) : ∃ od, PySem.W.InstAt h x (PySem.W.instObj C dx) C (some od) ∧ ∀ name, PySem.W.lookIn name od = some (mA name) :=
  let ⟨od, ho, hl⟩ := lookIn_ns I.ns
  ⟨od, ⟨I.obj, rfl, rfl, ho⟩, hl⟩
section
variable {prog : Program} {w : World} {A : Around} {E : Value → Shared → Prop} {s : Shared} {K : PySem.W.Frag} {x dx C f : Addr} {mA : Str → Option Value} {name : Str} {v : Value}
end
theorem RelO.some_of {v : V} {o : Option Value} (r : RelO (some v) o) : ∃ u, o = some u ∧ RelV v u := by
  cases o with
  | none => exact (show False from r).elim
  | some u => exact ⟨u, rfl, r⟩
section
variable {P : Program} {w : World} {H H' : Hp} {h h' : Heap} {a C dx : Addr} {fs fs' : List (Str × V)}
theorem ins_get (hok : HOk P w H h) (e : H a = some (.ins C dx fs)) : ∃ mA, ObjM h a dx C mA ∧ (∀ f, RelO (fs.lookup f) (mA f)) ∧ PySem.Within mA (fs.map (·.1)) ∧ fs.length ≤ 1000 ∧ H dx = some (.own a) := by
  obtain ⟨d, z, ne, ob, mA, n, r, q⟩ := (show ObjOk P w H h a (.ins C dx fs) from hok a _ e)
  exact ⟨mA, ⟨ob, n, ne⟩, r, q, z, d⟩
end
structure Cls (K : PySem.W.Frag) (C : Addr) : Prop where
  pg : PySem.W.plainGet K C Str.empty = true
  hd : PySem.W.hasDictIn K C = true
  po : PySem.W.plainOver K C = true
  sa : PySem.W.findIn K (.ref C) "__setattr__" = some (some (.builtin "object.__setattr__"))
theorem Cls.get {K : PySem.W.Frag} {C : Addr} (c : Cls K C) (f : Str) : PySem.W.plainGet K C f = true := c.pg
structure Con (K : PySem.W.Frag) (C : Addr) (f : Str) (v : V) (u : Value) : Prop where
  at_ : PySem.W.findIn K (.ref C) f = some (some u)
  rel : RelV v u
  get : PySem.W.specialIn K u "__get__" = some none
  cp : PySem.W.copiedNames.contains f = false
structure Meth (K : PySem.W.Frag) (C : Addr) (m : Str) (f : Addr) : Prop where
  at_ : PySem.W.findIn K (.ref C) m = some (some (.ref f))
  fn : PySem.W.isFn K (.ref f) = true
  kp : PySem.W.keepIn K (.ref f) = true
section
variable {X : Cx} {pins : List (Addr × Obj)} {σ : St} {H : Hp} {s : Shared} {a C dx : Addr} {fs : List (Str × V)} {f : Str} {v : V} {A : Around} {E : Value → Shared → Prop}
end
section
variable {X : Cx} {o e value : Expr} {f : Str} {pos pos' tpos : Pos} {ta tv : TE}
end
section
variable {X : Cx} {pins : List (Addr × Obj)} {σ : St} {H : Hp} {s : Shared} {A : Around} {E : Value → Shared → Prop} {Q : Value → Shared → Prop} {c : Value} {b : Bool}
inductive TyOf (K : PySem.W.Frag) (H : Hp) : V → Value → Prop where
  | non : TyOf K H .non (.type "NoneType")
  | bl (x : Bool) : TyOf K H (.bl x) (.type "bool")
  | int (i : Int) : TyOf K H (.int i) (.type "int")
  | str (x : Str) : TyOf K H (.str x) (.type "str")
  | flt (x : UInt64) : TyOf K H (.flt x) (.type "float")
  | lst {a : Addr} {xs : List V} (e : H a = some (.lst xs)) : TyOf K H (.ref a) (.type "list")
  | frz {a : Addr} {o : Obj} {xs : List V} (e : H a = some (.frz o (.lst xs))) : TyOf K H (.ref a) (.type "list")
  | tup {a : Addr} {xs : List V} (e : H a = some (.tup xs)) : TyOf K H (.ref a) (.type "tuple")
  | dK {a : Addr} {kvs : List (Key × V)} (e : H a = some (.dK kvs)) : TyOf K H (.ref a) (.type "dict")
  | dT {a : Addr} {kvs : List (D × V)} (e : H a = some (.dT kvs)) : TyOf K H (.ref a) (.type "dict")
  | ins {a C dx : Addr} {fs : List (Str × V)} (e : H a = some (.ins C dx fs)) (cl : Cls K C) (ha : PySem.W.findIn K (.ref C) "__class__" = some (some (.builtin "object.__class__")))
      (hn : PySem.W.specialIn K (.builtin "object.__class__") "__get__" = some (some (.builtin "getset_descriptor.__get__"))) (htk : PySem.W.takesIn K (.builtin "object.__class__") = some true)
      (hm : PySem.W.mroIn K C (.type "object") = some true) : TyOf K H (.ref a) (.ref C)
theorem isinst_ok {x : V} {u t : Value} (I : Inv X pins σ H s) (rx : RelV x u) (ty : TyOf X.K H x t) (e : PySem.W.kitOne X.K t c = some b) (h : ∀ tk, Q (.bool b) { s with toks := tk }) :
    wpAny (model X.prog X.w) A (call (.builtin "isinstance") [u, c]) Q E s := by
  cases ty with
  | non => cases (show u = Value.none from rx); exact PySem.W.kia_one PySem.W.kitx_none I.kIn True.intro e (fun z => nomatch z) h
  | bl y => cases (show u = Value.bool y from rx); exact PySem.W.kia_one PySem.W.kitx_bool I.kIn True.intro e (fun z => nomatch z) h
  | int i => obtain ⟨t, q⟩ := (show ∃ t, u = Value.int i t from rx); cases q; exact PySem.W.kia_one PySem.W.kitx_int I.kIn True.intro e (fun z => nomatch z) h
  | str y => obtain ⟨t, q⟩ := (show ∃ t, u = Value.str y t from rx); cases q; exact PySem.W.kia_one PySem.W.kitx_str I.kIn True.intro e (fun z => nomatch z) h
  | flt y => obtain ⟨t, q⟩ := (show ∃ t, u = Value.float y t from rx); cases q; exact PySem.W.kia_one PySem.W.kitx_float I.kIn True.intro e (fun z => nomatch z) h
  | @lst a xs ea =>
    cases (show u = Value.ref a from rx)
    obtain ⟨_, _, n, _, h1⟩ := (show ObjOk X.prog X.w H s.heap a (.lst xs) from I.hok a _ ea)
    exact PySem.W.kia_one PySem.W.kitx_list I.kIn ⟨_, h1, rfl⟩ e (fun z => nomatch z) h
  | @frz a ob xs ea =>
    cases (show u = Value.ref a from rx)
    obtain ⟨_, _, _, n, _, h1⟩ := (show ObjOk X.prog X.w H s.heap a (.frz ob (.lst xs)) from I.hok a _ ea)
    exact PySem.W.kia_one PySem.W.kitx_list I.kIn ⟨_, h1, rfl⟩ e (fun z => nomatch z) h
  | @tup a xs ea =>
    cases (show u = Value.ref a from rx)
    obtain ⟨_, _, _, p⟩ := (show ObjOk X.prog X.w H s.heap a (.tup xs) from I.hok a _ ea)
    obtain ⟨o, h1, h2, _⟩ := p
    exact PySem.W.kia_one PySem.W.kitx_tuple I.kIn ⟨o, h1, h2⟩ e (fun z => nomatch z) h
  | @dK a kvs ea =>
    cases (show u = Value.ref a from rx)
    obtain ⟨_, _, vs, _, p⟩ := (show ObjOk X.prog X.w H s.heap a (.dK kvs) from I.hok a _ ea)
    obtain ⟨o, es, ep, h1, h2, _⟩ := p
    exact PySem.W.kia_one PySem.W.kitx_dict I.kIn ⟨o, h1, h2.1⟩ e (fun z => nomatch z) h
  | @dT a kvs ea =>
    cases (show u = Value.ref a from rx)
    obtain ⟨_, _, xs, _, o, es, ep, h1, h2, _⟩ := (show ObjOk X.prog X.w H s.heap a (.dT kvs) from I.hok a _ ea)
    exact PySem.W.kia_one PySem.W.kitx_dict I.kIn ⟨o, h1, h2.1⟩ e (fun z => nomatch z) h
  | @ins a C dx fs ea cl ha hn htk hm =>
    cases (show u = Value.ref a from rx)
    obtain ⟨mA, O, _⟩ := ins_get I.hok ea
    obtain ⟨od, J, _⟩ := O.look
    exact PySem.W.kia_one (PySem.W.kitx_own (cl.get _) cl.hd ha hn htk hm) I.kIn J e (fun z => nomatch z) h
end
end L2
namespace L2
open PySem PySem.Spec PyProof.Rows DD
structure Room (k : Nat) (A : Around) : Prop where
  hd : A.handled = none
  dp : A.depth + 3 * k + 5 < recursionLimit
  un : A.units + 16 * k + 200 < cLine
theorem Room.mono {j k : Nat} {A : Around} (r : Room k A) (h : j ≤ k) : Room j A := ⟨r.hd, by have := r.dp; omega, by have := r.un; omega⟩
theorem Room.deeper {k : Nat} {A : Around} (r : Room (k + 1) A) (env : Env) : Room k (A.deeper env) :=
  ⟨r.hd, by have := r.dp; show A.depth + 1 + 3 * k + 5 < _; omega, by have := r.un; show A.units + 3 + 16 * k + 200 < _; omega⟩
theorem Room.in1 {k : Nat} {A : Around} (r : Room (k + 1) A) : Room k A.in1 :=
  ⟨r.hd, by have := r.dp; show A.depth + 3 * k + 5 < _; omega, by have := r.un; show A.units + 1 + 16 * k + 200 < _; omega⟩
theorem Room.depth {k : Nat} {A : Around} (r : Room k A) : A.depth < recursionLimit := by have := r.dp; omega
theorem Room.units {k : Nat} {A : Around} (r : Room k A) : A.units + 64 < cLine := by have := r.un; omega
def tNil : TA := fun _ H Q => Q [] H
def tCons (ta : TE) (tr : TA) : TA := fun σ H Q => ta σ H fun x H1 => tr σ H1 fun xs H2 => Q (x :: xs) H2
section
variable {X : Cx} {e : Expr} {es : List Expr} {te : TE} {t : TA} {pos : Pos}
theorem pa_nil : PA X [] tNil := fun _ _ _ _ H Q I h => Calls.spliced_nil ⟨[], H, I, .nil, h⟩
theorem pa_cons (ha : PE X e te) (hr : PA X es t) (hs : starEach (e :: es) X.env = (false, eval e X.env) :: starEach es X.env := by rfl) : PA X (e :: es) (tCons te t) := by
  intro pos pins s σ H Q I h
  rw [hs]
  show wpAny _ _ (spliced ((false, eval e X.env) :: backTo pos (starEach es X.env))) _ _ s
  refine Calls.spliced_cons (thn (ha pins s σ H _ I h) fun u s1 ⟨x, H1, I1, r1, q1⟩ => ?_)
  exact thn (hr pos pins s1 σ H1 _ I1 q1) fun us s2 ⟨xs, H2, I2, r2, q2⟩ => ⟨x :: xs, H2, I2, .cons r1 r2, q2⟩
def tTup (t : TA) : TE := fun σ H Q => t σ H fun xs H1 => xs.length ≤ sizeLine ∧ ∀ p, H1 p = none → Q (.ref p) (upd H1 p (.tup xs))
def tLst (t : TA) : TE := fun σ H Q => t σ H fun xs H1 => xs.length ≤ sizeLine ∧ ∀ p, H1 p = none → Q (.ref p) (upd H1 p (.lst xs))
theorem pe_tup {x1} (h : PA X es t) : PE X (.Tuple es x1 pos) (tTup t) := by
  intro pins s σ H Q I hq
  refine wpAny_Tuple_spliced (thn (h pos pins s σ H _ I hq) fun us s1 ⟨xs, H1, I1, r, z, q⟩ => ⟨by rw [← r.length]; exact z, ?_⟩)
  have hf : H1 s1.heap.objs.size = none := I1.hok.fresh (Nat.le_refl _)
  refine ⟨.ref s1.heap.objs.size, upd H1 s1.heap.objs.size (.tup xs), I1.laid (t' := s1.toks) (fun b u e => Heap.get?_push_of_some _ e) (Nat.le_refl _) ?_, rfl, q _ hf⟩
  exact ⟨z, us, r, IsTp.new _ _⟩
theorem pe_lst (h : PA X es t) : PE X (.List es pos) (tLst t) := by
  intro pins s σ H Q I hq
  refine wpAny_List_spliced (thn (h pos pins s σ H _ I hq) fun us s1 ⟨xs, H1, I1, r, z, q⟩ => ⟨by rw [← r.length]; exact z, ?_⟩)
  have hf : H1 s1.heap.objs.size = none := I1.hok.fresh (Nat.le_refl _)
  refine ⟨.ref s1.heap.objs.size, upd H1 s1.heap.objs.size (.lst xs), I1.laid (t' := s1.toks) (fun b u e => Heap.get?_push_of_some _ e) (Nat.le_refl _) ?_, rfl, q _ hf⟩
  exact ⟨z, us, 0, r, Heap.get?_push_size _ rfl⟩
end
abbrev Sp := List V → Hp → VK → XK → Prop
abbrev CXT := List Env → Hp → Shared → XK → Value → Shared → Prop
structure Env0 (P : Program) (w : World) (K : PySem.W.Frag) (mg : Str → Option Value) (base : Heap) (A : Around) (outer : List Env) (s : Shared) (H : Hp) : Prop where
  frames : A.frames = some outer
  mod : Mod K mg base
  bs : ∀ b o, base.get? b = some o → s.heap.get? b = some o ∧ H b = none
  bsz : base.objs.size ≤ s.heap.objs.size
  funs : s.heap.FunFrames base outer
  frf : ∀ b ∈ frs outer, H b = none
  hok : HOk P w H s.heap
  bare : AllBare s.gens
def CE (outer : List Env) (P : Program) (w : World) (H : Hp) (s : Shared) (Q : VK) (u : Value) (s' : Shared) : Prop :=
  ∃ v H', s'.os = s.os ∧ AllBare s'.gens ∧ Un (frs outer) [] H H' s.heap s'.heap ∧ HOk P w H' s'.heap ∧ RelV v u ∧ Q v H'
def CR (CX : CXT) (outer : List Env) (P : Program) (w : World) (H : Hp) (s : Shared) (Q : VK) (E : XK) (r : Result) (s' : Shared) : Prop :=
  match r with
  | .ok (.ret u) => CE outer P w H s Q u s'
  | .ok _ => False
  | .error e => CX outer H s E e s'
structure FnOk (P : Program) (w : World) (K : PySem.W.Frag) (mg : Str → Option Value) (base : Heap) (CX : CXT) (k : Nat) (f : Addr) (fd : FuncData) (ps : List Str) (sp : Sp) : Prop where
  len : ∀ vs H Q E, sp vs H Q E → vs.length = ps.length
  run : ∀ (A : Around) (outer : List Env) (s : Shared) (H : Hp) (args : Args) (us : List Value) (vs : List V) (Q : VK) (E : XK), Room k A → Env0 P w K mg base A outer s H → BindsTo s fd args (ps.zip us) → Vals vs us → sp vs H Q E →
    codeAny (model P w) A (.call (.ref f) args) (CR CX outer P w H s Q E) s
theorem FnOk.mono {P : Program} {w : World} {K : PySem.W.Frag} {mg : Str → Option Value} {base : Heap} {CX : CXT} {j k : Nat} {f : Addr} {fd : FuncData} {ps : List Str} {sp : Sp} (F : FnOk P w K mg base CX j f fd ps sp) (h : j ≤ k) :
    FnOk P w K mg base CX k f fd ps sp := ⟨F.len, fun A outer s H args us vs Q E hr => F.run A outer s H args us vs Q E (hr.mono h)⟩
theorem FnOk.imp {P : Program} {w : World} {K : PySem.W.Frag} {mg : Str → Option Value} {base : Heap} {CX : CXT} {k : Nat} {f : Addr} {fd : FuncData} {ps : List Str} {sp sp' : Sp} (F : FnOk P w K mg base CX k f fd ps sp)
    (h : ∀ vs H Q E, sp' vs H Q E → sp vs H Q E) : FnOk P w K mg base CX k f fd ps sp' :=
  ⟨fun vs H Q E q => F.len vs H Q E (h _ _ _ _ q), fun A outer s H args us vs Q E hr he hb hv hs => F.run A outer s H args us vs Q E hr he hb hv (h _ _ _ _ hs)⟩
theorem Env0.in1 {P : Program} {w : World} {K : PySem.W.Frag} {mg : Str → Option Value} {base : Heap} {A : Around} {outer : List Env} {s : Shared} {H : Hp} (e : Env0 P w K mg base A outer s H) :
    Env0 P w K mg base A.in1 outer s H := ⟨e.frames, e.mod, e.bs, e.bsz, e.funs, e.frf, e.hok, e.bare⟩
section
variable {X : Cx} {pins : List (Addr × Obj)} {σ : St} {H : Hp} {s s' : Shared}
theorem Inv.env0 (I : Inv X pins σ H s) : Env0 X.prog X.w X.K X.mg X.base X.A X.stack s H :=
  ⟨I.ok.frames, I.ok.mod, I.bs, Nat.le_trans I.ok.bsz I.sz, I.stack, I.stkFree, I.hok, I.bare⟩
theorem Inv.after {Q : VK} {u : Value} (I : Inv X pins σ H s) (h : CE X.stack X.prog X.w H s Q u s') : EP X pins σ Q u s' := by
  obtain ⟨v, H', os, bare, un, hok, r, q⟩ := h
  obtain ⟨hh, g, d, t, os'⟩ := s'
  obtain rfl : os' = s.os := os
  exact ⟨v, H', I.call (h' := hh) (g' := g) (d' := d) (t' := t) (ch := []) un hok bare (fun b z => absurd z (by simp)), r, q⟩
end
def tCall (sp : Sp) (dvs : List V) (E : XK) (t : TA) : TE := fun σ H Q => t σ H fun vs H1 => sp (vs ++ dvs) H1 Q E
def Binds (K : PySem.W.Frag) (fd : FuncData) (ps : List Str) (ds : List Value) : Prop :=
  ∀ (s : Shared) (us : List Value), K.In s.heap → (us ++ ds).length = ps.length → BindsTo s fd ⟨us, []⟩ (ps.zip (us ++ ds))
theorem Binds.all {K : PySem.W.Frag} {fd : FuncData} {ps : List Str} (h : ∀ us : List Value, us.length = ps.length → bindArgs fd ⟨us, []⟩ = pure (ps.zip us)) : Binds K fd ps [] := fun s us _ hl => by
  rw [List.append_nil] at hl ⊢
  exact .of_eq (h us hl)
def Passes (CX : CXT) (X : Cx) (E : XK) : Prop := ∀ (pins : List (Addr × Obj)) (σ : St) (H : Hp) (s : Shared) (e : Value) (s' : Shared), Inv X pins σ H s → CX X.stack H s E e s' → X.xe e s'
section
variable {X : Cx} {CX : CXT} {k : Nat} {f C : Addr} {fd : FuncData} {ps : List Str} {sp : Sp} {dvs : List V} {ds : List Value} {E : XK} {x m : Str} {p pos apos : Pos} {e o : Expr} {es : List Expr} {ta : TE} {t : TA}
theorem run_fn {pins : List (Addr × Obj)} {σ : St} {H : Hp} {s : Shared} {Q : VK} {us : List Value} {vs : List V} (F : FnOk X.prog X.w X.K X.mg X.base CX k f fd ps sp) (hr : Room k X.A) (hb : Binds X.K fd ps ds) (hd : Vals dvs ds) (hx : Passes CX X E)
    (I : Inv X pins σ H s) (r : Vals vs us) (h : sp (vs ++ dvs) H Q E) : wpAny (model X.prog X.w) X.A (call (.ref f) us) (EP X pins σ Q) X.xe s := by
  have r2 : Vals (vs ++ dvs) (us ++ ds) := r.append hd
  have hl : (us ++ ds).length = ps.length := by rw [← r2.length]; exact F.len _ _ _ _ h
  refine wpAny_call (codeAny_mono (F.run X.A X.stack s H ⟨us, []⟩ (us ++ ds) (vs ++ dvs) Q E hr I.env0 (hb s us I.kIn hl) r2 h) fun r s' hq => ?_)
  cases r with
  | error e => exact hx pins σ H s e s' I hq
  | ok fl =>
    cases fl with
    | ret u => exact I.after hq
    | next => exact False.elim hq
    | brk => exact False.elim hq
    | cont => exact False.elim hq
theorem pe_call (F : FnOk X.prog X.w X.K X.mg X.base CX k f fd ps sp) (hr : Room k X.A) (hg : Gl X x) (hm : X.mg x = some (.ref f)) (hk : PySem.W.keepIn X.K (.ref f) = true) (hb : Binds X.K fd ps ds) (hd : Vals dvs ds) (hx : Passes CX X E)
    (ha : PA X (e :: es) t) (hdb : (x == ("__debug__" : Str)) = false := by decide) (he : starEach (e :: es) X.env = (false, eval e X.env) :: starEach es X.env := by rfl) (hpl : (backTo pos (starEach es X.env)).any (·.1) = false := by rfl) :
    PE X (.Call (.Name x p) (e :: es) [] pos) (tCall sp dvs E t) := by
  intro pins s σ H Q I h
  refine wpAny_Call_Name_kw (ld_glob I hg hm ?_ hdb)
  refine PySem.W.callWith_K (h₀ := X.base) I.ok.mod.kin hk (thn (ha pos pins s σ H _ I h) fun us s1 ⟨vs, H1, I1, r, q⟩ => ⟨I1.kIn, ?_⟩) he hpl
  exact run_fn F hr hb hd hx I1 r q
structure Mk (K : PySem.W.Frag) (C f : Addr) : Prop where
  makes : PySem.W.makesIn K C = true
  init : PySem.W.findIn K (.ref C) "__init__" = some (some (.ref f))
  fn : PySem.W.isFn K (.ref f) = true
  kp : PySem.W.keepIn K (.ref C) = true
end
section
variable {X : Cx} {CX : CXT} {k : Nat} {f C : Addr} {fd : FuncData} {ps ks : List Str} {sp : Sp} {E : XK} {x m : Str} {p pos apos kpos : Pos} {e o : Expr} {es : List Expr} {kws : List Keyword} {te ta : TE} {t tk : TA} {nm : Option Str}
structure KBinds (K : PySem.W.Frag) (fd : FuncData) (ps ks : List Str) (g : List Value → List Value → List Value) (gV : List V → List V → List V) : Prop where
  to : ∀ (s : Shared) (us ws : List Value), K.In s.heap → (g us ws).length = ps.length → BindsTo s fd ⟨us, ks.zip ws⟩ (ps.zip (g us ws))
  rel : ∀ {vs : List V} {us : List Value} {zs : List V} {ws : List Value}, Vals vs us → Vals zs ws → Vals (gV vs zs) (g us ws)
variable {g : List Value → List Value → List Value} {gV : List V → List V → List V}
end
structure FnScope (N P : List Str) (sc : Scope) : Prop where
  kind : sc.kind = .function
  co : sc.isCoroutine = false
  gen : sc.isGenerator = false
  nd : N.Nodup
  pre : N.take P.length = P
  par : ∀ x ∈ P, sc.names.lookup x = some .local ∨ sc.names.lookup x = some .cell
  nofree : ∀ y ∈ sc.names, y.2 ≠ .free
theorem bindL_out {kindOf : Str → Option NameKind} {x : Str} : ∀ {binds : List (Str × Value)} {m : Str → Option Value}, (∀ v, (x, v) ∉ binds) → bindL kindOf binds m x = m x
  | [], _, _ => rfl
  | (n, v) :: r, m, h => by
    unfold bindL
    rw [bindL_out fun w hw => h w (List.mem_cons_of_mem _ hw)]
    split
    · have : x ≠ n := by rintro rfl; exact h v List.mem_cons_self
      simp [this]
    · rfl
theorem bindC_out {kindOf : Str → Option NameKind} {x : Str} : ∀ {binds : List (Str × Value)} {m : Str → Option Value}, (∀ v, (x, v) ∉ binds) → bindC kindOf binds m x = m x
  | [], _, _ => rfl
  | (n, v) :: r, m, h => by
    unfold bindC
    rw [bindC_out fun w hw => h w (List.mem_cons_of_mem _ hw)]
    split
    · rfl
    · have : x ≠ n := by rintro rfl; exact h v List.mem_cons_self
      simp [this]
theorem bindL_get {kindOf : Str → Option NameKind} {x : Str} {v : Value} : ∀ {P : List Str} {vs : List Value} {i : Nat} {m : Str → Option Value}, P.Nodup → P[i]? = some x → vs[i]? = some v → kindOf x = some .local →
    bindL kindOf (P.zip vs) m x = some v
  | [], _, _, _, _, h, _, _ => by simp at h
  | _ :: _, [], _, _, _, _, h, _ => by simp at h
  | p :: P, w :: vs, 0, m, nd, h1, h2, hk => by
    simp at h1 h2; subst h1; subst h2
    show bindL kindOf ((p, w) :: P.zip vs) m p = _
    unfold bindL
    rw [bindL_out fun v hv => (List.nodup_cons.mp nd).1 (List.of_mem_zip hv).1, if_pos hk]
    simp
  | p :: P, w :: vs, i + 1, m, nd, h1, h2, hk => by
    show bindL kindOf ((p, w) :: P.zip vs) m x = _
    unfold bindL
    exact bindL_get (i := i) (List.nodup_cons.mp nd).2 (by simpa using h1) (by simpa using h2) hk
theorem bindC_get {kindOf : Str → Option NameKind} {x : Str} {v : Value} : ∀ {P : List Str} {vs : List Value} {i : Nat} {m : Str → Option Value}, P.Nodup → P[i]? = some x → vs[i]? = some v → kindOf x ≠ some .local →
    bindC kindOf (P.zip vs) m x = some v
  | [], _, _, _, _, h, _, _ => by simp at h
  | _ :: _, [], _, _, _, _, h, _ => by simp at h
  | p :: P, w :: vs, 0, m, nd, h1, h2, hk => by
    simp at h1 h2; subst h1; subst h2
    show bindC kindOf ((p, w) :: P.zip vs) m p = _
    unfold bindC
    rw [bindC_out fun v hv => (List.nodup_cons.mp nd).1 (List.of_mem_zip hv).1, if_neg hk]
    simp
  | p :: P, w :: vs, i + 1, m, nd, h1, h2, hk => by
    show bindC kindOf ((p, w) :: P.zip vs) m x = _
    unfold bindC
    exact bindC_get (i := i) (List.nodup_cons.mp nd).2 (by simpa using h1) (by simpa using h2) hk
def start (N : List Str) (vs : List V) : St := vs.map some ++ List.replicate (N.length - vs.length) none
def cxOf (CX : CXT) (P : Program) (w : World) (K : PySem.W.Frag) (mg : Str → Option Value) (base : Heap) (N : List Str) (qual : Str) (scope : Scope) (f : Addr) (cd : Value) (A : Around) (outer : List Env) (s : Shared) (H : Hp) (E : XK) : Cx where
  prog := P
  w := w
  K := K
  mg := mg
  base := base
  A := A.deeper (envOfC qual scope s.heap.objs.size f cd)
  N := N
  s₀ := s
  H₀ := H
  env := envOfC qual scope s.heap.objs.size f cd
  outer := outer
  stack := envOfC qual scope s.heap.objs.size f cd :: outer
  ex := []
  calm := true
  fn := fun _ => true
  pn := []
  xe := fun e s' => wpAny (model P w) (A.deeper (envOfC qual scope s.heap.objs.size f cd)) (leaving (envOfC qual scope s.heap.objs.size f cd) e) (fun _ s'' => CX outer H s E e s'') (fun e' s'' => CX outer H s E e' s'') s'
theorem cell_has {sc : Scope} {n : Nat} {x : Str} (h : sc.names.lookup x = some .cell) : ∃ c, (cellsFrom n sc.names []).lookup x = some c := by
  have q := PySem.W.cellsFrom_some sc.names n [] (.inl h)
  exact Option.isSome_iff_exists.mp q
theorem inv_start {CX : CXT} {P : Program} {w : World} {K : PySem.W.Frag} {mg : Str → Option Value} {base : Heap} {N ps : List Str} {qual : Str} {scope : Scope} {f : Addr} {cd : Value} {A : Around} {outer : List Env} {s s1 : Shared} {H : Hp} {E : XK} {us : List Value} {vs : List V}
    (S : FnScope N ps scope) (hd : A.handled = none) (e0 : Env0 P w K mg base A outer s H) (hl : vs.length = ps.length) (r : Vals vs us)
    (x : InCallC s s.heap.objs.size (bindL (envOfC qual scope s.heap.objs.size f cd).kindOf (ps.zip us) fun _ => none) (cellsFrom (s.heap.objs.size + 1) scope.names []) (bindC (envOfC qual scope s.heap.objs.size f cd).kindOf (ps.zip us) fun _ => none) s1) :
    Inv (cxOf CX P w K mg base N qual scope f cd A outer s H E) [] (start N vs) H s1 := by
  have hpl : ps.length ≤ N.length := by have := congrArg List.length S.pre; rw [List.length_take] at this; omega
  obtain ⟨h1, tk, rfl, hk⟩ := x.done
  have noA : ∀ b : Addr, b ∉ (cxOf CX P w K mg base N qual scope f cd A outer s H E).ex := fun b z => absurd (show b ∈ ([] : List Addr) from z) (by simp)
  refine ⟨⟨e0.mod, S.kind, rfl, rfl, Nat.le_refl _, fun y z c h1 h2 => ?_, fun y hy => ?_, fun y c _ h => ?_, fun _ => hd, Around.frames_deeper e0.frames, .inr ⟨rfl, rfl⟩, fun b z => absurd z (noA b), e0.bs, e0.bsz, fun b _ _ => noA b, fun b z => absurd z (noA b), e0.funs, e0.frf⟩,
    rfl, e0.bare, Un.kept hk, ⟨_, x.toInCall.ns, fun i y v h1 h2 h3 => ?_⟩, fun y c h => ⟨_, x.cell y c h⟩, e0.hok.fresh (Nat.le_refl _), fun y c h => ?_, fun p hp => absurd (show p ∈ ([] : List (Addr × Obj)) from hp) (by simp), e0.hok.kept hk, ?_⟩
  · exact name_of_addr x.apart (PySem.mem_of_lookup h1) (PySem.mem_of_lookup h2)
  · have hy : scope.names.lookup y = some .cell ∨ scope.names.lookup y = some .free := hy
    rcases hy with hy | hy
    · exact cell_has hy
    · exact absurd rfl (S.nofree _ (PySem.mem_of_lookup hy))
  · exact Nat.le_of_lt (x.above y c (PySem.mem_of_lookup h))
  · have hi : i < vs.length := by
      unfold start at h2
      by_cases hi : i < vs.length
      · exact hi
      · rw [List.getElem?_append_right (by simpa using hi)] at h2
        rw [List.getElem?_replicate] at h2
        split at h2 <;> cases h2
    have ha : vs[i]? = some v := by
      unfold start at h2
      rw [List.getElem?_append_left (by simpa using hi), List.getElem?_map] at h2
      cases e : vs[i]? with
      | none => rw [e] at h2; cases h2
      | some a => rw [e] at h2; cases h2; rfl
    obtain ⟨u, hu, rv⟩ := r.get ha
    have hp : ps[i]? = some y := by
      rw [← S.pre, List.getElem?_take_of_lt (by omega)]; exact h1
    have ndP : ps.Nodup := by rw [← S.pre]; exact S.nd.sublist (List.take_sublist _ _)
    refine ⟨u, rv, ?_⟩
    rcases S.par y (List.mem_of_getElem? hp) with k | k
    · exact .inl ⟨k, bindL_get ndP hp hu k⟩
    · obtain ⟨c, e⟩ := cell_has (n := s.heap.objs.size + 1) k
      refine .inr ⟨.inl k, c, e, ?_⟩
      have q := x.cell y c e
      rw [bindC_get ndP hp hu (by show scope.names.lookup y ≠ _; rw [k]; decide)] at q
      exact q
  · exact e0.hok.fresh (Nat.le_of_lt (x.above y c (PySem.mem_of_lookup h)))
  · unfold start
    show _ = N.length
    rw [List.length_append, List.length_map, List.length_replicate]
    omega
theorem fn_of {CX : CXT} {P : Program} {w : World} {K : PySem.W.Frag} {mg : Str → Option Value} {base : Heap} {k : Nat} {f : Addr} {name qual : Str} {params : Arguments} {body : List Stmt} {scope : Scope} {dV kV doc pm cdv ct oc : Value} {an od : Option Addr}
    {osl : Array (Option Value)} {N ps : List Str} {sp : Sp} (lk : K.lookup f = some ⟨oc, od, .func (PySem.W.fnOf name qual params body scope dV kV doc pm an cdv ct), osl⟩) (hcd : PySem.W.codeIn K cdv qual = true) (S : FnScope N ps scope)
    (len : ∀ vs H Q E, sp vs H Q E → vs.length = ps.length)
    (hbody : ∀ (A : Around) (outer : List Env) (s : Shared) (H : Hp) (vs : List V) (Q : VK) (E : XK), Room k (A.deeper (envOfC qual scope s.heap.objs.size f cdv)) → sp vs H Q E →
      ∃ t, PSs (cxOf CX P w K mg base N qual scope f cdv A outer s H E) body t ∧ t { nx := fun _ H' => Q .non H', rt := Q } (start N vs) H) :
    FnOk P w K mg base CX (k + 1) f (PySem.W.fnOf name qual params body scope dV kV doc pm an cdv ct) ps sp := by
  refine ⟨len, fun A outer s H args us vs Q E hr e0 hb r hsp => ?_⟩
  have hl := len _ _ _ _ hsp
  have KX : K.In s.heap := e0.mod.kin.keeps fun b o e => (e0.bs b o e).1
  have lim : s.heap.NoLimit := e0.mod.nolimit.keeps fun b o e => (e0.bs b o e).1
  have hkind : ∀ y ∈ ps.zip us, scope.names.lookup y.1 = some .local ∨ (scope.names.lookup y.1 = some .cell ∧ ((cellsFrom (s.heap.objs.size + 1) scope.names []).lookup y.1).isSome = true) := fun ⟨n, v⟩ hy => by
    rcases S.par n (List.of_mem_zip hy).1 with q | q
    · exact .inl q
    · exact .inr ⟨q, PySem.W.cellsFrom_some _ _ _ (.inl q)⟩
  refine codeAny_call_function hr.depth (KX _ _ lk) rfl S.co S.gen rfl (PySem.W.codeRec_of KX hcd) (hb _ _ _ _ ?_)
  refine wpAny_newFunctionEnv_cells S.kind hkind fun env he s1 x => ?_
  subst he
  refine ⟨lim.keeps x.toInCall.keep, codeAny_func ?_⟩
  obtain ⟨t, ht, hq⟩ := hbody A outer s H vs Q E (hr.deeper _) hsp
  have I : Inv (cxOf CX P w K mg base N qual scope f cdv A outer s H E) [] (start N vs) H s1 := inv_start S hr.hd e0 hl r x
  refine wpAny_mono (ht [] s1 (start N vs) H _ I hq) (fun fl s' hs => ?_) fun e s' hs => hs
  have fin : ∀ {σ' : St} {H' : Hp} {v : V} {u : Value}, Inv (cxOf CX P w K mg base N qual scope f cdv A outer s H E) [] σ' H' s' → RelV v u → Q v H' → CE outer P w H s Q u s' :=
    fun {σ' H' v u} J rv q => ⟨v, H', J.os, J.bare, J.base, J.hok, rv, q⟩
  cases fl with
  | ret u =>
    obtain ⟨v, σ', H', J, rv, q⟩ := hs
    exact fin J rv q
  | next =>
    obtain ⟨σ', H', J, q⟩ := hs
    exact fin (v := V.non) (u := Value.none) J rfl q
  | brk =>
    obtain ⟨_, _, _, q⟩ := hs
    exact False.elim q
  | cont =>
    obtain ⟨_, _, _, q⟩ := hs
    exact False.elim q
end L2
namespace L2
open PySem PySem.Spec PyProof.Rows DD
section
variable {X : Cx} {x : Str} {p pos : Pos} {e : Expr} {es : List Expr} {t : TA} {id T : String} {r : List V → Hp → VK → Prop}
def tCB (r : List V → Hp → VK → Prop) (t : TA) : TE := fun σ H Q => t σ H fun vs H1 => r vs H1 Q
theorem pe_callB (hc : CallR X (.builtin id) r) (hg : Gl X x) (hm : X.mg x = none) (hv : bootBuiltins x = some (.builtin id)) (ha : PA X (e :: es) t) (hn : x ≠ "__name__" := by decide) (hdb : (x == ("__debug__" : Str)) = false := by decide)
    (he : starEach (e :: es) X.env = (false, eval e X.env) :: starEach es X.env := by rfl) (hpl : (backTo pos (starEach es X.env)).any (·.1) = false := by rfl) : PE X (.Call (.Name x p) (e :: es) [] pos) (tCB r t) := by
  intro pins s σ H Q I h
  refine wpAny_Call_Name_kw (ld_blt I hg hm hv ?_ hn hdb)
  exact PyProof.Rows.callWith_builtin1 (thn (ha pos pins s σ H _ I h) fun us s1 ⟨vs, H1, I1, r1, q1⟩ => hc pins s1 σ H1 vs us Q I1 r1 q1) he hpl
theorem pe_callTy (hc : CallR X (.type T) r) (hg : Gl X x) (hm : X.mg x = none) (hv : bootBuiltins x = some (.type T)) (ha : PA X (e :: es) t) (hn : x ≠ "__name__" := by decide) (hdb : (x == ("__debug__" : Str)) = false := by decide)
    (he : starEach (e :: es) X.env = (false, eval e X.env) :: starEach es X.env := by rfl) (hpl : (backTo pos (starEach es X.env)).any (·.1) = false := by rfl) : PE X (.Call (.Name x p) (e :: es) [] pos) (tCB r t) := by
  intro pins s σ H Q I h
  refine wpAny_Call_Name_kw (ld_blt I hg hm hv ?_ hn hdb)
  exact PyProof.Rows.callWith_type1 (thn (ha pos pins s σ H _ I h) fun us s1 ⟨vs, H1, I1, r1, q1⟩ => hc pins s1 σ H1 vs us Q I1 r1 q1) he hpl
end
end L2
namespace HT
open PySem PyProof.Rows
section
open PySem.SeqAt
open PySem.AutoSeq1 (wpAny_loadPart')
open PySem.MeetsSeq PySem.MeetsSeq2 PySem.MeetsSeq3
end
section
variable {prog : Program} {w : World} {A : Around} {E : Value → Shared → Prop} {s : Shared}
def sIx (n d : Nat) : Option Int → Nat
  | none => d
  | some v => if v < 0 then (v + (n : Int)).toNat else min v.toNat n
theorem sIx_nat (n d k : Nat) : sIx n d (some (k : Int)) = min k n := by
  show (if (k : Int) < 0 then ((k : Int) + (n : Int)).toNat else min (k : Int).toNat n) = min k n
  rw [if_neg (by omega), Int.toNat_natCast]
end
end HT
namespace L2
open PySem PySem.Spec PyProof.Rows DD
abbrev TO := St → Hp → (Option Int → Hp → Prop) → Prop
def PO (X : Cx) (e : Option Expr) (t : TO) : Prop :=
  ∀ (pins : List (Addr × Obj)) (s : Shared) (σ : St) (H : Hp) (Q : Option Int → Hp → Prop), Inv X pins σ H s → t σ H Q →
    wpAny (model X.prog X.w) X.A (evalPart e X.env) (fun u s' => ∃ o H', Inv X pins σ H' s' ∧ IsPart u o ∧ Q o H') X.xe s
def tNoPart : TO := fun _ H Q => Q none H
def tPart (t : TE) : TO := fun σ H Q => t σ H fun x H1 => ∃ i, x = .int i ∧ Q (some i) H1
section
variable {X : Cx} {e : Expr} {te : TE} {lo hi : Option Expr} {tl th : TO} {pos p2 : Pos}
theorem po_none : PO X none tNoPart := by
  intro pins s σ H Q I h
  rw [evalPart_none]
  exact wpAny_pure ⟨none, H, I, .none, h⟩
theorem po_some (h : PE X e te) : PO X (some e) (tPart te) := by
  intro pins s σ H Q I hw
  rw [evalPart_some]
  refine thn (h pins s σ H _ I hw) fun u s1 ⟨x, H1, I1, r1, q1⟩ => ?_
  obtain ⟨i, rfl, q⟩ := q1
  obtain ⟨t, rfl⟩ := r1
  exact ⟨some i, H1, I1, .int i t, q⟩
def SlR (X : Cx) (r : V → Option Int → Option Int → Hp → VK → Prop) : Prop :=
  ∀ (pins : List (Addr × Obj)) (s : Shared) (σ : St) (H : Hp) (x : V) (v vl vu : Value) (lo hi : Option Int) (sl : Addr) (Q : VK), Inv X pins σ H s → RelV x v → s.heap.IsSliceOf sl vl vu .none → IsPart vl lo → IsPart vu hi → r x lo hi H Q →
    ∃ T id, typeLookup (.type T) "__getitem__" = pure (some (.builtin id)) ∧ s.TypeIs v T ∧ wpAny (model X.prog X.w) X.A (getItem v (.ref sl)) (EP X pins σ Q) X.xe s
theorem SlR.or {r r' : V → Option Int → Option Int → Hp → VK → Prop} (h : SlR X r) (h' : SlR X r') : SlR X (fun x lo hi H Q => r x lo hi H Q ∨ r' x lo hi H Q) := by
  intro pins s σ H x v vl vu lo hi sl Q I rx hs pl pu q
  rcases q with q | q
  · exact h pins s σ H x v vl vu lo hi sl Q I rx hs pl pu q
  · exact h' pins s σ H x v vl vu lo hi sl Q I rx hs pl pu q
def tSl (r : V → Option Int → Option Int → Hp → VK → Prop) (te : TE) (tl th : TO) : TE := fun σ H Q => te σ H fun x H1 => tl σ H1 fun l H2 => th σ H2 fun u H3 => r x l u H3 Q
theorem pe_slice {r : V → Option Int → Option Int → Hp → VK → Prop} (hr : SlR X r) (he : PE X e te) (hl : PO X lo tl) (hu : PO X hi th) : PE X (.Subscript e (.Slice lo hi none p2) pos) (tSl r te tl th) := by
  intro pins s σ H Q I h
  refine Subscript_ (thn (he pins s σ H _ I h) fun v s1 ⟨x, H1, I1, r1, q1⟩ => ?_)
  refine wpAny_Slice (thn (hl pins s1 σ H1 _ I1 q1) fun vl s2 ⟨l, H2, I2, pl, q2⟩ => thn (hu pins s2 σ H2 _ I2 q2) fun vu s3 ⟨u, H3, I3, pu, q3⟩ => ?_)
  rw [evalPart_none]
  refine wpAny_pure ?_
  have I4 : Inv X pins σ H3 { s3 with heap := s3.heap.push { cls := .type "slice", data := .fields #[vl, vu, .none] } } := I3.kept (t' := s3.toks) fun b ob q => Heap.get?_push_of_some _ q
  obtain ⟨T, id, hT, ht, hg⟩ := hr pins { s3 with heap := s3.heap.push { cls := .type "slice", data := .fields #[vl, vu, .none] } } σ H3 x v vl vu l u s3.heap.objs.size Q I4 r1 (Heap.IsSliceOf.new ..) pl pu q3
  show wpAny (model X.prog X.w) X.A (subscriptTail e (.Slice lo hi none p2) v (.ref s3.heap.objs.size)) (EP X pins σ Q) X.xe { s3 with heap := s3.heap.push { cls := .type "slice", data := .fields #[vl, vu, .none] } }
  exact tail_any (ops := [.ref s3.heap.objs.size, v]) ht hT hg (by with_unfolding_all rfl)
def cutV (xs : List V) (lo hi : Option Int) : List V := (xs.drop (HT.sIx xs.length 0 lo)).take (HT.sIx xs.length xs.length hi - HT.sIx xs.length 0 lo)
theorem cutV_length (xs : List V) (lo hi : Option Int) : (cutV xs lo hi).length ≤ xs.length := by
  unfold cutV
  rw [List.length_take, List.length_drop]
  omega
end
end L2
namespace L2
open PySem PySem.Spec PyProof.Rows DD
def ixN (n : Nat) (i : Int) : Option Nat := if 0 ≤ i then (if i < n then some i.toNat else none) else if -(n : Int) ≤ i then some (i + n).toNat else none
def atI {α : Type} (xs : List α) (i : Int) : Option α := (ixN xs.length i).bind fun j => xs[j]?
theorem ixN_seq {n : Nat} {i : Int} {j : Nat} (h : ixN n i = some j) : seqIndex? i n = some j ∧ j < n ∧ -(n : Int) ≤ i ∧ i < n := by
  unfold ixN at h
  by_cases h0 : 0 ≤ i
  · rw [if_pos h0] at h
    by_cases h1 : i < n
    · rw [if_pos h1] at h
      have e : i.toNat = j := Option.some.inj h
      exact ⟨by rw [seqIndex_of h0 h1, e], by omega, by omega, h1⟩
    · rw [if_neg h1] at h; cases h
  · rw [if_neg h0] at h
    by_cases h1 : -(n : Int) ≤ i
    · rw [if_pos h1] at h
      have e : (i + n).toNat = j := Option.some.inj h
      exact ⟨by rw [seqIndex_neg (by omega) h1, e], by omega, h1, by omega⟩
    · rw [if_neg h1] at h; cases h
theorem atI_get {α : Type} {xs : List α} {i : Int} {v : α} (h : atI xs i = some v) : ∃ j, seqIndex? i xs.length = some j ∧ xs[j]? = some v ∧ j < xs.length ∧ -(xs.length : Int) ≤ i ∧ i < xs.length := by
  unfold atI at h
  cases e : ixN xs.length i with
  | none => rw [e] at h; cases h
  | some j =>
    rw [e] at h
    obtain ⟨h1, h2, h3, h4⟩ := ixN_seq e
    exact ⟨j, h1, h, h2, h3, h4⟩
theorem atI_nat {α : Type} {xs : List α} {j : Nat} {v : α} (h : xs[j]? = some v) : atI xs (j : Int) = some v := by
  have hj : j < xs.length := (List.getElem?_eq_some_iff.mp h).1
  have e : ixN xs.length (j : Int) = some j := by
    unfold ixN
    rw [if_pos (by omega), if_pos (by omega)]; simp
  unfold atI; rw [e]; exact h
theorem atI_last {α : Type} (xs : List α) (v : α) : atI (xs ++ [v]) (-1) = some v := by
  have hl : (xs ++ [v]).length = xs.length + 1 := by simp
  have e : ixN (xs ++ [v]).length (-1) = some xs.length := by
    unfold ixN
    rw [hl, if_neg (by decide), if_pos (by omega)]
    congr 1
    omega
  unfold atI
  rw [e]
  show (xs ++ [v])[xs.length]? = some v
  simp
def PlainIx (b : Expr) : Prop := ∀ o i, subscripted b false o i = operate [o, i] (getItem o i)
def IxR (X : Cx) (r : R2) : Prop :=
  ∀ (value slice : Expr) (pins : List (Addr × Obj)) (s : Shared) (σ : St) (H : Hp) (x y : V) (v u : Value) (Q : VK), Inv X pins σ H s → RelV x v → RelV y u → r x y H Q →
    subscripted slice false v u = operate [v, u] (getItem v u) → wpAny (model X.prog X.w) X.A (subscriptTail value slice v u) (EP X pins σ Q) X.xe s
def MtR (X : Cx) (id : String) (r : V → List V → Hp → VK → Prop) : Prop :=
  ∀ (pins : List (Addr × Obj)) (s : Shared) (σ : St) (H : Hp) (x : V) (xs : List V) (v : Value) (us : List Value) (Q : VK), Inv X pins σ H s → RelV x v → Vals xs us → r x xs H Q →
    wpAny (model X.prog X.w) X.A (call (.builtin id) (v :: us)) (EP X pins σ Q) X.xe s
section
variable {X : Cx} {a b : Expr} {ta tb : TE} {pos : Pos}
theorem IxR.or {r r' : R2} (h : IxR X r) (h' : IxR X r') : IxR X (fun x y H Q => r x y H Q ∨ r' x y H Q) := by
  intro value slice pins s σ H x y v u Q I rx ry q hs
  rcases q with q | q
  · exact h value slice pins s σ H x y v u Q I rx ry q hs
  · exact h' value slice pins s σ H x y v u Q I rx ry q hs
theorem MtR.or {id : String} {r r' : V → List V → Hp → VK → Prop} (h : MtR X id r) (h' : MtR X id r') : MtR X id (fun x xs H Q => r x xs H Q ∨ r' x xs H Q) := by
  intro pins s σ H x xs v us Q I rx rs q
  rcases q with q | q
  · exact h pins s σ H x xs v us Q I rx rs q
  · exact h' pins s σ H x xs v us Q I rx rs q
theorem pe_ix {r : R2} (hr : IxR X r) (ha : PE X a ta) (hb : PE X b tb) (hs : PlainIx b) : PE X (.Subscript a b pos) (tOp r ta tb) := by
  intro pins s σ H Q I h
  exact Subscript_ (binT ha hb I h fun v u s2 x y H2 I2 rx ry q => hr a b pins s2 σ H2 x y v u Q I2 rx ry q (hs _ _))
inductive IIxL (K : PySem.W.Frag) (x y : V) (H : Hp) (Q : VK) : Prop
  | mk (p : Addr) (xs : List V) (i : Int) (v : V) (e1 : x = .ref p) (e2 : y = .int i) (s : SqL K H p xs) (a : atI xs i = some v) (q : Q v H) : IIxL K x y H Q
def rIxL (K : PySem.W.Frag) : R2 := fun x y H Q => IIxL K x y H Q
inductive IIxT (K : PySem.W.Frag) (x y : V) (H : Hp) (Q : VK) : Prop
  | mk (p : Addr) (xs : List V) (i : Int) (v : V) (e1 : x = .ref p) (e2 : y = .int i) (s : SqT K H p xs) (a : atI xs i = some v) (q : Q v H) : IIxT K x y H Q
def rIxT (K : PySem.W.Frag) : R2 := fun x y H Q => IIxT K x y H Q
def rIxS : R2 := fun x y H Q => ∃ z i c, x = .str z ∧ y = .int i ∧ z.length ≤ sizeLine ∧ atI z.cps.toList i = some c ∧ Q (.str ⟨#[c]⟩) H
theorem ix_list : IxR X (rIxL X.K) := by
  intro value slice pins s σ H x y v u Q I rx ry h hs
  obtain ⟨p, xs, i, z, rfl, rfl, hq, he, q⟩ := h
  cases rx
  obtain ⟨t, rfl⟩ := ry
  obtain ⟨its, r, pl, hz⟩ := I.list hq
  obtain ⟨j, h1, h2, h3, h4, h5⟩ := atI_get he
  obtain ⟨w, ew, rw'⟩ := r.get h2
  have hl := r.length
  have hn := line63
  have fin : EP X pins σ Q w s := ⟨z, H, I, rw', q⟩
  by_cases h0 : 0 ≤ i
  · have hj : i.toNat = j := by
      rw [seqIndex_of h0 h5] at h1
      exact Option.some.inj h1
    exact item_listR pl.isList h0 (by omega) (by rw [hj]; simpa using ew) fin hs
  · have hj : (i + (its.toArray.size : Int)).toNat = j := by
      rw [seqIndex_neg (by omega) h4] at h1
      rw [List.size_toArray, ← hl]
      exact Option.some.inj h1
    exact subscriptTail_builtinR (x := w) pl.isList.typeIs slot_list_getitem.lookup
      (wpAny_getItem_list_neg (Q := fun r s' => r = w ∧ EP X pins σ Q r s') pl.isList (by omega) (by rw [List.size_toArray] <;> omega) (by omega) (by rw [hj]; simpa using ew) ⟨rfl, fin⟩) hs
theorem ix_tup : IxR X (rIxT X.K) := by
  intro value slice pins s σ H x y v u Q I rx ry h hs
  obtain ⟨p, xs, i, z, rfl, rfl, hq, he, q⟩ := h
  cases rx
  obtain ⟨t, rfl⟩ := ry
  obtain ⟨its, r, pl, hz⟩ := I.tuple hq
  obtain ⟨j, h1, h2, h3, h4, h5⟩ := atI_get he
  obtain ⟨w, ew, rw'⟩ := r.get h2
  have hl := r.length
  have hn := line63
  have fin : EP X pins σ Q w s := ⟨z, H, I, rw', q⟩
  exact subscriptTail_builtinR (x := w) pl.typeIs slot_tuple_getitem.lookup
    (getItem_tuple (j := j) (Q := fun r s' => r = w ∧ EP X pins σ Q r s') pl (by omega) (by omega) (by rw [List.size_toArray, ← hl]; exact h1) (by simpa using ew) ⟨rfl, fin⟩) hs
theorem ix_str : IxR X rIxS := by
  intro value slice pins s σ H x y v u Q I rx ry h hs
  obtain ⟨z, i, c, rfl, rfl, hz, he, q⟩ := h
  obtain ⟨t, rfl⟩ := rx
  obtain ⟨t', rfl⟩ := ry
  obtain ⟨j, h1, h2, h3, h4, h5⟩ := atI_get he
  have hl : z.cps.toList.length = z.length := by simp [Str.length]
  rw [hl] at h1 h4 h5
  have hn := line63
  exact tail_any (typeIs_str s z t) slot_str_getitem.lookup (getItem_str (c := c) (by
    have e1 : decide (i < -(2 ^ 63 : Int)) = false := decide_eq_false (by omega)
    have e2 : decide (i ≥ 2 ^ 63) = false := decide_eq_false (by omega)
    rw [e1, e2, Bool.or_false]) (by rw [h1]; simpa using h2) ⟨.str ⟨#[c]⟩, H, I.tok _, ⟨_, rfl⟩, q⟩) hs
theorem Inv.lst {pins : List (Addr × Obj)} {σ : St} {H : Hp} {s : Shared} {p : Addr} {xs : List V} (I : Inv X pins σ H s) (h : H p = some (.lst xs)) :
    ∃ (its : List Value) (n : Nat), Vals xs its ∧ s.heap.get? p = some { cls := .type "list", data := .seq its.toArray n } ∧ xs.length ≤ sizeLine := by
  obtain ⟨z, its, n, r, e⟩ := I.hok p _ h
  exact ⟨its, n, r, e, z⟩
theorem slice_bounds (lo hi : Option Int) (n : Nat) : (sliceBounds lo hi none n).1 = ((HT.sIx n 0 lo : Nat) : Int) ∧ (sliceBounds lo hi none n).2.1 = ((HT.sIx n n hi : Nat) : Int) ∧ (sliceBounds lo hi none n).2.2 = 1 := by
  refine ⟨?_, ?_, rfl⟩
  · cases lo with
    | none => simp [sliceBounds, HT.sIx]
    | some i =>
      simp only [sliceBounds, HT.sIx, Option.getD_none, show (1 : Int) > 0 by decide, if_true]
      by_cases h : i < 0
      · simp only [h, if_true] <;> omega
      · simp only [h, if_false] <;> omega
  · cases hi with
    | none => simp [sliceBounds, HT.sIx]
    | some i =>
      simp only [sliceBounds, HT.sIx, Option.getD_none, show (1 : Int) > 0 by decide, if_true]
      by_cases h : i < 0
      · simp only [h, if_true] <;> omega
      · simp only [h, if_false] <;> omega
theorem slicePick_cut (its : List Value) (lo hi : Option Int) : slicePick its.toArray lo hi none = ((its.drop (HT.sIx its.length 0 lo)).take (HT.sIx its.length its.length hi - HT.sIx its.length 0 lo)).toArray := by
  obtain ⟨h1, h2, h3⟩ := slice_bounds lo hi its.toArray.size
  unfold slicePick
  rw [h1, h2, h3]
  simp only [sliceRange_one, pick_run, List.size_toArray] <;> rfl
def rSlL (K : PySem.W.Frag) : V → Option Int → Option Int → Hp → VK → Prop := fun x lo hi H Q => ∃ a xs, x = .ref a ∧ SqL K H a xs ∧ ∀ p, H p = none → Q (.ref p) (upd H p (.lst (cutV xs lo hi)))
theorem sl_list : SlR X (rSlL X.K) := by
  intro pins s σ H x v vl vu lo hi sl Q I rx hs pl pu h
  obtain ⟨a, xs, rfl, hx, q⟩ := h
  cases rx
  obtain ⟨its, r, ht, hz⟩ := I.list hx
  have hlen := r.length
  refine ⟨"list", _, slot_list_getitem.lookup, ht.isList.typeIs, ?_⟩
  refine wpAny_getItem_list_slice ht.isList hs pl pu .none (by simp) ?_ (by rw [List.size_toArray] <;> omega)
  rw [slicePick_cut, ← hlen]
  refine ⟨.ref s.heap.objs.size, _, I.laid (t' := s.toks) (o := .lst (cutV xs lo hi)) (fun b ob q => Heap.get?_push_of_some _ q) (Nat.le_refl _) ?_, rfl, q _ (I.hok.fresh (Nat.le_refl _))⟩
  exact ⟨Nat.le_trans (cutV_length xs lo hi) hz, _, 0, (r.drop (HT.sIx xs.length 0 lo)).take (HT.sIx xs.length xs.length hi - HT.sIx xs.length 0 lo), Heap.get?_push_size _ rfl⟩
def flatV : V → Bool
  | .non => true
  | .bl _ => true
  | .int _ => true
  | .str _ => true
  | _ => false
def eqV : V → V → Bool
  | .non, .non => true
  | .bl a, .bl b => a == b
  | .bl a, .int b => (if a then 1 else 0) == b
  | .int a, .bl b => a == (if b then 1 else 0)
  | .int a, .int b => a == b
  | .str a, .str b => a == b
  | _, _ => false
theorem eqAt_V {A : Around} {s : Shared} {y x : V} {u v : Value} (ry : RelV y u) (rx : RelV x v) (fy : flatV y = true) (fx : flatV x = true) : SeqAt.EqAt A s u v (eqV y x) := by
  cases y with
  | non =>
    cases ry
    cases x with
    | non => cases rx; exact SeqAt.EqAt.same _
    | bl b => cases rx; exact SeqAt.EqAt.none_bool b
    | int b => obtain ⟨t, rfl⟩ := rx; exact SeqAt.EqAt.none_int b t
    | str b => obtain ⟨t, rfl⟩ := rx; exact SeqAt.EqAt.none_str b t
    | _ => exact absurd (show false = true from fx) Bool.false_ne_true
  | bl a =>
    cases ry
    cases x with
    | non => cases rx; exact SeqAt.EqAt.bool_none a
    | bl b => cases rx; exact SeqAt.EqAt.bool_bool a b
    | int b => obtain ⟨t, rfl⟩ := rx; exact SeqAt.EqAt.bool_int a b t
    | str b => obtain ⟨t, rfl⟩ := rx; exact SeqAt.EqAt.bool_str a b t
    | _ => exact absurd (show false = true from fx) Bool.false_ne_true
  | int a =>
    obtain ⟨t', rfl⟩ := ry
    cases x with
    | non => cases rx; exact SeqAt.EqAt.int_none a t'
    | bl b => cases rx; exact SeqAt.EqAt.int_bool a t' b
    | int b => obtain ⟨t, rfl⟩ := rx; exact SeqAt.EqAt.int_int a t' b t
    | str b => obtain ⟨t, rfl⟩ := rx; exact SeqAt.EqAt.int_str a t' b t
    | _ => exact absurd (show false = true from fx) Bool.false_ne_true
  | str a =>
    obtain ⟨t', rfl⟩ := ry
    cases x with
    | non => cases rx; exact SeqAt.EqAt.str_none a t'
    | bl b => cases rx; exact SeqAt.EqAt.str_bool a t' b
    | int b => obtain ⟨t, rfl⟩ := rx; exact SeqAt.EqAt.str_int a t' b t
    | str b => obtain ⟨t, rfl⟩ := rx; exact SeqAt.EqAt.str_str a t' b t
    | _ => exact absurd (show false = true from fx) Bool.false_ne_true
  | _ => exact absurd (show false = true from fy) Bool.false_ne_true
def eqU (x : V) (u : Value) : Bool := match u with
  | .none => eqV .non x
  | .bool b => eqV (.bl b) x
  | .int i _ => eqV (.int i) x
  | .str z _ => eqV (.str z) x
  | _ => false
theorem eqU_of {x y : V} {u : Value} (r : RelV y u) (f : flatV y = true) : eqU x u = eqV y x := by
  cases y with
  | non => cases r; rfl
  | bl b => cases r; rfl
  | int i => obtain ⟨t, rfl⟩ := r; rfl
  | str z => obtain ⟨t, rfl⟩ := r; rfl
  | _ => exact absurd (show false = true from f) Bool.false_ne_true
theorem any_eqU {x : V} : ∀ {xs : List V} {us : List Value}, Vals xs us → xs.all flatV = true → us.any (eqU x) = xs.any fun y => eqV y x
  | _, _, .nil, _ => rfl
  | y :: xs, u :: us, .cons r t, f => by
    rw [List.all_cons, Bool.and_eq_true] at f
    rw [List.any_cons, List.any_cons, eqU_of r f.1, any_eqU t f.2]
theorem mem_eqAt {A : Around} {s : Shared} {x : V} {v : Value} (rx : RelV x v) (fx : flatV x = true) : ∀ {xs : List V} {us : List Value}, Vals xs us → xs.all flatV = true → ∀ u ∈ us, SeqAt.EqAt A s u v (eqU x u)
  | _, _, .nil, _ => fun u hu => by cases hu
  | y :: xs, u :: us, .cons r t, f => fun u' hu => by
    rw [List.all_cons, Bool.and_eq_true] at f
    rcases List.mem_cons.mp hu with rfl | hu
    · rw [eqU_of r f.1]; exact eqAt_V r rx f.1 fx
    · exact mem_eqAt rx fx t f.2 u' hu
def inV (x : V) (xs : List V) : Bool := xs.any fun y => eqV y x
def rIn (K : PySem.W.Frag) (neg : Bool) : R2 := fun x y H Q => ∃ p xs, y = .ref p ∧ (SqL K H p xs ∨ SqT K H p xs) ∧ flatV x = true ∧ xs.all flatV = true ∧ Q (.bl (if neg then !inV x xs else inV x xs)) H
theorem op_in_seq : OpR X (compareOp .In) (rIn X.K false) := by
  intro pins s σ H x y v u Q I rx ry h
  obtain ⟨p, xs, rfl, hq, fx, fs, q⟩ := h
  cases ry
  rcases hq with hq | hq
  · obtain ⟨its, r, pl, hz⟩ := I.list hq
    refine SeqAt.in_listAt (eqU x) pl.isList (fun w hw => mem_eqAt rx fx r fs w (by simpa using hw)) ⟨.bl _, H, I, rfl, ?_⟩
    rw [show its.toArray.any (eqU x) = its.any (eqU x) by simp, any_eqU r fs]
    exact q
  · obtain ⟨its, r, pl, hz⟩ := I.tuple hq
    refine SeqAt.in_tupleAt (eqU x) pl (fun w hw => mem_eqAt rx fx r fs w (by simpa using hw)) ⟨.bl _, H, I, rfl, ?_⟩
    rw [show its.toArray.any (eqU x) = its.any (eqU x) by simp, any_eqU r fs]
    exact q
theorem call_len_seq : CallR X (.builtin "len") (fun xs H Q => ∃ p ys, xs = [.ref p] ∧ (SqL X.K H p ys ∨ SqT X.K H p ys) ∧ Q (.int ys.length) H) := by
  intro pins s σ H xs us Q I r h
  obtain ⟨p, ys, rfl, hq, q⟩ := h
  obtain ⟨u, rfl, rx⟩ := vals1 r
  cases rx
  have hn := line63
  rcases hq with hq | hq
  · obtain ⟨its, r', pl, hz⟩ := I.list hq
    have hlen := r'.length
    exact Calls.call_len_list pl.isList (by simp only [List.size_toArray] <;> omega) ⟨.int ys.length, H, I.tok _, ⟨s.toks + 1, by rw [List.size_toArray, hlen]⟩, q⟩
  · obtain ⟨its, r', pl, hz⟩ := I.tuple hq
    have hlen := r'.length
    exact len_tuple pl (by simp only [List.size_toArray] <;> omega) ⟨.int ys.length, H, I.tok _, ⟨s.toks + 1, by rw [List.size_toArray, hlen]⟩, q⟩
theorem CallR.or {f : Value} {r r' : List V → Hp → VK → Prop} (h : CallR X f r) (h' : CallR X f r') : CallR X f (fun xs H Q => r xs H Q ∨ r' xs H Q) := by
  intro pins s σ H xs us Q I rs q
  rcases q with q | q
  · exact h pins s σ H xs us Q I rs q
  · exact h' pins s σ H xs us Q I rs q
theorem call_tuple_of : CallR X (.type "tuple") (fun xs H Q => ∃ p ys, xs = [.ref p] ∧ ((SqL X.K H p ys ∧ ∀ l, H l = none → Q (.ref l) (upd H l (.tup ys))) ∨ (SqT X.K H p ys ∧ Q (.ref p) H))) := by
  intro pins s σ H xs us Q I r h
  obtain ⟨p, ys, rfl, h⟩ := h
  obtain ⟨u, rfl, rx⟩ := vals1 r
  cases rx
  rcases h with ⟨hq, q⟩ | ⟨hq, q⟩
  · obtain ⟨its, r', pl, hz⟩ := I.list hq
    have hlen := r'.length
    refine call_tuple_list pl.isList (fun h' kp => ?_) (by simp only [List.size_toArray] <;> omega)
    have I1 : Inv X pins σ H { s with heap := h' } := I.kept (t' := s.toks) kp
    have I2 : Inv X pins σ (upd H h'.objs.size (.tup ys)) { s with heap := h'.push { cls := .type "tuple", data := .seq its.toArray } } :=
      I1.laid (t' := s.toks) (fun b o e => Heap.get?_push_of_some _ e) (Nat.le_refl _) (show ObjOk X.prog X.w _ _ _ (.tup ys) from ⟨hz, its, r', IsTp.new _ _⟩)
    exact ⟨.ref h'.objs.size, _, I2, rfl, q _ (I1.hok.fresh (Nat.le_refl _))⟩
  · obtain ⟨its, r', pl, hz⟩ := I.tuple hq
    exact call_tuple_same pl ⟨.ref p, H, I, rfl, q⟩
def tyV (K : PySem.W.Frag) (T : String) (x : V) (H : Hp) : Prop := match x with
  | .str _ => T = "str"
  | .int _ => T = "int"
  | .ref p => (T = "list" ∧ ∃ xs, SqL K H p xs) ∨ (T = "tuple" ∧ ∃ o, K.lookup p = some o ∧ o.cls = .type "tuple" ∧ o.dict = none) ∨
      (T = "dict" ∧ ((∃ kvs, H p = some (.dK kvs)) ∨ ∃ kvs, H p = some (.dT kvs))) ∨ (T = "set" ∧ ∃ S n, H p = some (.set S n))
  | _ => False
theorem tyV_is {pins : List (Addr × Obj)} {σ : St} {H : Hp} {s : Shared} {T : String} {x : V} {v : Value} (I : Inv X pins σ H s) (r : RelV x v) (ty : tyV X.K T x H) :
    s.TypeIs v T ∧ ∀ a, v = .ref a → ∃ ob, s.heap.get? a = some ob ∧ ob.dict = none := by
  cases x with
  | str z =>
    obtain ⟨t, rfl⟩ := r
    cases (show T = "str" from ty)
    exact ⟨typeIs_str s z t, fun _ e => nomatch e⟩
  | int i =>
    obtain ⟨t, rfl⟩ := r
    cases (show T = "int" from ty)
    exact ⟨typeIs_int s i t, fun _ e => nomatch e⟩
  | ref p =>
    cases r
    rcases ty with ⟨rfl, xs, hq⟩ | ⟨rfl, o, hk, hc, hd⟩ | ⟨rfl, hk⟩ | ⟨rfl, S, n, hk⟩
    · obtain ⟨its, _, pl, _⟩ := I.list hq
      refine ⟨pl.isList.typeIs, fun a e => ?_⟩
      cases e
      obtain ⟨o, n, e, c, hd, _⟩ := pl
      exact ⟨o, e, hd⟩
    · refine ⟨⟨o, I.kIn p o hk, hc⟩, fun a e => ?_⟩
      cases e
      exact ⟨o, I.kIn _ o hk, hd⟩
    · have z : ∃ o, s.heap.get? p = some o ∧ o.ExactDict := by
        rcases hk with ⟨kvs, hk⟩ | ⟨kvs, hk⟩
        · obtain ⟨_, _, _, _, o, _, _, e, ex, _⟩ := I.hok p _ hk
          exact ⟨o, e, ex⟩
        · obtain ⟨_, _, _, _, o, _, _, e, ex, _⟩ := I.hok p _ hk
          exact ⟨o, e, ex⟩
      obtain ⟨o, e, ex⟩ := z
      refine ⟨⟨o, e, ex.1⟩, fun a e2 => ?_⟩
      cases e2
      exact ⟨o, e, ex.2.1⟩
    · obtain ⟨o, _, _, _, e, ex, _⟩ := I.hok p _ hk
      refine ⟨⟨o, e, ex.1⟩, fun a e2 => ?_⟩
      cases e2
      exact ⟨o, e, ex.2.1⟩
  | _ => exact False.elim ty
def tBM (K : PySem.W.Frag) (T : String) (r : V → List V → Hp → VK → Prop) (to : TE) (t : TA) : TE := fun σ H Q => to σ H fun x H1 => tyV K T x H1 ∧ t σ H1 fun xs H2 => r x xs H2 Q
variable {o e : Expr} {es : List Expr} {to : TE} {t : TA} {name : Str} {apos cpos : Pos} {T id : String} {r : V → List V → Hp → VK → Prop}
theorem pe_bm (pa : PlainAttrs T) (slot : Slot T name id) (hty : typeOf (.builtin id) = pure (.type "method_descriptor")) (hm : MtR X id r) (ho : PE X o to) (ha : PA X (e :: es) t)
    (hbase : attributeBase o name X.env (eval o X.env) = eval o X.env := by rfl)
    (hfew : ((backTo cpos (starEach (e :: es) X.env)).all (fun x => !x.1) && (backToKw cpos (keywordEach [] X.env)).all (fun x => x.1.isSome)
      && decide ((e :: es).length + ([] : List Keyword).length + (if ([] : List Keyword).isEmpty then 0 else 1) < 30)) = true := by rfl)
    (hline : (apos.endLine == cpos.line) = true := by rfl) (hs : starEach (e :: es) X.env = (false, eval e X.env) :: starEach es X.env := by rfl) (hplain : (backTo cpos (starEach es X.env)).any (·.1) = false := by rfl) :
    PE X (.Call (.Attribute o name apos) (e :: es) [] cpos) (tBM X.K T r to t) := by
  intro pins s σ H Q I h
  refine wpAny_Call_method_late hbase hfew hline rfl (thn (ho pins s σ H _ I h) fun v s1 ⟨x, H1, I1, r1, ty, q1⟩ => ?_)
  obtain ⟨h1, h2⟩ := tyV_is I1 r1 ty
  refine ⟨T, id, pa, slot, hty, h1, h2, ?_⟩
  have hA := ha cpos pins s1 σ H1 _ I1 q1
  rw [hs] at hA ⊢
  refine Calls.callWith_builtin (by show (false || (backTo cpos (starEach es X.env)).any (·.1)) = false; rw [hplain] <;> rfl) (Calls.evalArgs_plain ?_)
  exact thn hA fun us s2 ⟨vs, H2, I2, r2, q2⟩ => hm pins s2 σ H2 x vs v us Q I2 r1 r2 q2
end
end L2
namespace L2
open PySem PySem.Spec PyProof.Rows DD
def MtM (X : Cx) (id : String) (r : V → List V → Hp → VK → Prop) : Prop :=
  ∀ (pins : List (Addr × Obj)) (s : Shared) (σ : St) (H : Hp) (x : V) (xs : List V) (v : Value) (us : List Value) (Q : VK), Inv X pins σ H s → RelV x v → Vals xs us → r x xs H Q →
    wpAny (model X.prog X.w) X.A (call (.builtin id) (v :: us)) (EP X pins σ Q) X.xe s
theorem Vals.one {x : V} {us : List Value} (h : Vals [x] us) : ∃ u, us = [u] ∧ RelV x u := by
  cases h with
  | cons r t =>
    cases t
    exact ⟨_, rfl, r⟩
theorem Vals.two {x y : V} {us : List Value} (h : Vals [x, y] us) : ∃ u v, us = [u, v] ∧ RelV x u ∧ RelV y v := by
  cases h with
  | cons r t =>
    cases t with
    | cons q t =>
      cases t
      exact ⟨_, _, rfl, r, q⟩
theorem Vals.zero : ∀ {us : List Value}, Vals [] us → us = []
  | _, .nil => rfl
section
variable {X : Cx} {pins : List (Addr × Obj)} {σ : St} {H : Hp} {s : Shared} {l b : Addr} {xs ys zs : List V}
theorem Inv.lset {its its' : List Value} {n : Nat} {f : Array Value → Array Value} {t' : Nat} (I : Inv X pins σ H s) (hH : H l = some (.lst xs))
    (e : s.heap.get? l = some { cls := .type "list", data := .seq its.toArray n }) (hf : f its.toArray = its'.toArray) (hv : Vals ys its') (hz : ys.length ≤ sizeLine) :
    Inv X pins σ (upd H l (.lst ys)) { s with heap := s.heap.update l (Obj.mapSeq f), toks := t' } := by
  have q := PySem.IsL.update e f
  rw [hf] at q
  refine I.write (x := l) (e := l) (by rw [hH]; exact trivial) (.inl rfl) (fun b' u hb hu => (Heap.get?_update_other s.heap (Obj.mapSeq f) (Ne.symm hb)).trans hu) ⟨_, q⟩ ?_
  exact ⟨hz, its', _, hv, q⟩
theorem Inv.lnew {its : List Value} {t' : Nat} (I : Inv X pins σ H s) (hv : Vals ys its) (hz : ys.length ≤ sizeLine) :
    Inv X pins σ (upd H s.heap.objs.size (.lst ys)) { s with heap := s.heap.push { cls := .type "list", data := .seq its.toArray }, toks := t' } :=
  I.laid (fun _ _ q => Heap.get?_push_of_some _ q) (Nat.le_refl _) ⟨hz, its, 0, hv, Heap.get?_push_size _ rfl⟩
theorem Inv.fresh (I : Inv X pins σ H s) : H s.heap.objs.size = none := I.hok.fresh (Nat.le_refl _)
theorem Inv.lstM (I : Inv X pins σ H s) (hH : H l = some (.lst xs)) : xs.length ≤ sizeLine ∧ ∃ (its : List Value) (n : Nat), Vals xs its ∧ xs.length = its.length ∧ s.heap.get? l = some { cls := .type "list", data := .seq its.toArray n } := by
  obtain ⟨z, its, n, r, e⟩ := I.hok l _ hH
  exact ⟨z, its, n, r, r.length, e⟩
end
section
variable {X : Cx}
inductive IAp (x : V) (vs : List V) (H : Hp) (Q : VK) : Prop
  | mk (l : Addr) (xs : List V) (y : V) (e1 : x = .ref l) (e2 : vs = [y]) (h : H l = some (.lst xs)) (z : xs.length < sizeLine) (q : Q .non (upd H l (.lst (xs ++ [y])))) : IAp x vs H Q
def rAppend : V → List V → Hp → VK → Prop := fun x vs H Q => IAp x vs H Q
theorem mt_append : MtM X "list.append" rAppend := by
  intro pins s σ H x vs v us Q I rx rv h
  obtain ⟨l, xs, y, rfl, rfl, hH, hz, q⟩ := h
  cases rx
  obtain ⟨u, rfl, ru⟩ := rv.one
  obtain ⟨z, its, n, r, hl, e⟩ := I.lstM hH
  refine call_meets F.slot_list_append ⟨_, e, rfl⟩ F.entry_list_append (F.args_list_append_2 _ _) (PySem.list_append l its.toArray n u (by rw [List.size_toArray]; omega)) ⟨e, ?_⟩
  refine ⟨.non, _, I.lset (its' := its ++ [u]) hH e (by simp) (r.append (.cons ru .nil)) ?_, rfl, q⟩
  rw [List.length_append, List.length_singleton]
  omega
def rCat : R2 := fun x y H Q => ∃ l b xs zs, x = .ref l ∧ y = .ref b ∧ H l = some (.lst xs) ∧ H b = some (.lst zs) ∧ xs.length + zs.length ≤ sizeLine ∧ ∀ p, H p = none → Q (.ref p) (upd H p (.lst (xs ++ zs)))
theorem op_cat : OpR X (binaryOp .Add) rCat := by
  intro pins s σ H x y v u Q I rx ry h
  obtain ⟨l, b, xs, zs, rfl, rfl, hH, hB, hz, q⟩ := h
  cases rx
  cases ry
  obtain ⟨z, its, n, r, hl, e⟩ := I.lstM hH
  obtain ⟨z2, its2, n2, r2, hl2, e2⟩ := I.lstM hB
  refine PySem.P.add_list e e2 ?_ (by rw [List.size_toArray, List.size_toArray]; omega)
  have ea : its.toArray ++ its2.toArray = (its ++ its2).toArray := by simp
  rw [ea]
  exact ⟨.ref _, _, I.lnew (t' := s.toks) (r.append r2) (by rw [List.length_append]; omega), rfl, q _ I.fresh⟩
end
section
variable {prog : Program} {w : World} {A : Around} {E : Value → Shared → Prop} {s : Shared}
end
section
variable {X : Cx}
end
end L2
namespace L2
open PySem PySem.Spec PyProof.Rows DD
section
variable {κ : Type} [DecidableEq κ]
def valV (kvs : List (κ × V)) (k : κ) : Option V := (kvs.find? fun kv => decide (kv.1 = k)).map (·.2)
def putK (kvs : List (κ × V)) (k : κ) (v : V) : List (κ × V) :=
  if (kvs.any fun kv => decide (kv.1 = k)) = true then kvs.map (fun kv => if kv.1 = k then (kv.1, v) else kv) else kvs ++ [(k, v)]
def dropK (kvs : List (κ × V)) (k : κ) : List (κ × V) := kvs.filter fun kv => decide (kv.1 ≠ k)
theorem valV_pos {p : κ × V} {r : List (κ × V)} {k : κ} (e : p.1 = k) : valV (p :: r) k = some p.2 := by simp [valV, List.find?_cons, e]
theorem valV_neg {p : κ × V} {r : List (κ × V)} {k : κ} (e : ¬ p.1 = k) : valV (p :: r) k = valV r k := by simp [valV, List.find?_cons, e]
theorem RelO.isSome_eq {o : Option V} {u : Option Value} (r : RelO o u) : o.isSome = u.isSome := by
  cases o with
  | none => cases u with
    | none => rfl
    | some _ => exact (show False from r).elim
  | some _ => cases u with
    | none => exact (show False from r).elim
    | some _ => rfl
theorem RelO.getD {o : Option V} {u : Option Value} {d : V} {d' : Value} (r : RelO o u) (rd : RelV d d') : RelV (o.getD d) (u.getD d') := by
  cases o with
  | none => cases u with
    | none => exact rd
    | some _ => exact (show False from r).elim
  | some _ => cases u with
    | none => exact (show False from r).elim
    | some _ => exact r
theorem KV.val {kvs : List (κ × V)} {vs : List (κ × Value)} (r : KV kvs vs) (k : κ) : RelO (valV kvs k) (valueAt vs k) := by
  unfold KV at r
  induction r with
  | nil => exact True.intro
  | @cons p q ps qs h t ih =>
    obtain ⟨h1, h2⟩ := h
    by_cases e : p.1 = k
    · have e' : q.1 = k := h1.symm.trans e
      have b : valueAt (q :: qs) k = some q.2 := by simp [valueAt, List.find?_cons, e']
      rw [valV_pos e, b]; exact h2
    · have e' : ¬ q.1 = k := fun z => e (h1.trans z)
      have b : valueAt (q :: qs) k = valueAt qs k := by simp [valueAt, List.find?_cons, e']
      rw [valV_neg e, b]; exact ih
theorem KV.any {kvs : List (κ × V)} {vs : List (κ × Value)} (r : KV kvs vs) (k : κ) : (kvs.any fun kv => decide (kv.1 = k)) = vs.any fun kv => decide (kv.1 = k) := by
  unfold KV at r
  induction r with
  | nil => rfl
  | cons h t ih => rw [List.any_cons, List.any_cons, ih, h.1]
theorem KV.drop {kvs : List (κ × V)} {vs : List (κ × Value)} (r : KV kvs vs) (k : κ) : KV (dropK kvs k) (without vs k) := by
  unfold KV at r ⊢
  unfold dropK without
  induction r with
  | nil => exact .nil
  | @cons p q ps qs h t ih =>
    obtain ⟨h1, h2⟩ := h
    rw [List.filter_cons, List.filter_cons]
    by_cases e : p.1 = k
    · have a : ¬ decide (p.1 ≠ k) = true := by simp [e]
      have b : ¬ decide (q.1 ≠ k) = true := by simp [h1.symm.trans e]
      rw [if_neg a, if_neg b]; exact ih
    · have e' : ¬ q.1 = k := fun z => e (h1.trans z)
      have a : decide (p.1 ≠ k) = true := by simp [e]
      have b : decide (q.1 ≠ k) = true := by simp [e']
      rw [if_pos a, if_pos b]; exact .cons ⟨h1, h2⟩ ih
theorem KV.length {kvs : List (κ × V)} {vs : List (κ × Value)} (r : KV kvs vs) : kvs.length = vs.length := Paired.length r
end
theorem kV_is {P : Program} {w : World} {k : Key} {u : Value} (r : RelV (kV k) u) : (mixKind P w).is k u = true := by
  cases k with
  | inl i => obtain ⟨t, e⟩ := (show ∃ t, u = Value.int i t from r); subst e; exact mixKind_int P w i t
  | inr x => obtain ⟨t, e⟩ := (show ∃ t, u = Value.str x t from r); subst e; exact mixKind_str P w x t
abbrev KT (H : Hp) : List (D × V) → List (D × Addr × Value) → Prop := Paired fun p q => p.1 = q.1 ∧ DKey H p.1 q.2.1 ∧ RelV p.2 q.2.2
theorem KT.val {H : Hp} {kvs : List (D × V)} {xs : List (D × Addr × Value)} (r : KT H kvs xs) (k : D) : RelO (valV kvs k) ((atKey xs k).map (·.2)) := by
  induction r with
  | nil => exact True.intro
  | @cons p q ps qs h t ih =>
    obtain ⟨h1, _, h2⟩ := h
    by_cases e : p.1 = k
    · have e' : q.1 = k := h1.symm.trans e
      have b : atKey (q :: qs) k = some q.2 := by simp [atKey, List.find?_cons, e']
      rw [valV_pos e, b]; exact h2
    · have e' : ¬ q.1 = k := fun z => e (h1.trans z)
      have b : atKey (q :: qs) k = atKey qs k := by simp [atKey, List.find?_cons, e']
      rw [valV_neg e, b]; exact ih
theorem KT.keeps {H H' : Hp} {kvs : List (D × V)} {xs : List (D × Addr × Value)} (r : KT H kvs xs) (ht : ∀ b ys, H b = some (.tup ys) → H' b = some (.tup ys)) : KT H' kvs xs :=
  Paired.mapP r fun _ _ z => ⟨z.1, z.2.1.mono ht, z.2.2⟩
section
variable {P : Program} {w : World} {H : Hp} {h : Heap} {a : Addr}
theorem is_of_n (ok : HOk P w H h) : ∀ (n : Nat) {d : D} {v : V} {u : Value}, sz d ≤ n → DV H d v → RelV v u → Is h d u := by
  intro n
  induction n using Nat.strongRecOn with
  | _ n ih =>
  intro d v u hn z r
  have tup : ∀ ds, d = ofL ds → Is h d u := by
    intro ds e
    subst e
    obtain ⟨a, vs, rfl, t, al⟩ := dv_tup.mp z
    obtain rfl : u = Value.ref a := r
    obtain ⟨_, its, rv, p⟩ := (show ObjOk P w H h a (.tup vs) from ok a _ t)
    refine is_tup.mpr ⟨a, its, rfl, p.tup, ?_⟩
    have go : ∀ (l : List D) (ys : List V) (us : List Value), (∀ y ∈ l, y ∈ ds) → All2 (DV H) l ys → Vals ys us → All2 (Is h) l us := by
      intro l
      induction l with
      | nil => intro ys us _ q q2; cases q; cases q2; exact .nil
      | cons y l ihl =>
        intro ys us hm q q2
        cases q with
        | cons q1 q1' =>
          cases q2 with
          | cons r1 r2 =>
            have := sz_mem (hm y List.mem_cons_self)
            exact .cons (ih (sz y) (by omega) (Nat.le_refl _) q1 r1) (ihl _ _ (fun z hz => hm z (List.mem_cons_of_mem _ hz)) q1' r2)
    exact go ds vs its (fun _ hy => hy) al rv
  cases d with
  | non =>
    obtain rfl : v = .non := (by simpa only [DV] using z)
    exact (by simp only [Is]; exact r)
  | int i =>
    obtain rfl : v = .int i := (by simpa only [DV] using z)
    exact (by simp only [Is]; exact r)
  | str x =>
    obtain rfl : v = .str x := (by simpa only [DV] using z)
    exact (by simp only [Is]; exact r)
  | nil => exact tup [] rfl
  | cons x y =>
    obtain ⟨_, _, _, _, _, _, z1⟩ := (by simpa only [DV] using z)
    obtain ⟨ds, rfl, _⟩ := dvs_iff.mp z1
    exact tup (x :: ds) rfl
theorem DV.is {d : D} {v : V} {u : Value} (z : DV H d v) (ok : HOk P w H h) (r : RelV v u) : Is h d u := is_of_n ok (sz d) (Nat.le_refl _) z r
end
def DGet (H : Hp) (a : Addr) (y : V) (r : Option V) : Prop :=
  (∃ kvs k, Rd H a (.dK kvs) ∧ y = kV k ∧ r = valV kvs k) ∨ ∃ kvs k b, Rd H a (.dT kvs) ∧ y = .ref b ∧ DKey H k b ∧ r = valV kvs k
def DPut (H : Hp) (a : Addr) (y v : V) (H' : Hp) : Prop :=
  (∃ kvs k, H a = some (.dK kvs) ∧ y = kV k ∧ kvs.length < sizeLine ∧ H' = upd H a (.dK (putK kvs k v))) ∨
  ∃ kvs k b, H a = some (.dT kvs) ∧ y = .ref b ∧ DKey H k b ∧ kvs.length < sizeLine ∧ H' = upd H a (.dT (putK kvs k v))
theorem DGet.k {H : Hp} {a : Addr} {kvs : List (Key × V)} {k : Key} (e : H a = some (.dK kvs)) : DGet H a (kV k) (valV kvs k) := .inl ⟨kvs, k, .inl e, rfl, rfl⟩
theorem DGet.t {H : Hp} {a b : Addr} {kvs : List (D × V)} {k : D} (e : H a = some (.dT kvs)) (eb : DKey H k b) : DGet H a (.ref b) (valV kvs k) := .inr ⟨kvs, k, b, .inl e, rfl, eb, rfl⟩
theorem DPut.k {H : Hp} {a : Addr} {kvs : List (Key × V)} {k : Key} {v : V} (e : H a = some (.dK kvs)) (hl : kvs.length < sizeLine) : DPut H a (kV k) v (upd H a (.dK (putK kvs k v))) := .inl ⟨kvs, k, e, rfl, hl, rfl⟩
theorem DPut.t {H : Hp} {a b : Addr} {kvs : List (D × V)} {k : D} {v : V} (e : H a = some (.dT kvs)) (eb : DKey H k b) (hl : kvs.length < sizeLine) :
    DPut H a (.ref b) v (upd H a (.dT (putK kvs k v))) := .inr ⟨kvs, k, b, e, rfl, eb, hl, rfl⟩
section
variable {X : Cx} {pins : List (Addr × Obj)} {σ : St} {H : Hp} {s : Shared} {a : Addr} {y v : V} {u r : Value} {o : Option V} {A : Around} {E : Value → Shared → Prop}
theorem Inv.big (I : Inv X pins σ H s) : sysModules < s.heap.objs.size := by
  have h : mainGlobals < s.heap.objs.size := (I.mod.glob.keeps I.bk).lt
  exact Nat.lt_trans (by decide) h
end
section
variable {X : Cx} {pins : List (Addr × Obj)} {σ : St} {H : Hp} {s : Shared} {a : Addr} {kvs : List (Key × V)} {k : Key} {u : Value} {A : Around} {E : Value → Shared → Prop}
end
def NoSl (i : Expr) : Prop := ∀ ov iv, subscripted i false ov iv = operate [ov, iv] (getItem ov iv)
theorem subD_of {prog : Program} {w : World} {A : Around} {E : Value → Shared → Prop} {s : Shared} {env : Env} {value slice : Expr} {pos : Pos} {T id : String} {Q : Value → Shared → Prop}
    (hl : typeLookup (.type T) "__getitem__" = pure (some (.builtin id))) (hs : NoSl slice)
    (h : wpAny (model prog w) A (eval value env) (fun o s₁ => wpAny (model prog w) A (eval slice env) (fun i s₂ => s₂.TypeIs o T ∧ wpAny (model prog w) A (getItem o i) Q E s₂) E s₁) E s) :
    wpAny (model prog w) A (eval (.Subscript value slice pos) env) Q E s := by
  refine Subscript_ (wpAny_mono h (fun o s₁ h₁ => wpAny_mono h₁ (fun i s₂ h₂ => ?_) fun _ _ x => x) fun _ _ x => x)
  obtain ⟨hT, h₂⟩ := h₂
  unfold subscriptTail
  refine wpAny_bind ?_
  rw [getitemInPython_of_ne hT.not_modules]
  refine wpAny_bind (wpAny_specialOf hT hl ?_)
  have fin : wpAny (model prog w) A (subscripted slice false o i) (fun r s₃ => wpAny (model prog w) A (letTemporaryGo value o r >>= fun _ => pure r) Q E s₃) E s₂ := by
    rw [hs o i]
    exact wpAny_operating (wpAny_mono h₂ (fun r s₃ h₃ => wpAny_bind (wpAny_letTemporaryGo (wpAny_pure h₃))) fun _ _ x => x)
  first
    | exact wpAny_pure (wpAny_bind fin)
    | exact wpAny_bind (wpAny_pure (wpAny_bind fin))
    | exact wpAny_bind fin
section
variable {X : Cx} {o i e value : Expr} {pos pos' tpos : Pos} {td ty tv : TE}
end
section
variable {X : Cx} {pos : Pos}
end
structure M1 (X : Cx) (o : Expr) (m : Str) (apos : Pos) (e : Expr) (cpos : Pos) : Prop where
  base : attributeBase o m X.env (eval o X.env) = eval o X.env
  few : ((backTo cpos (starEach [e] X.env)).all (fun x => !x.1) && (backToKw cpos (keywordEach [] X.env)).all (fun x => x.1.isSome)
    && decide (([e] : List Expr).length + ([] : List Keyword).length + (if ([] : List Keyword).isEmpty then 0 else 1) < 30)) = true
  line : (apos.endLine == cpos.line) = true
  trees : backTo cpos (starEach [e] X.env) = [(false, eval e X.env)]
structure M2 (X : Cx) (o : Expr) (m : Str) (apos : Pos) (e f : Expr) (cpos : Pos) : Prop where
  base : attributeBase o m X.env (eval o X.env) = eval o X.env
  few : ((backTo cpos (starEach [e, f] X.env)).all (fun x => !x.1) && (backToKw cpos (keywordEach [] X.env)).all (fun x => x.1.isSome)
    && decide (([e, f] : List Expr).length + ([] : List Keyword).length + (if ([] : List Keyword).isEmpty then 0 else 1) < 30)) = true
  line : (apos.endLine == cpos.line) = true
  trees : backTo cpos (starEach [e, f] X.env) = [(false, eval e X.env), (false, eval f X.env)]
section
variable {X : Cx} {pins : List (Addr × Obj)} {σ : St} {H : Hp} {s : Shared} {a : Addr} {y d : V} {u r : Value} {o : Option V} {A : Around} {E : Value → Shared → Prop}
end
section
variable {X : Cx} {o e f : Expr} {apos cpos : Pos} {td ty tx : TE}
end
section
variable {X : Cx} {pins : List (Addr × Obj)} {σ : St} {H : Hp} {s : Shared} {a : Addr} {kvs : List (Key × V)} {A : Around} {E : Value → Shared → Prop}
end
section
variable {X : Cx} {pins : List (Addr × Obj)} {σ : St} {H : Hp} {s : Shared} {a : Addr} {y : V} {u : Value} {A : Around} {E : Value → Shared → Prop}
end
end L2
namespace Att
open PySem PySem.W PySem.Calls PyProof.Rows
theorem ints_of_wellAll {P : Params} {h : Heap} : ∀ (ns : List Int) (vs : List Value), WellAll P h vs (ns.map WData.int) → IntsAre vs ns := by
  intro ns
  induction ns with
  | nil =>
    intro vs w
    rw [List.map_nil] at w
    cases w
    exact .nil
  | cons n ns ih =>
    intro vs w
    rw [List.map_cons] at w
    cases w with
    | cons a b =>
      cases a
      exact .cons _ _ (ih _ b)
theorem script_of {l : OpenLaw} {n : Nat} (hn : l.most = some n) {P : Params} {h : Heap} {args : List WData} {vals : List Value}
    (hpre : l.row.toRowW.claim.pre args = true) (hwl : WellAll P h vals args) :
    ∃ a vs ns, vals = [Value.ref a] ∧ args = [WData.list (ns.map WData.int)] ∧ h.get? a = some { cls := .type "list", data := .seq vs.toArray } ∧ IntsAre vs ns ∧ ns.length ≤ n := by
  have hsh : WShape.hasAll [] args [.list .int] = true := (pre_splitW hpre).1
  have hc : l.pre.holds [] { args := args } = true := (pre_splitW hpre).2
  obtain ⟨d, r, rfl, h1, h2⟩ := hasAllW_cons hsh
  obtain rfl := hasAllW_nil h2
  obtain ⟨xs, rfl, h3⟩ := hasW_list h1
  obtain ⟨ns, rfl⟩ := items_int h3
  have hlen : ns.length ≤ n := by
    unfold OpenLaw.pre at hc
    have h4 : (WTm.not (.lt (.lit (.int (n : Int))) (.len (.arg 0)))).holds [] { args := [.list (ns.map .int)] } = true := by
      have h4 := (holds_andW hc).1
      rw [hn] at h4
      exact h4
    have h5 := condW_of h4 (w_not (w_lt w_lit (w_len_list (w_arg rfl))))
    rw [List.length_map] at h5
    refine Nat.le_of_not_lt fun q => ?_
    have q' : (n : Int) < ((ns.length : Nat) : Int) := by omega
    first
      | (rw [decide_eq_true q'] at h5; exact absurd h5 (by decide))
      | (simp at h5; omega)
  cases hwl with
  | cons w1 w2 =>
    cases w2
    cases w1 with
    | list ho hall => exact ⟨_, _, ns, rfl, rfl, ho, ints_of_wellAll ns _ hall, hlen⟩
theorem post_true (l : OpenLaw) (args : List WData) : l.row.toRowW.claim.post args (.bool true) args = true :=
  postW_of (r := l.row.toRowW) (X := (true == true))
    (show WShape.has [] (.bool true) .bool = true by first | rfl | decide | simp [WShape.has, WShape.arms, WShape.armsAll])
    (show (WTm.eq .res (.lit (.bool true))).value [] { args := args, res := some (.bool true), after := args } = some (.bool (true == true)) from w_eq_bool (w_res rfl) w_lit) rfl
section
variable {prog : Program} {w : World} {A : Around} {E : Value → Shared → Prop} {s : Shared} {K : Frag}
end
end Att
namespace L2
open PySem PySem.Spec PyProof.Rows DD
theorem vals_ints : ∀ {vs : List Value} {ns : List Int}, IntsAre vs ns → Vals (ns.map V.int) vs
  | _, _, .nil => .nil
  | _, _, .cons n t h => .cons ⟨t, rfl⟩ (vals_ints h)
def Only (H : Hp) : Prop := ∀ b, H b = none ∨ ∃ o xs, H b = some (.frz o (.lst xs))
theorem law_call {P : Program} {w : World} {K : PySem.W.Frag} {mg mb : Str → Option Value} {CX : CXT} {k : Nat} {fa a : Addr} {fd : FuncData} {x : Str} {sp : Sp} {s₁ : Shared} {vs : List Value} {ns : List Int}
    (KX : K.In s₁.heap) (hns : s₁.heap.Ns mainGlobals mg) (hb : s₁.heap.Ns builtinsNs mb) (hbb : ∀ x : Str, x ≠ "__name__" → mb x = bootBuiltins x) (hlim : s₁.heap.NoLimit) (hg : s₁.gens = #[])
    (ha : s₁.heap.get? a = some { cls := .type "list", data := .seq vs.toArray }) (hi : IntsAre vs ns) (hl : ns.length ≤ sizeLine) (hr : Room k callerA)
    (F : ∀ base : Heap, K.In base → base.Ns mainGlobals mg → FnOk P w K mg base CX k fa fd [x] sp) (hbind : ∀ (s : Shared) (u : Value), BindsTo s fd ⟨[u], []⟩ [(x, u)])
    (hsp : ∀ H : Hp, Only H → SqL K H a (ns.map V.int) → sp [.ref a] H (fun v _ => v = .bl true) fun _ _ _ => False)
    (hCX : ∀ H e s', CX [] H s₁ (fun _ _ _ => False) e s' → False) :
    codeAny (model P w) callerA (.call (.ref fa) ⟨[.ref a], []⟩) (fun r s' => r = .ok (.ret (.bool true)) ∧ OldK s₁.heap s'.heap ∧ s'.os = s₁.os ∧ AllBare s'.gens) s₁ := by
  have rv := vals_ints hi
  have lenV := hi.length
  have core : ∀ H : Hp, Only H → SqL K H a (ns.map V.int) → HOk P w H s₁.heap → (∀ b, H b ≠ none → b = a) → (H a ≠ none → K.lookup a = none) →
      codeAny (model P w) callerA (.call (.ref fa) ⟨[.ref a], []⟩) (fun r s' => r = .ok (.ret (.bool true)) ∧ OldK s₁.heap s'.heap ∧ s'.os = s₁.os ∧ AllBare s'.gens) s₁ := by
    intro H hO hS hok hA hK
    have base_of : ∀ {b : Addr} {o : Obj}, s₁.heap.get? b = some o → H b = none → (hidT s₁.heap H).get? b = some o := fun e n => hidT_get e n
    have noA : ∀ {b : Addr} {o : Obj} {es : Array DictEntry} {ep : Nat}, s₁.heap.get? b = some o → o.data = .dict es ep → H b = none := fun {b o es ep} e d => by
      cases q : H b with
      | none => rfl
      | some u =>
        have e' : b = a := hA b (by rw [q]; simp)
        subst e'
        rw [ha] at e; cases e
        have d' : Data.seq vs.toArray _ = Data.dict es ep := d
        cases d'
    have nsK : ∀ {b : Addr} {m : Str → Option Value}, s₁.heap.Ns b m → (hidT s₁.heap H).Ns b m := fun {b m} ⟨o, es, ep, e, d, r⟩ => ⟨o, es, ep, base_of e (noA e d), d, r⟩
    have hKb : K.In (hidT s₁.heap H) := fun b o e => base_of (KX b o e) (by
      cases q : H b with
      | none => rfl
      | some u =>
        have e' : b = a := hA b (by rw [q]; simp)
        subst e'
        rw [hK (by rw [q]; simp)] at e; cases e)
    have hM : Mod K mg (hidT s₁.heap H) := ⟨hKb, nsK hns, ⟨mb, nsK hb, hbb⟩, let ⟨mc, h1, h2⟩ := hlim; ⟨mc, nsK h1, h2⟩⟩
    have e0 : Env0 P w K mg (hidT s₁.heap H) callerA [] s₁ H := ⟨rfl, hM, fun b o e => of_hidT e, Nat.le_of_eq (hidT_size _ _), trivial, fun b hb => absurd (show b ∈ ([] : List Addr) from hb) (by simp), hok, .of_eq hg⟩
    refine codeAny_mono ((F _ hKb (nsK hns)).run callerA [] s₁ H ⟨[.ref a], []⟩ [.ref a] [.ref a] _ _ hr e0 (hbind s₁ (.ref a)) (.cons rfl .nil) (hsp H hO hS)) fun r s' h => ?_
    cases r with
    | error e => exact (hCX H e s' h).elim
    | ok fl =>
      cases fl with
      | next => exact False.elim h
      | brk => exact False.elim h
      | cont => exact False.elim h
      | ret u =>
        obtain ⟨v, H', os, bare, un, hok', r', q⟩ := h
        have q' : v = .bl true := q
        subst q'
        obtain rfl : u = Value.bool true := r'
        refine ⟨rfl, OldK.of_keep fun b o e => ?_, os, bare⟩
        cases q : H b with
        | none => exact un.keep b o e q (by intro z; exact absurd (show b ∈ ([] : List Addr) from z) (by simp)) (by simp)
        | some u =>
          rcases hO b with z | ⟨ob, xs, z⟩
          · rw [q] at z; cases z
          · have z2 := un.frzs b ob _ z
            obtain ⟨e1, _⟩ := hok b _ z
            obtain ⟨e2, _⟩ := hok' b _ z2
            rw [e] at e1; cases e1
            exact e2
  cases hk : K.lookup a with
  | some o =>
    have e := KX a o hk
    rw [ha] at e
    cases e
    refine core (fun _ => none) (fun _ => .inl rfl) (.inr ⟨_, vs.toArray, _, hk, rfl, rfl, rfl, by rw [List.size_toArray, lenV]; exact hl, by simpa using rv⟩) (fun b u z => by have z' : (none : Option HO) = some u := z; cases z') (fun b z => absurd rfl z) fun z => absurd rfl z
  | none =>
    refine core (fun b => if b = a then some (.frz { cls := .type "list", data := .seq vs.toArray } (.lst (ns.map V.int))) else none) (fun b => ?_) (.inl (.inr ⟨{ cls := .type "list", data := .seq vs.toArray }, if_pos rfl⟩)) (fun b u z => ?_) (fun b z => ?_) fun _ => hk
    · by_cases hb : b = a
      · exact .inr ⟨_, _, if_pos hb⟩
      · exact .inl (if_neg hb)
    · by_cases hb : b = a
      · have z' := (if_pos hb).symm.trans z
        cases z'
        subst hb
        exact ⟨ha, by rw [List.length_map]; exact hl, vs, _, rv, ha⟩
      · have z' := (if_neg hb).symm.trans z
        cases z'
    · by_cases hb : b = a
      · exact hb
      · exact absurd (if_neg hb) z
end L2
namespace L2
open PySem PySem.Spec PyProof.Rows DD
end L2
namespace L2
open PySem PySem.Spec PyProof.Rows DD
def defArgs (s : Stmt) : Arguments := match s with
  | .FunctionDef _ a _ _ _ _ _ _ _ _ => a
  | _ => { posonlyargs := [], args := [], vararg := none, kwonlyargs := [], kw_defaults := [], kwarg := none, defaults := [] }
def defBody (s : Stmt) : List Stmt := match s with
  | .FunctionDef _ _ b _ _ _ _ _ _ _ => b
  | _ => []
def defScope (s : Stmt) : Scope := match s with
  | .FunctionDef _ _ _ _ _ _ sc _ _ _ => sc
  | _ => { kind := .function, names := [], isGenerator := false, isCoroutine := false }
abbrev CX0 : CXT := fun _ _ _ _ _ _ => False
abbrev E0 : XK := fun _ _ _ => False
theorem pass0 {X : Cx} : Passes CX0 X E0 := fun _ _ _ _ _ _ _ h => h.elim
structure Fun (K : PySem.W.Frag) (x qual : Str) (st : Stmt) (f : Addr) (fd : FuncData) : Prop where
  ex : ∃ (oc : Value) (od : Option Addr) (kV doc pm : Value) (an : Option Addr) (cdv ct : Value) (osl : Array (Option Value)),
    fd = PySem.W.fnOf x qual (defArgs st) (defBody st) (defScope st) .none kV doc pm an cdv ct ∧ K.lookup f = some ⟨oc, od, .func fd, osl⟩ ∧ PySem.W.codeIn K cdv qual = true
  kp : PySem.W.keepIn K (.ref f) = true
section
variable {P : Program} {w : World} {K : PySem.W.Frag} {mg : Str → Option Value} {base : Heap}
theorem Fun.ok {x qual : Str} {st : Stmt} {f : Addr} {fd : FuncData} {N ps : List Str} {k : Nat} {sp : Sp} (F : Fun K x qual st f fd) (S : FnScope N ps (defScope st)) (len : ∀ vs H Q E, sp vs H Q E → vs.length = ps.length)
    (hbody : ∀ (cdv : Value) (A : Around) (outer : List Env) (s : Shared) (H : Hp) (vs : List V) (Q : VK) (E : XK), Room k (A.deeper (envOfC qual (defScope st) s.heap.objs.size f cdv)) → sp vs H Q E →
      ∃ t, PSs (cxOf CX0 P w K mg base N qual (defScope st) f cdv A outer s H E).nox (defBody st) t ∧ t { nx := fun _ H' => Q .non H', rt := Q } (start N vs) H) : FnOk P w K mg base CX0 (k + 1) f fd ps sp := by
  obtain ⟨oc, od, kV, doc, pm, an, cdv, ct, osl, rfl, lk, hcd⟩ := F.ex
  refine fn_of lk hcd S len fun A outer s H vs Q E hr hsp => ?_
  obtain ⟨t, h, q⟩ := hbody cdv A outer s H vs Q E hr hsp
  exact ⟨t, h.nox, q⟩
theorem Fun.binds {x qual : Str} {st : Stmt} {f : Addr} {fd : FuncData} {ps : List Str} (F : Fun K x qual st f fd)
    (h : ∀ (kV doc pm : Value) (an : Option Addr) (cdv ct : Value) (us : List Value), us.length = ps.length → bindArgs (PySem.W.fnOf x qual (defArgs st) (defBody st) (defScope st) .none kV doc pm an cdv ct) ⟨us, []⟩ = pure (ps.zip us)) : Binds K fd ps [] := by
  obtain ⟨oc, od, kV, doc, pm, an, cdv, ct, osl, rfl, lk, hcd⟩ := F.ex
  exact .all (h kV doc pm an cdv ct)
theorem fun_mk {x qual : Str} {st : Stmt} {f : Addr} {oc : Value} {od an : Option Addr} {osl : Array (Option Value)} {kV doc pm cdv ct : Value} (l : K.lookup f = some ⟨oc, od, .func (PySem.W.fnOf x qual (defArgs st) (defBody st) (defScope st) .none kV doc pm an cdv ct), osl⟩)
    (c : PySem.W.codeIn K cdv qual = true) (k : PySem.W.keepIn K (.ref f) = true) : Fun K x qual st f (PySem.W.fnOf x qual (defArgs st) (defBody st) (defScope st) .none kV doc pm an cdv ct) := ⟨⟨oc, od, kV, doc, pm, an, cdv, ct, osl, rfl, l, c⟩, k⟩
end
theorem small1000 {n : Nat} (h : n ≤ 1000) : n < sizeLine := Nat.lt_of_le_of_lt h (by decide)
section
variable {X : Cx}
theorem pv (i : Nat) {x : Str} {pos : Pos} (hN : X.N[i]? = some x := by rfl) (hv : Vis X.env.scope x := by first | exact Or.inl rfl | exact Or.inr (Or.inl rfl) | exact Or.inr (Or.inr rfl)) (hd : (x == ("__debug__" : Str)) = false := by decide)
    (hcd : (x == ("__classdict__" : Str)) = false := by decide) : PE X (.Name x pos) (tVar i) := pe_var hN hv hd hcd
end
theorem iteF {A B : Prop} (h : B) : if false = true then A else B := by
  rw [if_neg Bool.false_ne_true]
  exact h
theorem ite2 {c A B : Prop} [Decidable c] (h1 : c → A) (h2 : ¬ c → B) : if c then A else B := by
  by_cases h : c
  · rw [if_pos h]
    exact h1 h
  · rw [if_neg h]
    exact h2 h
def Same (H H' : Hp) : Prop := ∀ b o, H b = some o → H' b = some o
theorem Same.refl (H : Hp) : Same H H := fun _ _ h => h
theorem Same.trans {H H1 H2 : Hp} (a : Same H H1) (b : Same H1 H2) : Same H H2 := fun c o h => b c o (a c o h)
theorem Same.free {H H' : Hp} (e : Same H H') {l : Addr} (h : H' l = Option.none) : H l = Option.none := by
  cases q : H l with
  | none => rfl
  | some o =>
    rw [e l o q] at h
    cases h
theorem Same.seq {K : PySem.W.Frag} {H H' : Hp} {a : Addr} {xs : List V} (e : Same H H') (h : SqL K H a xs) : SqL K H' a xs := by
  rcases h with (h | ⟨o, h⟩) | h
  · exact .inl (.inl (e _ _ h))
  · exact .inl (.inr ⟨o, e _ _ h⟩)
  · exact .inr h
section
variable {X : Cx}
end
section
variable {κ : Type} [DecidableEq κ]
end
end L2
namespace L2
open PySem PySem.Spec PyProof.Rows DD
def cslots (cm : List (Option Nat)) (σ : St) : St := cm.map fun o => match o with | none => none | some j => (σ[j]?).join
theorem clos_go {env : Env} : ∀ (names : List (Str × NameKind)) (acc : List (Str × Addr)), (∀ x ∈ names, x.2 = .free → ∃ c, env.cells.lookup x.1 = some c) → (∀ n c, acc.lookup n = some c → env.cells.lookup n = some c) →
    ∃ cl, (forIn names acc (fun (x : Str × NameKind) (cs : List (Str × Addr)) => if (x.2 == NameKind.free) = true then (do let a ← cellOf env x.1; pure (ForInStep.yield ((x.1, a) :: cs))) else (pure (ForInStep.yield cs) : Sem _))) = (pure cl : Sem _) ∧
      (∀ n c, cl.lookup n = some c → env.cells.lookup n = some c) ∧ (∀ n c, acc.lookup n = some c → ∃ c', cl.lookup n = some c') ∧ (∀ x ∈ names, x.2 = .free → ∃ c, cl.lookup x.1 = some c)
  | [], acc, _, h2 => ⟨acc, rfl, h2, fun n c e => ⟨c, e⟩, fun x hx => absurd hx (by simp)⟩
  | (n, k) :: r, acc, h1, h2 => by
    rw [List.forIn_cons]
    by_cases hk : k = NameKind.free
    · subst hk
      obtain ⟨c, hc⟩ := h1 (n, .free) List.mem_cons_self rfl
      have hcell : cellOf env n = pure c := by unfold cellOf; rw [hc]
      obtain ⟨cl, e, q1, q2, q3⟩ := clos_go r ((n, c) :: acc) (fun x hx => h1 x (List.mem_cons_of_mem _ hx)) (fun m d hm => by
        rw [List.lookup_cons] at hm
        cases z : m == n with
        | true => rw [z] at hm; cases hm; rw [eq_of_beq z]; exact hc
        | false => rw [z] at hm; exact h2 m d hm)
      refine ⟨cl, ?_, q1, fun m d hm => ?_, fun x hx hf => ?_⟩
      · rw [← e]
        simp only [beq_self_eq_true, if_true, hcell]
        rfl
      · cases z : m == n with
        | true => exact q2 m c (by rw [List.lookup_cons, z])
        | false => exact q2 m d (by rw [List.lookup_cons, z]; exact hm)
      · rcases List.mem_cons.mp hx with rfl | hx
        · exact q2 n c (by rw [List.lookup_cons, beq_self_eq_true])
        · exact q3 x hx hf
    · obtain ⟨cl, e, q1, q2, q3⟩ := clos_go r acc (fun x hx => h1 x (List.mem_cons_of_mem _ hx)) h2
      refine ⟨cl, ?_, q1, q2, fun x hx hf => ?_⟩
      · rw [← e]
        have hb : (k == NameKind.free) = false := by simpa using hk
        rw [if_neg (show ¬ (k == NameKind.free) = true by rw [hb]; exact Bool.false_ne_true)]
        rfl
      · rcases List.mem_cons.mp hx with rfl | hx
        · exact absurd hf hk
        · exact q3 x hx hf
theorem clos_ok {env : Env} {scope : Scope} (h1 : ∀ x ∈ scope.names, x.2 = .free → ∃ c, env.cells.lookup x.1 = some c) :
    ∃ cl, closureFor scope env = pure cl ∧ (∀ n c, cl.lookup n = some c → env.cells.lookup n = some c) ∧ (∀ x ∈ scope.names, x.2 = .free → ∃ c, cl.lookup x.1 = some c) := by
  obtain ⟨cl, e, q1, _, q3⟩ := clos_go scope.names [] h1 (fun n c e => by simp at e)
  refine ⟨cl, ?_, q1, q3⟩
  unfold closureFor
  show (forIn scope.names [] _ >>= fun r => pure r) = _
  rw [show (forIn scope.names ([] : List (Str × Addr)) (fun (x : Str × NameKind) (cs : List (Str × Addr)) => if (x.2 == NameKind.free) = true then (do let a ← cellOf env x.1; pure (ForInStep.yield ((x.1, a) :: cs))) else (pure (ForInStep.yield cs) : Sem _))) = pure cl from e]
  rfl
def compOk (fsc sc : Scope) (N N' : List Str) (cm : List (Option Nat)) : Bool :=
  sc.kind == .function && sc.names.all (fun y => y.2 != .cell) && sc.names.all (fun y => y.2 != .free || fsc.names.lookup y.1 == some .cell || fsc.names.lookup y.1 == some .free) &&
  sc.names.all (fun y => y.2 != .local || sc.names.lookup y.1 == some .local) && cm.length == N'.length &&
  (cm.zip N').all (fun p => match p.1 with | none => true | some j => N[j]? == some p.2 && (fsc.names.lookup p.2 == some .cell || fsc.names.lookup p.2 == some .free) && sc.names.lookup p.2 == some .free)
def cxComp (X : Cx) (N : List Str) (scope : Scope) (cl : List (Str × Addr)) (C : Addr) (s : Shared) (H : Hp) (fp : List Addr) (pins : List (Addr × Obj)) : Cx where
  prog := X.prog
  w := X.w
  K := X.K
  mg := X.mg
  base := X.base
  A := X.A
  N := N
  s₀ := s
  H₀ := H
  env := compEnvC scope cl C X.env
  outer := X.stack
  stack := X.stack
  ex := fp
  fn := fun _ => false
  calm := X.calm
  pn := X.pn ++ pins
  xe := fun _ _ => False
def reK (env : Env) (p : Str × NameKind) : Str × NameKind := if (p.2 == NameKind.free && env.scope.kind == .function && env.kindOf p.1 == some .cell) then (p.1, NameKind.cell) else (p.1, p.2)
theorem reK_fst (env : Env) (p : Str × NameKind) : (reK env p).1 = p.1 := by unfold reK; split <;> rfl
theorem reK_free (env : Env) (p : Str × NameKind) (h : p.2 = .free) : (reK env p).2 = .cell ∨ (reK env p).2 = .free := by
  unfold reK
  split
  · exact .inl rfl
  · exact .inr h
theorem reK_back (env : Env) (p : Str × NameKind) (nc : p.2 ≠ .cell) (h : (reK env p).2 = .cell ∨ (reK env p).2 = .free) : p.2 = .free := by
  unfold reK at h
  split at h
  · rename_i c
    exact eq_of_beq (Bool.and_eq_true_iff.mp (Bool.and_eq_true_iff.mp c).1).1
  · exact h.elim (fun z => absurd z nc) id
theorem look_find (x : Str) : ∀ l : List (Str × NameKind), l.lookup x = (l.find? fun p => x == p.1).map (·.2)
  | [] => rfl
  | p :: r => by
    rw [List.find?_cons]
    show (match x == p.1 with | true => some p.2 | false => List.lookup x r) = _
    cases x == p.1
    · exact look_find x r
    · rfl
theorem find_re (env : Env) (x : Str) : ∀ l : List (Str × NameKind), ((l.map (reK env)).find? fun p => x == p.1) = (l.find? fun p => x == p.1).map (reK env)
  | [] => rfl
  | p :: r => by
    rw [List.map_cons, List.find?_cons, List.find?_cons, reK_fst]
    cases x == p.1
    · exact find_re env x r
    · rfl
theorem re_free {env : Env} {names : List (Str × NameKind)} {x : Str} (h : names.lookup x = some .free) : (names.map (reK env)).lookup x = some .cell ∨ (names.map (reK env)).lookup x = some .free := by
  rw [look_find] at h ⊢
  rw [find_re]
  cases e : names.find? fun p => x == p.1 with
  | none => rw [e] at h; cases h
  | some p =>
    rw [e] at h
    exact (reK_free env p (Option.some.inj h)).imp (congrArg some) (congrArg some)
theorem re_back {env : Env} {names : List (Str × NameKind)} {x : Str} (nc : ∀ y ∈ names, y.2 ≠ .cell) (h : (names.map (reK env)).lookup x = some .cell ∨ (names.map (reK env)).lookup x = some .free) : (x, NameKind.free) ∈ names := by
  rw [look_find, find_re] at h
  cases e : names.find? fun p => x == p.1 with
  | none => rw [e] at h; exact h.elim (fun z => nomatch z) (fun z => nomatch z)
  | some p =>
    rw [e] at h
    have hm := List.mem_of_find?_eq_some e
    have hx0 : (fun q : Str × NameKind => x == q.1) p = true := List.find?_some (p := fun q : Str × NameKind => x == q.1) e
    have hx : x = p.1 := eq_of_beq hx0
    have hf := reK_back env p (nc p hm) (h.imp Option.some.inj Option.some.inj)
    rw [hx, ← hf]
    exact hm
section
variable {X : Cx}
theorem comp_start {pins : List (Addr × Obj)} {σ : St} {H : Hp} {s : Shared} {fp : List Addr} {N' : List Str} {scope : Scope} {cl : List (Str × Addr)} {C : Addr} {cm : List (Option Nat)} {h' : Heap} {t' : Nat} (I : Inv X pins σ H s) (hfp : ∀ b ∈ fp, FpOk X pins H b)
    (hcl1 : ∀ n c, cl.lookup n = some c → X.env.cells.lookup n = some c) (hcl2 : ∀ x ∈ scope.names, x.2 = .free → ∃ c, cl.lookup x.1 = some c) (hk : compOk X.env.scope scope X.N N' cm = true)
    (hC : s.heap.objs.size ≤ C) (hns : h'.Ns C (fun _ => none)) (kp : ∀ b o, s.heap.get? b = some o → h'.get? b = some o) (hfpo : ∀ b ∈ fp, ∃ o, s.heap.get? b = some o) :
    Inv (cxComp X N' scope cl C s H fp pins) [] (cslots cm σ) H { s with heap := h', toks := t' } := by
  unfold compOk at hk
  simp only [Bool.and_eq_true, List.all_eq_true, beq_iff_eq, bne_iff_ne, Bool.or_eq_true] at hk
  obtain ⟨⟨⟨⟨⟨k1, k2⟩, k3⟩, k4⟩, k5⟩, k6⟩ := hk
  have hfs : ∀ b, b ∈ frs X.stack → b = X.env.locals ∨ b ∈ X.fs := fun b hb => List.mem_cons.mp (I.stkSub b hb)
  have hCn : s.heap.get? C = none := Heap.get?_none_of_le hC
  have okk : (cxComp X N' scope cl C s H fp pins).Ok := by
    refine ⟨I.ok.mod, k1, I.ok.glob, I.ok.blt, hC, fun x y c h1 h2 => I.ok.inj x y c (hcl1 _ _ h1) (hcl1 _ _ h2), fun x hx => ?_, fun _ _ z => (Bool.false_ne_true z).elim, I.ok.hd, I.ok.frames, .inl rfl, fun b hb => ⟨?_, fun x c e => ?_⟩, I.bs, Nat.le_trans I.ok.bsz I.sz, fun b o e hb => ?_, fun b hb hf => ?_, I.stack, I.stkFree⟩
    · have hm : (x, NameKind.free) ∈ scope.names := re_back (env := X.env) (fun y hy => k2 y hy) hx
      exact hcl2 _ hm rfl
    · intro z
      obtain ⟨o, e⟩ := hfpo _ hb
      rw [z, show s.heap.get? (cxComp X N' scope cl C s H fp pins).env.locals = none from hCn] at e; cases e
    · exact (hfp b hb).2.2.2.2.1 x c (hcl1 _ _ e)
    · rcases (hfp b hb).2.2.2.1 with z | z
      · exact I.ok.noex b o e z
      · exact absurd (Nat.lt_of_lt_of_le (Nat.lt_of_lt_of_le (Heap.lt_size e) I.ok.bsz) z) (Nat.lt_irrefl _)
    · rcases hfs b hf with z | z
      · exact (hfp b hb).2.1 z
      · exact (hfp b hb).2.2.1 z
  have hnone : H C = none := I.hok.fresh hC
  refine ⟨okk, rfl, I.bare, Un.kept kp, ⟨_, hns, fun i x v e1 e2 e3 => ?_⟩, fun x c e => ?_, hnone, fun x c e => I.freeC x c (hcl1 _ _ e), fun p hp => ?_, I.hok.kept kp, ?_⟩
  · unfold cslots at e2
    rw [List.getElem?_map] at e2
    cases ec : cm[i]? with
    | none => rw [ec] at e2; cases e2
    | some o =>
      rw [ec] at e2
      cases o with
      | none => cases e2
      | some j =>
        have e2' : (σ[j]?).join = some v := Option.some.inj e2
        have hm : (some j, x) ∈ cm.zip N' := List.mem_iff_getElem?.mpr ⟨i, by rw [List.getElem?_zip_eq_some]; exact ⟨ec, e1⟩⟩
        have q := k6 _ hm
        simp only [Bool.and_eq_true, beq_iff_eq, Bool.or_eq_true] at q
        obtain ⟨⟨q1, q2⟩, q3⟩ := q
        have es : σ[j]? = some (some v) := by
          cases z : σ[j]? with
          | none => rw [z] at e2'; cases e2'
          | some y => rw [z] at e2'; exact congrArg some e2'
        obtain ⟨m, hn, hl⟩ := I.loc
        obtain ⟨u, ru, lk⟩ := hl j x v q1 es (q2.elim (fun z => .inr (.inl z)) fun z => .inr (.inr z))
        refine ⟨u, ru, .inr ⟨re_free (env := X.env) q3, ?_⟩⟩
        rcases lk with ⟨z, _⟩ | ⟨_, c, ec2, hc⟩
        · exfalso
          have z' : X.env.scope.names.lookup x = some .local := z
          rcases q2 with q2 | q2 <;> (rw [z'] at q2; cases q2)
        · obtain ⟨c', e'⟩ := hcl2 (x, .free) (mem_of_lookup q3) rfl
          have := hcl1 _ _ e'
          rw [ec2] at this; cases this
          obtain ⟨o, ho, hd⟩ := hc
          exact ⟨c, e', o, kp _ _ ho, hd⟩
  · obtain ⟨v, o, ho, hd⟩ := I.cell x c (hcl1 _ _ e)
    exact ⟨v, o, kp _ _ ho, hd⟩
  · have hp' : p ∈ X.pn ++ pins := by
      rcases List.mem_append.mp hp with hz | z
      · exact hz
      · simp at z
    obtain ⟨p1, p2, p3, p4, p5⟩ := I.pin p hp'
    refine ⟨kp _ _ p1, p2, ?_, fun z => (hfs _ z).elim p3 p4, p5⟩
    rintro z
    rw [z, show s.heap.get? (cxComp X N' scope cl C s H fp pins).env.locals = none from hCn] at p1
    cases p1
  · show (cm.map _).length = N'.length
    rw [List.length_map]
    exact k5
theorem comp_end {pins : List (Addr × Obj)} {σ τ : St} {H H' : Hp} {s s' : Shared} {fp : List Addr} {N' : List Str} {scope : Scope} {cl : List (Str × Addr)} {C : Addr} {h' : Heap} {pl : List (Addr × Obj)} (I : Inv X pins σ H s) (hfp : ∀ b ∈ fp, FpOk X pins H b)
    (J : Inv (cxComp X N' scope cl C s H fp pins) pl τ H' s') (sb : Heap.SameBut C s'.heap h') : Inv X pins σ H' { s' with heap := h' } := by
  have hC : s.heap.objs.size ≤ C := J.ok.above
  have ne : ∀ b o, s.heap.get? b = some o → b ≠ C := fun b o e z => by
    subst z
    exact absurd (Nat.lt_of_lt_of_le (Heap.lt_size e) hC) (Nat.lt_irrefl _)
  have hk : ∀ b o, b ≠ C → s'.heap.get? b = some o → h'.get? b = some o := fun b o hb e => (sb.2 b hb).trans e
  have u := J.base
  refine I.call' (ch := fp) (s' := { s' with heap := h' }) (by show s'.os = s.os; exact J.os) ⟨fun b o q n hb hx => hk b o (ne b o q) (u.keep b o q n hb hx), fun b o q n hb hx => ?_, fun b o q n hx => u.free b o q n hx, fun b o q hx => ?_, u.tups, u.frzs, u.tbls⟩
    (fun a o e => ?_) J.bare fun b hb => ⟨(hfp b hb).2.2.2.1, (hfp b hb).2.1, (hfp b hb).2.2.2.2.1, (hfp b hb).2.2.2.2.2⟩
  · obtain ⟨sl, e⟩ := u.slot b o q n hb hx
    exact ⟨sl, hk b _ (ne b o q) e⟩
  · obtain ⟨o', e⟩ := u.there b o q hx
    exact ⟨o', hk b _ (ne b o q) e⟩
  · have hcn : H' C = none := J.free
    refine (J.hok a o e).stay (fun b v hb q => hk b v ?_ q) (fun _ q => q) fun _ _ q => q
    rcases hb with z | z
    · rw [z]; exact ne_of_none e hcn
    · exact ne_of_none z hcn
end
theorem calm_any {α : Type} {m : Sem α} {Q : α → Shared → Prop} {M : Model} {A : Around} {E : Value → Shared → Prop} {s : Shared} (h : wpAny M A m Q (fun _ _ => False) s) : wpAny M A m Q E s := wpAny_mono h (fun _ _ q => q) fun _ _ z => z.elim
def CTurn (P : Program) (w : World) (A : Around) (tg : Expr) (ifs : List Expr) (elt : Expr) (itv acc : Value) (env : Env) (fin next : Shared → Prop) : Option Value → Shared → Prop
  | none, s => fin s
  | some v, s => wpAny (model P w) A (letOwnedTupleGo tg itv v) (fun _ s1 => wpAny (model P w) A (assign tg env v) (fun _ s2 => wpAny (model P w) A
      (forIn ifs true fun c r => if r = true then do let ok ← isTrue c env (eval c env); pure (ForInStep.yield ok) else pure (ForInStep.yield r))
      (fun ok s3 => if ok = true then wpAny (model P w) A (eval elt env) (fun y s4 => wpAny (model P w) A (call (.builtin "list.append") [acc, y]) (fun _ s5 => next s5) (fun _ _ => False) s4) (fun _ _ => False) s3 else next s3)
      (fun _ _ => False) s2) (fun _ _ => False) s1) (fun _ _ => False) s
theorem cturns {P : Program} {w : World} {A : Around} {R : Result → Shared → Prop} {s : Shared} {elt tg iter : Expr} {ifs : List Expr} {scope : Scope} {pos : Pos} {itv acc : Value} {env : Env} (J : Nat → Shared → Prop)
    (go : ∀ k u, J k u → wpAny (model P w) A (pyNext itv) (CTurn P w A tg ifs elt itv acc env (R (.ok .next)) fun u' => ∃ j, j < k ∧ J j u') (fun _ _ => False) u) (k : Nat) (h : J k s) :
    codeAny (model P w) A (.compLoop (.ListComp elt [⟨tg, iter, ifs, 0⟩] scope pos) 0 itv acc env) R s := by
  apply codeAny_loop rfl J _ k h
  intro k u hu
  apply wpAny_noted
  rw [compTurn_list]
  refine wpAny_bind (wpAny_standAt (wpAny_bind (calm_any (thn (go k u hu) fun r u1 q => ?_))))
  match r, q with
  | none, q => exact wpAny_pure q
  | some v, q =>
    refine wpAny_bind (calm_any (thn q fun _ u2 q2 => wpAny_bind (calm_any (thn q2 fun _ u3 q3 => wpAny_bind (calm_any (thn q3 fun ok u4 q4 => ?_))))))
    match ok, q4 with
    | false, q4 => exact wpAny_pure (And.intro rfl q4)
    | true, q4 => exact wpAny_bind (wpAny_bind (calm_any (thn q4 fun y u5 q5 => wpAny_bind (calm_any (thn q5 fun _ u6 q6 => wpAny_pure (wpAny_pure (And.intro rfl q6)))))))
def PF (X : Cx) (ifs : List Expr) (t : TT) : Prop :=
  ∀ (pins : List (Addr × Obj)) (s : Shared) (σ : St) (H : Hp) (Q : Bool → Hp → Prop), Inv X pins σ H s → t σ H Q →
    wpAny (model X.prog X.w) X.A (forIn ifs true fun c r => if r = true then do let ok ← isTrue c X.env (eval c X.env); pure (ForInStep.yield ok) else pure (ForInStep.yield r)) (TP X pins σ Q) X.xe s
def tYes : TT := fun _ H Q => Q true H
section
variable {X : Cx}
theorem pf_nil : PF X [] tYes := fun _ _ _ H _ I h => wpAny_tests_nil ⟨H, I, h⟩
def CompGo (J : It) (D : Addr) (g : TG) (tt : TT) (te : TE) (Q : VK) (τ : St) (H : Hp) : Prop := ∃ W : Nat → Nat → St → Hp → Prop, (∃ m, W 0 m τ H) ∧ ∀ i m τ H2, W i m τ H2 →
    (J.stop i H2 ∧ Q (.ref D) H2) ∨ (J.go i H2 ∧ ∃ N : St → Hp → Prop, (∀ τ' H', N τ' H' → ∃ m', m' < m ∧ W (i + 1) m' τ' H') ∧ ∀ x H', J.yld i H2 x H' → g x τ H' fun τ2 H3 => tt τ2 H3 fun b H4 =>
      if b = true then te τ2 H4 fun y H5 => ∃ ys, H5 D = some (.lst ys) ∧ ys.length < sizeLine ∧ N τ2 (upd H5 D (.lst (ys ++ [y]))) else N τ2 H4)
def tComp (cm : List (Option Nat)) (wi : TI) (g : TG) (tt : TT) (te : TE) : TE := fun σ H Q => wi σ H fun J H1 => ∀ D, H1 D = none → CompGo J D g tt te Q (cslots cm σ) (upd H1 D (.lst []))
theorem pe_comp {elt tg iter : Expr} {ifs : List Expr} {scope : Scope} {pos : Pos} {wi : TI} {g : TG} {tt : TT} {te : TE} (N' : List Str) (cm : List (Option Nat)) (hc : X.calm = true) (hi : PI X tg iter wi)
    (hg : ∀ cl C s H fp pins, PG (cxComp X N' scope cl C s H fp pins) tg g) (ht : ∀ cl C s H fp pins, PF (cxComp X N' scope cl C s H fp pins) ifs tt) (he : ∀ cl C s H fp pins, PE (cxComp X N' scope cl C s H fp pins) elt te)
    (hk : compOk X.env.scope scope X.N N' cm = true := by rfl) (hs : ∀ x, foldedSetIterable iter X.env x = pure x := by intro _; rfl) :
    PE X (.ListComp elt [⟨tg, iter, ifs, 0⟩] scope pos) (tComp cm wi g tt te) := by
  intro pins s σ H Q I h
  have hk0 := hk
  unfold compOk at hk0
  simp only [Bool.and_eq_true, List.all_eq_true, beq_iff_eq, bne_iff_ne, Bool.or_eq_true] at hk0
  obtain ⟨⟨⟨⟨⟨k1, k2⟩, k3⟩, k4⟩, k5⟩, k6⟩ := hk0
  obtain ⟨cl, hclos, hcl1, hcl2⟩ := clos_ok (env := X.env) (scope := scope) (fun x hx hf => I.ok.has x.1 (by
    rcases k3 x hx with (z | z) | z
    · exact absurd hf z
    · exact .inl z
    · exact .inr z))
  rw [eval_ListComp]
  refine wpAny_comprehension_free (use := none) rfl hs hclos k1 (fun x hx hl => (k4 x hx).elim (fun z => absurd hl z) id) (wpAny_mono (hi pins s σ H _ I h) (fun v s1 h1 => wpAny_mono h1 (fun itv s2 h2 => ?_) fun _ _ e => e) fun _ _ e => e)
  obtain ⟨it, fp, tn, J, H2, e, I2, T, st2, f2, h2⟩ := h2
  subst e
  have hDn : H2 s2.heap.objs.size = none := I2.hok.fresh (Nat.le_refl _)
  obtain ⟨W, ⟨m0, w0⟩, turn⟩ := h2 s2.heap.objs.size hDn
  refine wpAny_newObj_type ?_
  have I3 : Inv X pins σ (upd H2 s2.heap.objs.size (.lst [])) { s2 with heap := s2.heap.push { cls := .type "list", dict := none, data := .seq ([] : List Value).toArray } } := I2.lnew (t' := s2.toks) (its := []) .nil (Nat.zero_le _)
  have f3 : ∀ b ∈ fp, FpOk X pins (upd H2 s2.heap.objs.size (.lst [])) b := fun b hb => ⟨by
    obtain ⟨o, e, _⟩ := T.obj _ _ st2 b hb
    rw [upd_ne (Nat.ne_of_lt (Heap.lt_size e))]
    exact (f2 b hb).1, (f2 b hb).2⟩
  have st3 : tn 0 (s2.heap.push { cls := .type "list", dict := none, data := .seq ([] : List Value).toArray }) := T.keep _ _ _ st2 fun b _ o e => Heap.get?_push_of_some _ e
  generalize hs3 : ({ s2 with heap := s2.heap.push { cls := .type "list", dict := none, data := .seq ([] : List Value).toArray } } : Shared) = s3 at I3 ⊢
  have st3' : tn 0 s3.heap := by rw [← hs3]; exact st3
  generalize hH3 : upd H2 s2.heap.objs.size (.lst []) = H3 at I3 f3 w0
  generalize s2.heap.objs.size = D at *
  refine wpAny_newFunctionEnv (by intro y hy; exact k2 y hy) (by intro y hy; simp at hy) (fun h4 hns4 hsb4 => ?_) k1
  have kp4 : ∀ b o, s3.heap.get? b = some o → h4.get? b = some o := fun b o e => hsb4.extBut b o (Nat.ne_of_lt (Heap.lt_size e)) (Heap.get?_push_of_some _ e)
  have I4 := comp_start (N' := N') (scope := scope) (cl := cl) (C := s3.heap.objs.size) (cm := cm) (h' := h4) (t' := s3.toks + ([] : List (Str × Value)).length) I3 f3 hcl1 hcl2 hk (Nat.le_refl _) hns4 kp4 (fun b hb => by
    obtain ⟨o, e, _⟩ := T.obj _ _ st3' b hb
    exact ⟨o, e⟩)
  have st4 : tn 0 h4 := T.keep _ _ _ st3' fun b _ o e => kp4 b o e
  have sf : ∀ (Ha : Hp), (∀ b ∈ fp, Ha b = none) → ∀ b ∈ fp, FpOk (cxComp X N' scope cl s3.heap.objs.size s3 H3 fp pins) [] Ha b := fun Ha hn b hb => by
    refine ⟨hn b hb, (I4.ok.exf b hb).1, fun z => I4.ok.exfs b hb z, .inl hb, (I4.ok.exf b hb).2, fun p hp => ?_⟩
    have hp' : p ∈ X.pn ++ pins := by
      rcases List.mem_append.mp hp with hz | z
      · exact hz
      · simp at z
    exact (f3 b hb).2.2.2.2.2 p hp'
  have hcY : (cxComp X N' scope cl s3.heap.objs.size s3 H3 fp pins).calm = true := hc
  have loop : ∀ s4 : Shared, s4 = { s3 with heap := h4, toks := s3.toks + ([] : List (Str × Value)).length } →
      codeAny (model X.prog X.w) X.A (.compLoop (.ListComp elt [⟨tg, iter, ifs, 0⟩] scope pos) 0 (.ref it) (.ref D) (compEnvC scope cl s3.heap.objs.size X.env))
        (compPost (model X.prog X.w) X.A X.xe none (EP X pins σ Q) (.ref D) s3.heap.objs.size) s4 := by
    rintro s4 rfl
    refine cturns (fun n s' => ∃ i τ H', Inv (cxComp X N' scope cl s3.heap.objs.size s3 H3 fp pins) [] τ H' s' ∧ tn i s'.heap ∧ (∀ b ∈ fp, H' b = none) ∧ W i n τ H') ?_ m0 ⟨0, cslots cm σ, H3, I4, st4, fun b hb => (f3 b hb).1, w0⟩
    rintro n s5 ⟨i, τ, H5, I5, st5, fr5, w5⟩
    rcases turn i n τ H5 w5 with ⟨stop, qn⟩ | ⟨go, N, hN, step⟩
    · refine thn (T.done (cxComp X N' scope cl s3.heap.objs.size s3 H3 fp pins) rfl rfl rfl hcY i [] s5 τ H5 (fun _ _ => False) I5 (sf H5 fr5) st5 stop) fun r s6 ⟨hr, I6⟩ => ?_
      subst hr
      obtain ⟨m, hm, _⟩ := I6.loc
      exact ⟨m, hm, fun h' sb => ⟨.ref D, H5, comp_end I3 f3 I6 sb, rfl, qn⟩⟩
    · refine thn (T.item (cxComp X N' scope cl s3.heap.objs.size s3 H3 fp pins) rfl rfl rfl hcY i [] s5 τ H5 (fun _ _ => False) I5 (sf H5 fr5) st5 go) fun r s6 ⟨u, hr, h6⟩ => ?_
      subst hr
      refine thn h6 fun _ s7 ⟨x, H7, I7, r7, y7, st7, fr7⟩ => ?_
      have I7' := I7.pinned (sf H7 fr7) (T.obj _ _ st7)
      refine thn (hg cl s3.heap.objs.size s3 H3 fp pins _ s7 τ H7 x u _ I7' r7 (step x H7 y7)) fun _ s8 ⟨τ8, H8, I8, q8⟩ => ?_
      refine thn (ht cl s3.heap.objs.size s3 H3 fp pins _ s8 τ8 H8 _ I8 q8) fun ok s9 ⟨H9, I9, q9⟩ => ?_
      have again : ∀ {s' : Shared} {H' : Hp}, Inv (cxComp X N' scope cl s3.heap.objs.size s3 H3 fp pins) ([] ++ pinsAt fp s7.heap) τ8 H' s' → N τ8 H' → ∃ m, m < n ∧ ∃ i τ H', Inv (cxComp X N' scope cl s3.heap.objs.size s3 H3 fp pins) [] τ H' s' ∧ tn i s'.heap ∧ (∀ b ∈ fp, H' b = none) ∧ W i m τ H' := fun {s' H'} I' n' => by
        obtain ⟨m', hm, w'⟩ := hN τ8 H' n'
        refine ⟨m', hm, i + 1, τ8, H', I'.unpinned, T.keep _ _ _ st7 fun b hb o e => (I'.pin (b, o) (List.mem_append_right _ (List.mem_append_right _ (mem_pinsAt hb e)))).1, fun b hb => ?_, w'⟩
        obtain ⟨o, e, d⟩ := T.obj _ _ st7 b hb
        exact (I'.pin (b, o) (List.mem_append_right _ (List.mem_append_right _ (mem_pinsAt hb e)))).2.1
      cases ok with
      | false =>
        rw [if_neg Bool.false_ne_true] at q9
        rw [if_neg Bool.false_ne_true]
        exact again I9 q9
      | true =>
        rw [if_pos rfl] at q9
        rw [if_pos rfl]
        refine thn (he cl s3.heap.objs.size s3 H3 fp pins _ s9 τ8 H9 _ I9 q9) fun y s10 ⟨x10, H10, I10, r10, ys, hD, hz, q10⟩ => ?_
        refine thn (mt_append (X := cxComp X N' scope cl s3.heap.objs.size s3 H3 fp pins) _ s10 τ8 H10 (.ref D) [x10] (.ref D) [y] (fun _ H' => N τ8 H') I10 rfl (.cons r10 .nil) ⟨D, ys, x10, rfl, rfl, hD, hz, q10⟩) fun _ s11 ⟨v11, H11, I11, _, q11⟩ => ?_
        exact again I11 q11
  exact codeAny_compStart_list (loop _ rfl) (T.self X.A 0 _ _ _ st4 (loop _ rfl))
end
end L2
namespace S
open PySem PySem.W PyProof.Rows
structure Ord (lt : Nat → Nat → Bool) : Prop where
  irr : ∀ a, lt a a = false
  trans : ∀ a b c, lt a b = true → lt b c = true → lt a c = true
  tot : ∀ a b, a ≠ b → lt a b = false → lt b a = true
section
variable {lt : Nat → Nat → Bool}
abbrev at_ (p : Array Nat) (i : Nat) : Nat := p.getD i 0
theorem at_get {p : Array Nat} {i : Nat} : at_ p i = (p[i]?).getD 0 := by
  unfold at_
  simp [Array.getD_eq_getD_getElem?]
def Up (lt : Nat → Nat → Bool) (p : Array Nat) (m : Nat) : Prop := ∀ i j, i < j → j < m → lt (at_ p i) (at_ p j) = true
def Dn (lt : Nat → Nat → Bool) (p : Array Nat) (m : Nat) : Prop := ∀ i j, i < j → j < m → lt (at_ p j) (at_ p i) = true
theorem Up.more (O : Ord lt) {p : Array Nat} {n : Nat} (h1 : 1 ≤ n) (h : Up lt p n) (h2 : lt (at_ p (n - 1)) (at_ p n) = true) : Up lt p (n + 1) := fun i j hij hj => by
  by_cases e : j = n
  · subst e
    by_cases e2 : i = j - 1
    · subst e2; exact h2
    · exact O.trans _ _ _ (h i (j - 1) (by omega) (by omega)) h2
  · exact h i j hij (by omega)
theorem Dn.more (O : Ord lt) {p : Array Nat} {n : Nat} (h1 : 1 ≤ n) (h : Dn lt p n) (h2 : lt (at_ p n) (at_ p (n - 1)) = true) : Dn lt p (n + 1) := fun i j hij hj => by
  by_cases e : j = n
  · subst e
    by_cases e2 : i = j - 1
    · subst e2; exact h2
    · exact O.trans _ _ _ h2 (h i (j - 1) (by omega) (by omega))
  · exact h i j hij (by omega)
end
end S
namespace S
open PySem PySem.W PyProof.Rows
structure OrdW (lt : Nat → Nat → Bool) : Prop where
  irr : ∀ a, lt a a = false
  asy : ∀ a b, lt a b = true → lt b a = false
  neg : ∀ a b c, lt b a = false → lt c b = false → lt c a = false
section
variable {lt : Nat → Nat → Bool}
def UpW (lt : Nat → Nat → Bool) (p : Array Nat) (m : Nat) : Prop := ∀ i j, i < j → j < m → lt (at_ p j) (at_ p i) = false
def DnW (lt : Nat → Nat → Bool) (p : Array Nat) (m : Nat) : Prop := ∀ i j, i < j → j < m → lt (at_ p i) (at_ p j) = false
def EqW (lt : Nat → Nat → Bool) (p : Array Nat) (a b : Nat) : Prop := ∀ i j, a ≤ i → i < b → a ≤ j → j < b → lt (at_ p i) (at_ p j) = false
theorem UpW.more (O : OrdW lt) {p : Array Nat} {n : Nat} (h1 : 1 ≤ n) (h : UpW lt p n) (h2 : lt (at_ p n) (at_ p (n - 1)) = false) : UpW lt p (n + 1) := fun i j hij hj => by
  by_cases e : j = n
  · subst e
    by_cases e2 : i = j - 1
    · subst e2; exact h2
    · exact O.neg _ _ _ (h i (j - 1) (by omega) (by omega)) h2
  · exact h i j hij (by omega)
theorem DnW.more (O : OrdW lt) {p : Array Nat} {n : Nat} (h1 : 1 ≤ n) (h : DnW lt p n) (h2 : lt (at_ p (n - 1)) (at_ p n) = false) : DnW lt p (n + 1) := fun i j hij hj => by
  by_cases e : j = n
  · subst e
    by_cases e2 : i = j - 1
    · subst e2; exact h2
    · exact O.neg _ _ _ h2 (h i (j - 1) (by omega) (by omega))
  · exact h i j hij (by omega)
theorem rev_in {p : Array Nat} {a n : Nat} (h : n ≤ p.size) (k : Nat) : at_ (kas_rev p a n) k = if a ≤ k ∧ k < n then at_ p (a + n - 1 - k) else at_ p k := by
  rw [at_get]
  unfold kas_rev
  rw [getElem?_mirror_all h]
  by_cases hk : a ≤ k ∧ k < n
  · rw [if_pos hk, if_pos hk, at_get]
  · rw [if_neg hk, if_neg hk, at_get]
theorem DnW.turn {p : Array Nat} {a n m : Nat} (hn : n ≤ p.size) (d : DnW lt p m) (q : EqW lt p a n) (hm : n ≤ m) : DnW lt (kas_rev p a n) m := fun i j hij hj => by
  rw [rev_in hn, rev_in hn]
  by_cases h1 : a ≤ i ∧ i < n
  · rw [if_pos h1]
    by_cases h2 : a ≤ j ∧ j < n
    · rw [if_pos h2]
      exact q _ _ (by omega) (by omega) (by omega) (by omega)
    · rw [if_neg h2]
      exact d _ _ (by omega) hj
  · rw [if_neg h1]
    by_cases h2 : a ≤ j ∧ j < n
    · rw [if_pos h2]
      exact d _ _ (by omega) (by omega)
    · rw [if_neg h2]
      exact d _ _ hij hj
end
end S
namespace S
open PySem PySem.W PyProof.Rows
def Few (n : Nat) (p : Array Nat) : Prop := 0 < n ∧ ∀ x ∈ p.toList, x < n
theorem Few.at {n : Nat} {p : Array Nat} (h : Few n p) (i : Nat) : p.getD i 0 < n := by
  by_cases hi : i < p.size
  · have e : p.getD i 0 = p.toList[i]'(by simpa using hi) := by simp [Array.getD, hi]
    rw [e]
    exact h.2 _ (List.getElem_mem _)
  · have e : p.getD i 0 = 0 := by simp [Array.getD, hi]
    rw [e]
    exact h.1
end S
namespace DD
open PySem PySem.SeqAt PySem.W PyProof.Rows
section
variable {prog : Program} {w : World} {A : Around} {E : Value → Shared → Prop} {s : Shared}
theorem one_lt {b : Bool} {d e : D} {v u : Value} {Q : Bool → Shared → Prop} (h1 : Is s.heap d v) (h2 : Is s.heap e u) (hc : cm d e = true) (u1 : A.units + dep d < cLine) (u2 : A.units + dep e < cLine) (q : Q (lt d e) s) : wpAny (model prog w) A (oneLt' b v u) Q E s := by
  have low : A.units < cLine := by omega
  cases b with
  | false =>
    rw [oneLt'_eq]
    rw [if_neg Bool.false_ne_true]
    exact wpAny_bind (rcLt h1 h2 hc u1 u2 prog w E _ (wpAny_truthy_bool q))
  | true =>
    have tup : ∀ ds es : List D, d = ofL ds → e = ofL es → wpAny (model prog w) A (oneLt' true v u) Q E s := by
      intro ds es e1 e2
      subst e1 e2
      obtain ⟨a, its, rfl, t, al⟩ := is_tup.mp h1
      obtain ⟨a', its', rfl, t', al'⟩ := is_tup.mp h2
      obtain ⟨⟨cls, dd, data, sl⟩, ho, rfl, n, rfl⟩ := id t
      obtain ⟨⟨cls2, dd2, data2, sl2⟩, ho2, rfl, n2, rfl⟩ := id t'
      rw [oneLt'_eq, if_pos rfl]
      have eu : A.in1.units = A.units + 1 := rfl
      refine wpAny_bind (wpAny_cRoomFor_or (.inr low) (wpAny_bind (wpAny_callSpecialIfBound?_slot ⟨_, ho, rfl⟩ F.slot_tuple_lt (call_meets F.slot_tuple_lt ⟨_, ho, rfl⟩ F.entry_tuple_lt (F.args_tuple_lt_2 _ _) (tuple_LtAt a a' its its' n n2 dd dd2 sl sl2 ds es)
        ⟨ho, ho2, al, al', fun x hx y hy v u q1 q2 => ?_, hc, wpAny_truthy_bool q⟩))))
      have m1 := dep_mem hx
      have m2 := dep_mem hy
      exact ⟨eqAt q1 q2 (by omega) (by omega), fun c1 _ => rcLt q1 q2 c1 (by omega) (by omega)⟩
    have go : ∀ {z : D} {v : Value}, Is s.heap z v → (∃ x y, z = .cons x y) → ∃ ds, z = ofL ds := by
      rintro z v hz ⟨x, y, rfl⟩
      obtain ⟨_, _, _, _, _, _, z1⟩ := (by simpa only [Is] using hz)
      obtain ⟨ds, rfl, _⟩ := are_iff.mp z1
      exact ⟨x :: ds, rfl⟩
    cases d with
    | non => cases e <;> cases hc
    | int i =>
      cases e with
      | int j =>
        obtain ⟨t, rfl⟩ := (show ∃ t, v = .int i t by simpa only [Is] using h1)
        obtain ⟨t', rfl⟩ := (show ∃ t, u = .int j t by simpa only [Is] using h2)
        exact oneLt_int q
      | _ => cases hc
    | str i =>
      cases e with
      | str j =>
        obtain ⟨t, rfl⟩ := (show ∃ t, v = .str i t by simpa only [Is] using h1)
        obtain ⟨t', rfl⟩ := (show ∃ t, u = .str j t by simpa only [Is] using h2)
        exact oneLt_str q
      | _ => cases hc
    | nil =>
      cases e with
      | nil => exact tup [] [] rfl rfl
      | cons x y =>
        obtain ⟨es, e2⟩ := go h2 ⟨x, y, rfl⟩
        exact tup [] es rfl e2
      | _ => cases hc
    | cons x y =>
      obtain ⟨ds, e1⟩ := go h1 ⟨x, y, rfl⟩
      cases e with
      | nil => exact tup ds [] e1 rfl
      | cons x' y' =>
        obtain ⟨es, e2⟩ := go h2 ⟨x', y', rfl⟩
        exact tup ds es e1 e2
      | _ => cases hc
end
end DD
namespace DD
open PySem PySem.SeqAt PySem.W PyProof.Rows
section
variable {prog : Program} {w : World} {A : Around} {E : Value → Shared → Prop} {s : Shared}
end
end DD
namespace DD
open PySem PySem.SeqAt PySem.W PyProof.Rows PySem.Calls
section
variable {prog : Program} {w : World} {A : Around} {E : Value → Shared → Prop} {s : Shared}
structure Row (prog : Program) (w : World) (A : Around) (I S n : Nat) (J : Nat → List Value → Heap → Prop) : Prop where
  step : ∀ (i : Nat) (vs : List Value) (s : Shared) (E : Value → Shared → Prop) (Q : Option Value → Shared → Prop), i < n → J i vs s.heap → (∀ v h', J (i + 1) (vs ++ [v]) h' → (∀ b o, b ≠ I → s.heap.get? b = some o → h'.get? b = some o) → Q (some v) { s with heap := h' }) → wpAny (model prog w) A (pyNext (.ref I)) Q E s
  last : ∀ (vs : List Value) (s : Shared) (E : Value → Shared → Prop) (Q : Option Value → Shared → Prop), J n vs s.heap → (∀ h', J (n + 1) vs h' → (∀ b o, b ≠ I → s.heap.get? b = some o → h'.get? b = some o) → Q none { s with heap := h' }) → wpAny (model prog w) A (pyNext (.ref I)) Q E s
  keep : ∀ (i : Nat) (vs : List Value) (h h' : Heap), J i vs h → (∃ o, h.get? S = some o ∧ o.cls = .type "list") → (∀ b o, b ≠ S → h.get? b = some o → h'.get? b = some o) → J i vs h'
end
end DD
namespace L2
open PySem PySem.Spec PyProof.Rows DD
section
variable {X : Cx} {pins : List (Addr × Obj)} {σ : St} {H H' : Hp} {s : Shared} {h' : Heap}
end
section
variable {P : Program} {w : World} {H : Hp} {h : Heap} {d : Addr}
end
def DItems (H : Hp) (d : Addr) (ps : List (D × D)) : Prop :=
  (∃ kvs, Rd H d (.dT kvs) ∧ All2 (fun (p : D × D) (q : D × V) => p.1 = q.1 ∧ DV H p.2 q.2) ps kvs) ∨ (∃ kvs, Rd H d (.dK kvs) ∧ All2 (fun (p : D × D) (q : Key × V) => DV H p.1 (kV q.1) ∧ DV H p.2 q.2) ps kvs)
structure Sortable (ds : List D) : Prop where
  nd : ds.Nodup
  cm : ∀ x ∈ ds, ∀ y ∈ ds, DD.cm x y = true
  dep : ∀ x ∈ ds, DD.dep x ≤ 8
  few : ds.length < 64
theorem All2.imp {α β : Type} {R T : α → β → Prop} (f : ∀ a b, R a b → T a b) : ∀ {l : List α} {r : List β}, All2 R l r → All2 T l r
  | _, _, .nil => .nil
  | _, _, .cons h t => .cons (f _ _ h) (All2.imp f t)
theorem Same.dv {H H' : Hp} (e : Same H H') {d : D} {v : V} (z : DV H d v) : DV H' d v := z.mono fun b xs q => e b _ q
section
variable {X : Cx}
end
end L2
namespace L2
open PySem PySem.Spec PyProof.Rows DD
theorem All2.of_get {α β : Type} {R : α → β → Prop} : ∀ {l : List α} {r : List β}, l.length = r.length → (∀ (i : Nat) (h1 : i < l.length) (h2 : i < r.length), R l[i] r[i]) → All2 R l r
  | [], [], _, _ => .nil
  | [], _ :: _, h, _ => by cases h
  | _ :: _, [], h, _ => by cases h
  | a :: l, b :: r, h, k => .cons (k 0 (Nat.zero_lt_succ _) (Nat.zero_lt_succ _)) (All2.of_get (Nat.succ.inj h) fun i h1 h2 => k (i + 1) (Nat.succ_lt_succ h1) (Nat.succ_lt_succ h2))
theorem is_all {P : Program} {w : World} {H : Hp} {h : Heap} (ok : HOk P w H h) : ∀ {ds : List D} {ys : List V} {vs : List Value}, All2 (DV H) ds ys → Vals ys vs → All2 (Is h) ds vs
  | _, _, _, .nil, .nil => .nil
  | _, _, _, .cons z t, .cons r q => .cons (z.is ok r) (is_all ok t q)
section
variable {X : Cx}
end
end L2
namespace L2
open PySem PySem.Spec PyProof.Rows DD PySem.SeqAt
section
variable {X : Cx}
def TwoT (H : Hp) (x y : V) (d e : D) : Prop := (∃ a, x = .ref a) ∧ (∃ b, y = .ref b) ∧ DV H d x ∧ DV H e y ∧ DD.dep d ≤ 8 ∧ DD.dep e ≤ 8
theorem two_is {pins : List (Addr × Obj)} {σ : St} {H : Hp} {s : Shared} {x y : V} {v u : Value} {d e : D} (I : Inv X pins σ H s) (rx : RelV x v) (ry : RelV y u) (t : TwoT H x y d e) :
    ∃ (ds es : List D) (a b : Addr) (its its' : List Value), d = ofL ds ∧ e = ofL es ∧ v = .ref a ∧ u = .ref b ∧ s.heap.IsTuple a its.toArray ∧ s.heap.IsTuple b its'.toArray ∧ All2 (Is s.heap) ds its ∧ All2 (Is s.heap) es its' := by
  obtain ⟨⟨a, rfl⟩, ⟨b, rfl⟩, h1, h2, _⟩ := t
  obtain ⟨ds, rfl⟩ := dv_ofL h1
  obtain ⟨es, rfl⟩ := dv_ofL h2
  cases rx
  cases ry
  obtain ⟨a', its, e1, t1, al⟩ := is_tup.mp (h1.is I.hok (u := .ref a) rfl)
  obtain ⟨b', its', e2, t2, al'⟩ := is_tup.mp (h2.is I.hok (u := .ref b) rfl)
  cases e1
  cases e2
  exact ⟨ds, es, a, b, its, its', rfl, rfl, rfl, rfl, t1, t2, al, al'⟩
theorem items_eq {A : Around} {s : Shared} {ds es : List D} {its its' : List Value} (al : All2 (Is s.heap) ds its) (al' : All2 (Is s.heap) es its') (u1 : ∀ x ∈ ds, A.units + DD.dep x < cLine) (u2 : ∀ y ∈ es, A.units + DD.dep y < cLine) :
    ∀ j (h1 : j < its.toArray.size) (h2 : j < its'.toArray.size), EqAt A s its.toArray[j] its'.toArray[j] (decide (ds[j]? = es[j]?)) := fun j q1 q2 => by
  have q1' : j < its.length := by simpa using q1
  have q2' : j < its'.length := by simpa using q2
  have j1 : j < ds.length := by rw [al.length]; exact q1'
  have j2 : j < es.length := by rw [al'.length]; exact q2'
  have z := eqAt (A := A) (al.get j j1 q1') (al'.get j j2 q2') (u1 _ (List.getElem_mem j1)) (u2 _ (List.getElem_mem j2))
  rw [List.getElem?_eq_getElem j1, List.getElem?_eq_getElem j2]
  simp only [Option.some.injEq]
  simpa using z
theorem op_eq_d (hu : X.A.units + 16 < cLine) : OpR X (compareOp .Eq) (fun x y H Q => ∃ d e, TwoT H x y d e ∧ Q (.bl (decide (d = e))) H) := by
  intro pins s σ H x y v u Q I rx ry h
  obtain ⟨d, e, t, q⟩ := h
  have t5 := t.2.2.2.2.1
  have t6 := t.2.2.2.2.2
  obtain ⟨ds, es, a, b, its, its', rfl, rfl, rfl, rfl, t1, t2, al, al'⟩ := two_is I rx ry t
  have eu : X.A.in1.units = X.A.units + 1 := rfl
  have z := RcAt.tuples t1 t2 (A := X.A) (by omega) (items_eq (A := X.A.in1) al al' (fun x hx => by have := dep_mem hx; omega) (fun y hy => by have := dep_mem hy; omega))
  have e2 := all_dec (ds := ds) (es := es)
  simp only [List.size_toArray] at z
  rw [← al.length, ← al'.length, e2] at z
  exact z X.prog X.w X.xe _ ⟨.bl _, H, I, rfl, q⟩
theorem sl_str : SlR X (fun x lo hi H Q => ∃ z, x = .str z ∧ z.length ≤ sizeLine ∧ Q (.str (Txt.slice z lo hi)) H) := by
  intro pins s σ H x v vl vu lo hi sl Q I rx hs pl pu h
  obtain ⟨z, rfl, zl, q⟩ := h
  obtain ⟨t, rfl⟩ := rx
  have part : ∀ {w : Value} {o : Option Int}, IsPart w o → ∃ p : Option (Int × Tok), w = partValue p ∧ p.map (·.1) = o := fun k => by
    cases k with
    | none => exact ⟨none, rfl, rfl⟩
    | int i t => exact ⟨some (i, t), rfl, rfl⟩
  obtain ⟨l, rfl, el⟩ := part pl
  obtain ⟨r, rfl, er⟩ := part pu
  refine ⟨"str", _, F.slot_str_getitem.lookup, typeIs_str s z t, wpAny_getItem_str_slice (l := l) (u := r) (st := none) hs rfl ?_⟩
  have e : Txt.slice z lo hi = if ((1 : Int) == 1 && (slicePicked z l r none).length == z.length) = true then z else ⟨((slicePicked z l r none).filterMap (z.cps[·]?)).toArray⟩ := by
    rw [← el, ← er]; rfl
  have k : sliceMade z t l r none = if ((1 : Int) == 1 && (slicePicked z l r none).length == z.length) = true then .val (.str z t) else .str ⟨((slicePicked z l r none).filterMap (z.cps[·]?)).toArray⟩ := rfl
  rw [k]
  by_cases c : ((1 : Int) == 1 && (slicePicked z l r none).length == z.length) = true
  · rw [if_pos c] at e ⊢
    exact ⟨.str z, H, I, ⟨t, rfl⟩, by rw [e] at q; exact q⟩
  · rw [if_neg c] at e
    rw [if_neg c]
    have le := Txt.slice_le z lo hi
    rw [e] at q le
    exact ⟨Nat.le_trans le zl, .str _, H, I.tok _, ⟨_, rfl⟩, q⟩
end
end L2
namespace L2
open PySem PySem.Spec PyProof.Rows DD
open Builtin.Int (intBits)
theorem bt_len : bootBuiltins "len" = some (.builtin "len") := by decide +kernel
theorem bt_max : bootBuiltins "max" = some (.builtin "max") := by decide +kernel
theorem bt_isinstance : bootBuiltins "isinstance" = some (.builtin "isinstance") := by decide +kernel
theorem bt_int : bootBuiltins "int" = some (.type "int") := by decide +kernel
theorem bt_tuple : bootBuiltins "tuple" = some (.type "tuple") := by decide +kernel
theorem bt_str : bootBuiltins "str" = some (.type "str") := by decide +kernel
theorem bt_abs : bootBuiltins "abs" = some (.builtin "abs") := by decide +kernel
structure Bl (mg : Str → Option Value) : Prop where
  len_ : mg "len" = none
  max_ : mg "max" = none
  min_ : mg "min" = none
  isinstance_ : mg "isinstance" = none
  int_ : mg "int" = none
  bool_ : mg "bool" = none
  range_ : mg "range" = none
  sorted_ : mg "sorted" = none
  tuple_ : mg "tuple" = none
  list_ : mg "list" = none
  str_ : mg "str" = none
  dict_ : mg "dict" = none
  abs_ : mg "abs" = none
  enumerate_ : mg "enumerate" = none
  reversed_ : mg "reversed" = none
  any_ : mg "any" = none
  all_ : mg "all" = none
  sum_ : mg "sum" = none
  zip_ : mg "zip" = none
abbrev Bits (m : Nat) (x : Int) : Prop := intBits x ≤ m
theorem bits_of {m : Nat} {x : Int} (h : x.natAbs < 2 ^ m) : Bits m x := intBits_le_iff.mpr h
theorem Bits.lt {m : Nat} {x : Int} (h : Bits m x) : x.natAbs < 2 ^ m := intBits_le_iff.mp h
theorem Bits.mono {m n : Nat} {x : Int} (h : Bits m x) (k : m ≤ n) : Bits n x := Nat.le_trans h k
theorem Bits.mul {m n : Nat} {x y : Int} (h : Bits m x) (k : Bits n y) : Bits (m + n) (x * y) := intBits_mul_le h k
theorem Bits.add {m n : Nat} {x y : Int} (h : Bits m x) (k : Bits n y) : Bits (max m n + 1) (x + y) := intBits_add_le h k
theorem Bits.sub {m n : Nat} {x y : Int} (h : Bits m x) (k : Bits n y) : Bits (max m n + 1) (x - y) := intBits_sub_le h k
theorem Bits.neg {m : Nat} {x : Int} (h : Bits m x) : Bits m (-x) := intBits_neg_le h
theorem Bits.abs {m : Nat} {x y : Int} (h : Bits m y) (k : x.natAbs ≤ y.natAbs) : Bits m x := intBits_le_of_natAbs k h
theorem mulOk {a b : Int} {m n : Nat} (ha : Bits m a) (hb : Bits n b) (h : m + n ≤ 134217728) : IntMulOk a b := by
  unfold IntMulOk
  intro q
  have q3 := (Bool.and_eq_true_iff.mp q).2
  have q4 : ((intBits a : Int) + (intBits b : Int)) > (bitsLine : Int) := of_decide_eq_true q3
  rw [bitsLine_eq] at q4
  have h1 : intBits a ≤ m := ha
  have h2 : intBits b ≤ n := hb
  omega
section
variable {X : Cx}
theorem op_mulB : OpR X (binaryOp .Mult) (rI IntMulOk fun i j => .int (i * j)) := opI fun _ _ _ _ _ _ _ hc q => mul_int q hc
theorem op_fdivB : OpR X (binaryOp .FloorDiv) (rI (fun _ j => 0 < j ∧ Bits 9000 j) fun i j => .int (i / j)) := opI fun i j _ _ _ _ _ hc q => by
  have h1 : (0 : Int) < j := hc.1
  have h2 : j.natAbs < 2 ^ 9000 := hc.2.lt
  refine floordiv_int (by omega) (by rw [Int.fdiv_eq_ediv_of_nonneg i (by omega)]; exact q) (.inl (PyProof.noPylong_of_log2 ?_))
  exact (Nat.log2_lt (by omega)).mpr h2
theorem pe_powc {a b c : Int} {j j' : Nat} {p p' pos : Pos} (h : 0 ≤ b ∧ b ≤ 1000000 ∧ a.natAbs < 2 ^ 64 ∧ a ^ b.toNat = c) :
    PE X (.BinOp (.Constant (.int a) j p) .Pow (.Constant (.int b) j' p') pos) (tC (.int c)) := fun pins s σ H Q I hq =>
  pe_op op_pow pe_int pe_int pins s σ H Q I ⟨a, b, rfl, rfl, ⟨h.1, h.2.1, h.2.2.1⟩, by show Q (V.int (a ^ b.toNat)) H; rw [h.2.2.2]; exact hq⟩
theorem call_intB : CallR X (.type "int") (fun xs H Q => ∃ k, xs = [.bl k] ∧ Q (.int (if k = true then 1 else 0)) H) := by
  intro pins s σ H xs us Q I r h
  obtain ⟨k, rfl, q⟩ := h
  exact call_int1 pins s σ H [.bl k] us Q I r (.inr ⟨k, rfl, q⟩)
theorem call_isinst : CallR X (.builtin "isinstance") (fun xs H Q => ∃ x n t b, xs = [x, .ty n] ∧ TyOf X.K H x t ∧ PySem.W.kitOne X.K t (.type n) = some b ∧ Q (.bl b) H) := by
  intro pins s σ H xs us Q I r h
  obtain ⟨x, n, t, b, rfl, ty, e, q⟩ := h
  obtain ⟨u, w', rfl, rx, ry⟩ := vals2 r
  obtain rfl : w' = Value.type n := ry
  exact isinst_ok I rx ty e fun tk => ⟨.bl b, H, I.tok _, rfl, q⟩
end
def Ok (P : Program) (w : World) (K : PySem.W.Frag) (mg : Str → Option Value) (base : Heap) (n : Nat) (x : Str) (ps : List Str) (sp : Sp) : Prop :=
  ∃ f fd, FnOk P w K mg base CX0 n f fd ps sp ∧ Binds K fd ps [] ∧ PySem.W.keepIn K (.ref f) = true ∧ mg x = some (.ref f)
def Has (K : PySem.W.Frag) (mg : Str → Option Value) (x : Str) (st : Stmt) (ps : List Str) : Prop :=
  ∃ f fd, Fun K x x st f fd ∧ Binds K fd ps [] ∧ mg x = some (.ref f)
section
variable {P : Program} {w : World} {K : PySem.W.Frag} {mg : Str → Option Value} {base : Heap}
theorem Has.fn {x : Str} {st : Stmt} {N ps : List Str} {k : Nat} {sp : Sp} (h : Has K mg x st ps) (S : FnScope N ps (defScope st)) (len : ∀ vs H Q E, sp vs H Q E → vs.length = ps.length)
    (hbody : ∀ (f : Addr) (cdv : Value) (A : Around) (outer : List Env) (s : Shared) (H : Hp) (vs : List V) (Q : VK) (E : XK), Room k (A.deeper (envOfC x (defScope st) s.heap.objs.size f cdv)) → sp vs H Q E →
      ∃ t, PSs (cxOf CX0 P w K mg base N x (defScope st) f cdv A outer s H E).nox (defBody st) t ∧ t { nx := fun _ H' => Q .non H', rt := Q } (start N vs) H) : Ok P w K mg base (k + 1) x ps sp := by
  obtain ⟨f, fd, F, b, m⟩ := h
  exact ⟨f, fd, F.ok S len (hbody f), b, F.kp, m⟩
theorem Ok.mono {x : Str} {ps : List Str} {sp : Sp} {j k : Nat} (F : Ok P w K mg base j x ps sp) (h : j ≤ k) : Ok P w K mg base k x ps sp := by
  obtain ⟨f, fd, F, b, kp, m⟩ := F
  exact ⟨f, fd, F.mono h, b, kp, m⟩
end
theorem pe_callN {X : Cx} {n : Nat} {x : Str} {ps : List Str} {sp : Sp} {e : Expr} {es : List Expr} {t : TA} {p pos : Pos} (F : Ok X.prog X.w X.K X.mg X.base n x ps sp) (hr : Room n X.A) (hg : Gl X x) (ha : PA X (e :: es) t)
    (hdb : (x == ("__debug__" : Str)) = false := by decide) (he : starEach (e :: es) X.env = (false, eval e X.env) :: starEach es X.env := by rfl) (hpl : (backTo pos (starEach es X.env)).any (·.1) = false := by rfl) :
    PE X (.Call (.Name x p) (e :: es) [] pos) (tCall sp [] E0 t) := by
  obtain ⟨f, fd, F, b, kp, m⟩ := F
  exact pe_call F hr hg m kp b .nil pass0 ha hdb he hpl
theorem same_new {H : Hp} {p : Addr} (h : H p = none) (o : HO) : Same H (upd H p o) := fun b u q => by rw [upd_ne (ne_of_none q h)]; exact q
theorem Same.tup {H H' : Hp} (e : Same H H') {a : Addr} {xs : List V} (h : H a = some (.tup xs)) : H' a = some (.tup xs) := e _ _ h
theorem small10 {n : Nat} (h : n ≤ 1000) : n ≤ sizeLine := Nat.le_of_lt (small1000 h)
theorem ofPys_ints : ∀ ns : List Int, PySem.W.ofPys (ns.map PyData.int) = ns.map PySem.W.WData.int
  | [] => rfl
  | n :: ns => by
    show _ :: PySem.W.ofPys (ns.map PyData.int) = _ :: ns.map PySem.W.WData.int
    rw [ofPys_ints ns]
    rfl
theorem has_ints (ns : List Int) : Shape.has (.list .int) (.list (ns.map PyData.int)) = true := by
  show ((ns.map PyData.int).all fun x => Shape.has .int x) = true
  rw [List.all_map]
  exact List.all_eq_true.mpr fun _ _ => rfl
theorem script_bits {ns : List Int} (h : PySem.W.WData.layableAll [PySem.W.WData.list (ns.map PySem.W.WData.int)] = true) : ∀ n ∈ ns, Bits 1048576 n := fun n hn => by
  have h1 := (PySem.W.layW_cons h).1
  have e : PySem.W.WData.list (ns.map PySem.W.WData.int) = PySem.W.ofPy (.list (ns.map PyData.int)) := by
    show _ = PySem.W.WData.list (PySem.W.ofPys (ns.map PyData.int))
    rw [ofPys_ints]
  rw [e] at h1
  have h2 := PySem.W.lay0_ofPy (s := .list .int) rfl (has_ints ns) h1
  exact intBits_le_of_item hn (by simpa [PyData.layableAll0] using h2)
end L2
namespace Att
open PySem PySem.W PySem.Calls PyProof.Rows
theorem attach_callB {l : OpenLaw} {n : Nat} {q : Program} {loose : List Str} {XP : (Str → Option Value) → Heap → Prop} {YP : World → Heap → Prop} {d : DefRec}
    (hn : l.most = some n) (hdf : d.params.defaults = [])
    (call : ∀ (w : World) (s₀ s₁ : Shared) (mg mb : Str → Option Value) (fa : Addr) (a : Addr) (vs : List Value) (ns : List Int),
      Ground q loose [] XP w s₀ mg mb s₁.heap → YP w s₁.heap → mg d.name = some (.ref fa) →
      s₁.heap.get? a = some { cls := .type "list", data := .seq vs.toArray } → IntsAre vs ns → ns.length ≤ n → (∀ x ∈ ns, L2.Bits 1048576 x) → s₁.gens = #[] →
      codeAny (model l.prog w) callerA (.call (.ref fa) ⟨[.ref a], []⟩) (fun r s' => r = .ok (.ret (.bool true)) ∧ OldK s₁.heap s'.heap ∧ s'.os = s₁.os ∧ AllBare s'.gens) s₁) :
    WalkO q loose XP YP l.row.toRowW d [] (fun f vs => PySem.call f vs) := by
  intro w s₀ s₁ mg mb G Y fa o pm cd doc dV kV ho hd hcd hD hmg hg args vals as hpre hlay hrd hwl hlo
  obtain rfl : dV = .none := Dflts.none hD hdf
  obtain rfl : kV = .none := Dflts.noKw hD
  obtain ⟨a, vs, ns, rfl, rfl, hobj, hints, hlen⟩ := script_of hn hpre hwl
  refine enter_call (codeAny_mono (call w s₀ s₁ mg mb fa a vs ns G Y hmg hobj hints hlen (L2.script_bits hlay) hg) fun r s' hq => ?_)
  obtain ⟨rfl, h2, h3, h4⟩ := hq
  exact ⟨.inl ⟨.bool true, .bool true, [], rfl, fun _ => rfl, .bool true, post_true l _, fun _ => ⟨List.Pairwise.nil, fun _ hm => (nomatch hm)⟩⟩, h2, h3, h4⟩
end Att
namespace L2
open PySem PySem.Spec PyProof.Rows
def spLaw (K : PySem.W.Frag) : Sp := fun vs H Q _ => ∃ (a : Addr) (ns : List Int), vs = [.ref a] ∧ SqL K H a (ns.map V.int) ∧ ns.length ≤ 63 ∧ (∀ n ∈ ns, Bits 1048576 n) ∧ ∀ H', Q (.bl true) H'
theorem walk_ofB {l : PySem.W.OpenLaw} {k : Nat} {q : Program} {loose : List Str} {XP : (Str → Option Value) → Heap → Prop} {YP : World → Heap → Prop} {d : DefRec} {K : Params → PySem.W.Frag} {x : Str}
    (hn : l.most = some 63) (hdf : d.params.defaults = []) (hr : Room k callerA) (hY : ∀ (w : World) (h : Heap), YP w h → (K w.params).In h)
    (F : ∀ (w : World) (mg : Str → Option Value) (fa : Addr) (h : Heap), (K w.params).In h → h.Ns mainGlobals mg → mg d.name = some (.ref fa) →
      ∃ fd : FuncData, (∀ (s : Shared) (u : Value), BindsTo s fd ⟨[u], []⟩ [(x, u)]) ∧
        ∀ base : Heap, (K w.params).In base → base.Ns mainGlobals mg → FnOk l.prog w (K w.params) mg base CX0 k fa fd [x] (spLaw (K w.params))) :
    PySem.W.WalkO q loose XP YP l.row.toRowW d [] (fun f vs => PySem.call f vs) := by
  refine Att.attach_callB hn hdf fun w s₀ s₁ mg mb fa a vs ns G Y hmg hobj hints hlen hbits hg => ?_
  have KX := hY w _ Y
  obtain ⟨fd, hb, hF⟩ := F w mg fa _ KX G.T.g hmg
  exact law_call KX G.T.g G.T.b G.T.builtins G.T.nolimit hg hobj hints (Nat.le_trans hlen (by decide)) hr hF hb (fun H hO hS => ⟨a, ns, rfl, hS, hlen, hbits, fun _ => rfl⟩) fun H e s' h => h.elim
end L2
namespace L2
open PySem PySem.Spec PyProof.Rows
theorem iteP {c A B : Prop} [Decidable c] (h : c) (a : A) : if c then A else B := by rw [if_pos h]; exact a
theorem bits_lt {m : Nat} {a b : Int} (h : b ≤ 2 ^ m) (h1 : -b < a) (h2 : a < b) : Bits m a := by
  refine bits_of ?_
  have e : ((2 ^ m : Nat) : Int) = 2 ^ m := by simp
  omega
theorem item_get {ns : List Int} {k : Int} (h0 : 0 ≤ k) (hk : k.toNat < ns.length) : atI (ns.map V.int) k = some (.int ns[k.toNat]) := by
  have q : atI (ns.map V.int) ((k.toNat : Nat) : Int) = some (.int ns[k.toNat]) := atI_nat (by rw [List.getElem?_map, List.getElem?_eq_getElem hk] <;> rfl)
  have ek : ((k.toNat : Nat) : Int) = k := by omega
  rw [ek] at q
  exact q
theorem item_at {ns : List Int} {k : Int} (h0 : 0 ≤ k) (h : k < (ns.length : Int)) : ∃ v : Int, atI (ns.map V.int) k = some (.int v) := ⟨_, item_get h0 (by omega)⟩
end L2
namespace L2
open PySem PySem.Spec PyProof.Rows DD
theorem hu16_of {A : Around} {k : Nat} (hr : Room k A) : A.units + 16 < cLine := by have := hr.units; omega
theorem hu9_of {A : Around} {k : Nat} (hr : Room k A) : A.units + 9 < cLine := by have := hr.units; omega
section
variable {X : Cx}
end
theorem kit_of (K : PySem.W.Frag) (a b : String) (r : Bool) (h : (if (Value.type a == Value.type b) = true then some true else if PySem.W.kitMeta b = true then (PySem.fastBuiltinMro a).map (·.contains (Value.type b)) else none) = some r) : PySem.W.kitOne K (.type a) (.type b) = some r := h
theorem kit_ss (K : PySem.W.Frag) : PySem.W.kitOne K (.type "str") (.type "str") = some true := kit_of K _ _ _ (by decide +kernel)
end L2
namespace Fm
open DD PySem
abbrev T := List (D × Int)
def prodD (l : List (Str × Int)) : D := ofL (l.map fun p => ofL [.str p.1, .int p.2])
def lts (a b : Str) : Prop := a.cps.toList < b.cps.toList
def IsProd (d : D) : Prop := ∃ l : List (Str × Int), d = prodD l ∧ l.Pairwise (fun a b => lts a.1 b.1) ∧ (∀ p ∈ l, 1 ≤ p.2) ∧ l.length ≤ 1000
def pairD (p : D × Int) : D := ofL [p.1, .int p.2]
theorem dep_prod : ∀ l : List (Str × Int), dep (prodD l) ≤ 2
  | [] => by decide
  | a :: l => by
    show max (dep (ofL [.str a.1, .int a.2]) + 1) (dep (prodD l)) ≤ 2
    have := dep_prod l
    have e : dep (ofL [.str a.1, .int a.2]) = 1 := rfl
    omega
theorem pure_prod : ∀ l : List (Str × Int), pure_ (prodD l) = true
  | [] => rfl
  | a :: l => by
    show (pure_ (ofL [.str a.1, .int a.2]) && pure_ (prodD l)) = true
    rw [pure_prod l]
    rfl
theorem IsProd.dep {d : D} (h : IsProd d) : DD.dep d ≤ 2 := by obtain ⟨l, rfl, _⟩ := h; exact dep_prod l
theorem IsProd.pure {d : D} (h : IsProd d) : pure_ d = true := by obtain ⟨l, rfl, _⟩ := h; exact pure_prod l
def tot (ps : T) (k : D) : Int := (ps.map fun p => if p.1 = k then p.2 else 0).sum
theorem tot_nil (k : D) : tot [] k = 0 := rfl
theorem tot_cons (p : D × Int) (ps : T) (k : D) : tot (p :: ps) k = (if p.1 = k then p.2 else 0) + tot ps k := by simp [tot]
theorem tot_append (a b : T) (k : D) : tot (a ++ b) k = tot a k + tot b k := by simp [tot, List.map_append, List.sum_append]
def setI (t : T) (k : D) (v : Int) : T := if (t.any fun p => decide (p.1 = k)) = true then t.map (fun p => if p.1 = k then (p.1, v) else p) else t ++ [(k, v)]
def Nk (t : T) : Prop := (t.map (·.1)).Nodup
theorem any_key {t : T} {k : D} : (t.any fun p => decide (p.1 = k)) = true ↔ k ∈ t.map (·.1) := by
  rw [List.any_eq_true, List.mem_map]
  constructor
  · rintro ⟨p, h1, h2⟩; exact ⟨p, h1, of_decide_eq_true h2⟩
  · rintro ⟨p, h1, h2⟩; exact ⟨p, h1, decide_eq_true h2⟩
theorem tot_no {t : T} {k : D} (h : k ∉ t.map (·.1)) : tot t k = 0 := by
  induction t with
  | nil => rfl
  | cons p t ih =>
    rw [List.map_cons, List.mem_cons, not_or] at h
    rw [tot_cons, if_neg (fun e => h.1 e.symm), ih h.2, Int.zero_add]
theorem setI_keys (t : T) (k : D) (v : Int) : (setI t k v).map (·.1) = if k ∈ t.map (·.1) then t.map (·.1) else t.map (·.1) ++ [k] := by
  unfold setI
  by_cases c : k ∈ t.map (·.1)
  · rw [if_pos (any_key.mpr c), if_pos c, List.map_map]
    refine List.map_congr_left fun p _ => ?_
    show (if p.1 = k then (p.1, v) else p).1 = p.1
    split <;> rfl
  · rw [if_neg (fun z => c (any_key.mp z)), if_neg c, List.map_append]
    rfl
theorem setI_nk {t : T} (n : Nk t) (k : D) (v : Int) : Nk (setI t k v) := by
  unfold Nk
  rw [setI_keys]
  split
  · exact n
  · rename_i c
    exact List.nodup_append.mpr ⟨n, by simp, fun a ha b hb => by rw [List.mem_singleton.mp hb]; exact fun e => c (e ▸ ha)⟩
theorem setI_len (t : T) (k : D) (v : Int) : (setI t k v).length ≤ t.length + 1 := by
  unfold setI
  split
  · rw [List.length_map]; omega
  · rw [List.length_append]; simp
theorem setI_mem {t : T} {k : D} {v : Int} {x : D} (h : x ∈ (setI t k v).map (·.1)) : x ∈ t.map (·.1) ∨ x = k := by
  rw [setI_keys] at h
  split at h
  · exact .inl h
  · rcases List.mem_append.mp h with z | z
    · exact .inl z
    · exact .inr (List.mem_singleton.mp z)
theorem tot_setI {t : T} (n : Nk t) (k : D) (v : Int) (x : D) : tot (setI t k v) x = if x = k then v else tot t x := by
  unfold setI
  by_cases c : k ∈ t.map (·.1)
  · rw [if_pos (any_key.mpr c)]
    have go : ∀ t : T, Nk t → (k ∈ t.map (·.1) → tot (t.map fun p => if p.1 = k then (p.1, v) else p) x = if x = k then v else tot t x) ∧ (k ∉ t.map (·.1) → tot (t.map fun p => if p.1 = k then (p.1, v) else p) x = tot t x) := by
      intro t
      induction t with
      | nil => intro _; exact ⟨fun z => (by cases z), fun _ => rfl⟩
      | cons p t ih =>
        intro n
        unfold Nk at n
        rw [List.map_cons, List.nodup_cons] at n
        obtain ⟨i1, i2⟩ := ih n.2
        constructor
        · intro z
          rw [List.map_cons, tot_cons, tot_cons]
          by_cases e : p.1 = k
          · have nk : k ∉ t.map (·.1) := e ▸ n.1
            rw [i2 nk, if_pos e]
            by_cases ex : x = k
            · subst ex
              rw [if_pos rfl, if_pos e, tot_no nk, Int.add_zero]
            · rw [if_neg ex]
              have : ¬ p.1 = x := fun h => ex (h.symm.trans e)
              rw [if_neg this, if_neg this]
          · have zk : k ∈ t.map (·.1) := (List.mem_cons.mp z).resolve_left fun h => e h.symm
            rw [i1 zk, if_neg e]
            by_cases ex : x = k
            · subst ex
              rw [if_pos rfl, if_pos rfl, if_neg e, Int.zero_add]
            · rw [if_neg ex, if_neg ex]
        · intro z
          rw [List.map_cons, List.mem_cons, not_or] at z
          have e : (if p.1 = k then (p.1, v) else p) = p := if_neg fun h => z.1 h.symm
          rw [List.map_cons, e, tot_cons, tot_cons, i2 z.2]
    exact (go t n).1 c
  · rw [if_neg (fun z => c (any_key.mp z)), tot_append, tot_cons, tot_nil, Int.add_zero]
    by_cases ex : x = k
    · subst ex
      rw [if_pos rfl, if_pos rfl, tot_no c, Int.zero_add]
    · rw [if_neg ex, if_neg (fun h => ex h.symm), Int.add_zero]
def IsForm (ps F : T) : Prop := F.Pairwise (fun a b => lt a.1 b.1 = true) ∧ ∀ k v, (k, v) ∈ F ↔ v ≠ 0 ∧ v = tot ps k
end Fm
namespace L2
open PySem PySem.Spec PyProof.Rows DD
theorem comp_list {K : PySem.W.Frag} {a D : Addr} {xs : List V} {g : TG} {tt : TT} {te : TE} {τ : St} {H : Hp} {Q : VK} (Pv : Nat → St → Hp → Prop) (h0 : Pv 0 τ H) (hl : ∀ i τ H, i ≤ xs.length → Pv i τ H → SqL K H a xs)
    (hs : ∀ i x τ H, xs[i]? = some x → Pv i τ H → g x τ H fun τ2 H3 => tt τ2 H3 fun b H4 => if b = true then te τ2 H4 fun y H5 => ∃ ys, H5 D = some (.lst ys) ∧ ys.length < sizeLine ∧ Pv (i + 1) τ2 (upd H5 D (.lst (ys ++ [y]))) else Pv (i + 1) τ2 H4)
    (hd : ∀ τ H, Pv xs.length τ H → Q (.ref D) H) :
    CompGo (Itl K a) D g tt te Q τ H := by
  refine ⟨fun i m τ H => m = xs.length - i ∧ i ≤ xs.length ∧ Pv i τ H, ⟨xs.length, by simp, Nat.zero_le _, h0⟩, ?_⟩
  rintro i m τ H2 ⟨rfl, hi, p⟩
  have q := hl i τ H2 hi p
  by_cases hlt : i < xs.length
  · exact .inr ⟨⟨xs, xs[i], q, by simp [hlt]⟩, Pv (i + 1), fun τ' H' p' => ⟨xs.length - (i + 1), by omega, rfl, hlt, p'⟩, fun x H' ⟨e, y⟩ => by subst e; exact hs i x τ _ (y xs q) p⟩
  · obtain rfl : i = xs.length := by omega
    exact .inl ⟨⟨xs, q, Nat.le_refl _⟩, hd τ H2 p⟩
def New (H H2 : Hp) (D : Addr) (o : HO) : Prop := Same H H2 ∧ H D = none ∧ H2 D = some o
theorem New.mk {H : Hp} {D : Addr} {o : HO} (h : H D = none) : New H (upd H D o) D o := ⟨same_new h o, h, upd_same⟩
theorem New.set {H H2 H3 : Hp} {D : Addr} {o u : HO} (n : New H H2 D o) (s : Same H2 H3) : New H (upd H3 D u) D u := ⟨fun b x e => by rw [upd_ne (ne_of_none e n.2.1)]; exact s b x (n.1 b x e), n.2.1, upd_same⟩
theorem New.keep {H H2 H3 : Hp} {D : Addr} {o : HO} (n : New H H2 D o) (s : Same H2 H3) : New H H3 D o := ⟨n.1.trans s, n.2.1, s _ _ n.2.2⟩
theorem dv_upd {H : Hp} {D : Addr} {o u : HO} (h : H D = some o) (nt : ∀ xs, o ≠ .tup xs) {d : DD.D} {v : V} (z : DV H d v) : DV (upd H D u) d v := z.mono fun b xs e => by
  rw [upd_ne (ne_of e h (fun q => nt xs q.symm))]
  exact e
theorem all_dv {H H' : Hp} (k : ∀ (d : DD.D) (v : V), DV H d v → DV H' d v) {ds : List DD.D} {ys : List V} (h : All2 (DV H) ds ys) : All2 (DV H') ds ys := All2.imp (fun a b z => k a b z) h
theorem All2.snoc {α β : Type} {R : α → β → Prop} {a : α} {b : β} : ∀ {l : List α} {r : List β}, All2 R l r → R a b → All2 R (l ++ [a]) (r ++ [b])
  | _, _, .nil, h => .cons h .nil
  | _, _, .cons z t, h => .cons z (All2.snoc t h)
theorem dv_pair {H : Hp} {p : DD.D × Int} {v : V} : DV H (Fm.pairD p) v ↔ ∃ a x, v = .ref a ∧ H a = some (.tup [x, .int p.2]) ∧ DV H p.1 x := by
  unfold Fm.pairD
  rw [dv_tup]
  constructor
  · rintro ⟨a, vs, rfl, h, al⟩
    cases al with
    | cons h1 t =>
      cases t with
      | cons h2 t =>
        cases t
        rename_i x y
        obtain rfl : y = .int p.2 := by simpa only [DV] using h2
        exact ⟨a, x, rfl, h, h1⟩
  · rintro ⟨a, x, rfl, h, h1⟩
    exact ⟨a, _, rfl, h, .cons h1 (.cons (by simp only [DV]) .nil)⟩
theorem dv_prod_ref {H : Hp} {d : DD.D} {v : V} (h : Fm.IsProd d) (z : DV H d v) : ∃ b, v = .ref b ∧ DKey H d b := by
  have hd := h.dep
  have hp := h.pure
  obtain ⟨l, rfl, _⟩ := h
  unfold Fm.prodD at *
  obtain ⟨b, _, rfl, _⟩ := dv_tup.mp z
  exact ⟨b, rfl, z, hp, by omega⟩
theorem nd_ {l : List Str} (h : l.Nodup) : l.Nodup := h
theorem pg_tupK {X : Cx} {K : PySem.W.Frag} {es : List Expr} {k : Nat} {t : TGs} {n : Nat} {pos : Pos} (hK : X.K = K) (hc : X.calm = true) (h : PGs X es t)
    (hn : (assignEach es X.env).length = n := by rfl) (hst : (assignEach es X.env).findIdx? (·.1) = none := by rfl) : PG X (.Tuple es k pos) (gTup K n t) := by
  subst hK
  exact pg_tup hc h hn hst
end L2
namespace Fm
open DD PySem
def tx (l : List Nat) : Str := ⟨l.toArray⟩
def abc : Str := "abcdefghijklmnopqrstuvwxyz"
theorem abc_at : ∀ k : Fin 26, abc.cps.toList[k.val]? = some (97 + k.val) := by decide +kernel
theorem abc_len : abc.length = 26 := by decide +kernel
theorem turned {l : List Nat} {k c : Nat} (h : k < l.length) (hc : c ≠ l[k]) : (l.take k ++ [c] ++ l.drop (k + 1)).length = l.length ∧ l.take k ++ [c] ++ l.drop (k + 1) ≠ l := by
  constructor
  · simp; omega
  · intro e
    have : (l.take k ++ [c] ++ l.drop (k + 1))[k]? = l[k]? := by rw [e]
    rw [List.append_assoc, List.getElem?_append_right (by simp; omega), List.getElem?_eq_getElem h] at this
    rw [show k - (l.take k).length = 0 by simp; omega] at this
    simp at this
    exact hc this
def partD (p : Str × Int) : D := ofL [.str p.1, .int p.2]
end Fm
namespace DD
open PySem PySem.SeqAt PySem.W PyProof.Rows PySem.Calls
section
variable {prog : Program} {w : World} {A : Around} {E : Value → Shared → Prop} {s : Shared} {a : Addr} {o : Obj} {its : Array Value} {n : Nat}
end
section
variable {prog : Program} {w : World} {A : Around} {E : Value → Shared → Prop} {s : Shared} {K : Type} [DecidableEq K] {knd : KeyKind prog w K}
end
end DD
namespace L2
open PySem PySem.Spec PyProof.Rows DD
section
variable {X : Cx}
end
end L2
namespace Fm
open DD PySem L2
def pw (a : Int) : Nat → Int
  | 0 => 1
  | n + 1 => pw a n * a
theorem pw_add (a : Int) (n m : Nat) : pw a (n + m) = pw a n * pw a m := by
  induction m with
  | zero => show pw a n = pw a n * 1; rw [Int.mul_one]
  | succ m ih => show pw a (n + m) * a = pw a n * (pw a m * a); rw [ih, Int.mul_assoc]
def mon (pt : Str → Int) : List (Str × Int) → Int
  | [] => 1
  | p :: l => pw (pt p.1) p.2.toNat * mon pt l
def deg : List (Str × Int) → Int
  | [] => 0
  | p :: l => p.2 + deg l
theorem mon_app (pt : Str → Int) : ∀ l r : List (Str × Int), mon pt (l ++ r) = mon pt l * mon pt r
  | [], r => (Int.one_mul _).symm
  | p :: l, r => by
    show pw (pt p.1) p.2.toNat * mon pt (l ++ r) = pw (pt p.1) p.2.toNat * mon pt l * mon pt r
    rw [mon_app pt l r, Int.mul_assoc]
theorem deg_app : ∀ l r : List (Str × Int), deg (l ++ r) = deg l + deg r
  | [], r => (Int.zero_add _).symm
  | p :: l, r => by
    show p.2 + deg (l ++ r) = p.2 + deg l + deg r
    rw [deg_app l r, Int.add_assoc]
theorem len_deg : ∀ {l : List (Str × Int)}, (∀ p ∈ l, 1 ≤ p.2) → (l.length : Int) ≤ deg l
  | [], _ => Int.le_refl _
  | p :: l, h => by
    have h1 := h p List.mem_cons_self
    have h2 := len_deg (l := l) fun q hq => h q (List.mem_cons_of_mem _ hq)
    show ((l.length + 1 : Nat) : Int) ≤ p.2 + deg l
    omega
def getS : List (Str × Int) → Str → Int
  | [], _ => 0
  | p :: t, k => if p.1 = k then p.2 else getS t k
def addS : List (Str × Int) → Str → Int → List (Str × Int)
  | [], k, n => [(k, n)]
  | p :: t, k, n => if p.1 = k then (k, p.2 + n) :: t else p :: addS t k n
abbrev pk (p : Str × Int) : Key × V := (.inr p.1, .int p.2)
theorem addS_mon (pt : Str → Int) (k : Str) {n : Int} (hn : 0 ≤ n) : ∀ {t : List (Str × Int)}, (∀ p ∈ t, 1 ≤ p.2) → mon pt (addS t k n) = mon pt t * pw (pt k) n.toNat
  | [], _ => by show pw (pt k) n.toNat * 1 = 1 * pw (pt k) n.toNat; rw [Int.mul_one, Int.one_mul]
  | p :: t, h => by
    unfold addS
    have h1 := h p List.mem_cons_self
    split
    · rename_i e
      show pw (pt k) (p.2 + n).toNat * mon pt t = pw (pt p.1) p.2.toNat * mon pt t * pw (pt k) n.toNat
      rw [show (p.2 + n).toNat = p.2.toNat + n.toNat by omega, pw_add, e, Int.mul_assoc, Int.mul_assoc, Int.mul_comm (pw (pt k) n.toNat)]
    · show pw (pt p.1) p.2.toNat * mon pt (addS t k n) = pw (pt p.1) p.2.toNat * mon pt t * pw (pt k) n.toNat
      rw [addS_mon pt k hn fun q hq => h q (List.mem_cons_of_mem _ hq), Int.mul_assoc]
theorem addS_deg (k : Str) (n : Int) : ∀ t : List (Str × Int), deg (addS t k n) = deg t + n
  | [] => by show n + 0 = 0 + n; omega
  | p :: t => by
    unfold addS
    split
    · show p.2 + n + deg t = p.2 + deg t + n; omega
    · show p.2 + deg (addS t k n) = p.2 + deg t + n
      rw [addS_deg k n t]; omega
theorem addS_pos (k : Str) {n : Int} (hn : 1 ≤ n) : ∀ {t : List (Str × Int)}, (∀ p ∈ t, 1 ≤ p.2) → ∀ p ∈ addS t k n, 1 ≤ p.2
  | [], _, p, hp => by rw [List.mem_singleton.mp hp]; exact hn
  | q :: t, h, p, hp => by
    unfold addS at hp
    have h1 := h q List.mem_cons_self
    split at hp
    · rcases List.mem_cons.mp hp with e | hp
      · rw [e]; show 1 ≤ q.2 + n; omega
      · exact h p (List.mem_cons_of_mem _ hp)
    · rcases List.mem_cons.mp hp with e | hp
      · rw [e]; exact h1
      · exact addS_pos k hn (fun z hz => h z (List.mem_cons_of_mem _ hz)) p hp
theorem addS_names (k : Str) (n : Int) : ∀ {t : List (Str × Int)} {x : Str}, x ∈ (addS t k n).map (·.1) → x ∈ t.map (·.1) ∨ x = k
  | [], x, h => .inr (List.mem_singleton.mp h)
  | p :: t, x, h => by
    unfold addS at h
    split at h
    · rename_i e
      rw [List.map_cons] at h
      rcases List.mem_cons.mp h with e2 | h
      · exact .inr e2
      · exact .inl (by rw [List.map_cons]; exact List.mem_cons_of_mem _ h)
    · rw [List.map_cons] at h
      rcases List.mem_cons.mp h with e2 | h
      · exact .inl (by rw [e2, List.map_cons]; exact List.mem_cons_self)
      · exact (addS_names k n h).imp (fun z => by rw [List.map_cons]; exact List.mem_cons_of_mem _ z) id
theorem addS_nd (k : Str) (n : Int) : ∀ {t : List (Str × Int)}, (t.map (·.1)).Nodup → ((addS t k n).map (·.1)).Nodup
  | [], _ => by show [k].Nodup; simp
  | p :: t, h => by
    rw [List.map_cons, List.nodup_cons] at h
    unfold addS
    split
    · rename_i e
      rw [List.map_cons, List.nodup_cons]
      exact ⟨e ▸ h.1, h.2⟩
    · rename_i e
      rw [List.map_cons, List.nodup_cons]
      exact ⟨fun z => (addS_names k n z).elim h.1 e, addS_nd k n h.2⟩
theorem addS_len (k : Str) (n : Int) : ∀ t : List (Str × Int), (addS t k n).length ≤ t.length + 1
  | [] => Nat.le_refl _
  | p :: t => by
    unfold addS
    split
    · show t.length + 1 ≤ t.length + 1 + 1; omega
    · show (addS t k n).length + 1 ≤ t.length + 1 + 1
      have := addS_len k n t
      omega
def negT (ps : T) : T := ps.map fun p => (p.1, -p.2)
theorem form_key {ps F : T} (h : IsForm ps F) {p : D × Int} (hp : p ∈ F) : p.1 ∈ ps.map (·.1) := by
  have w := (h.2 p.1 p.2).mp hp
  exact Classical.byContradiction fun c => w.1 (w.2.trans (tot_no c))
def OkP (nms : List Str) (c : Int) (d : D) : Prop := ∃ l : List (Str × Int), d = prodD l ∧ l.Pairwise (fun a b => lts a.1 b.1) ∧ (∀ p ∈ l, 1 ≤ p.2 ∧ p.1 ∈ nms) ∧ deg l ≤ c
theorem OkP.isProd {nms : List Str} {c : Int} {d : D} (h : OkP nms c d) (hc : c ≤ 1000) : IsProd d := by
  obtain ⟨l, e, r, p, b⟩ := h
  have := len_deg fun q hq => (p q hq).1
  exact ⟨l, e, r, fun q hq => (p q hq).1, by omega⟩
end Fm
namespace L2
open PySem PySem.Spec PyProof.Rows DD
section
variable {X : Cx}
end
theorem comp_tup {K : PySem.W.Frag} {a D : Addr} {xs : List V} {g : TG} {tt : TT} {te : TE} {τ : St} {H : Hp} {Q : VK} (Pv : Nat → St → Hp → Prop) (h0 : Pv 0 τ H) (hl : ∀ i τ H, i ≤ xs.length → Pv i τ H → SqT K H a xs)
    (hs : ∀ i x τ H, xs[i]? = some x → Pv i τ H → g x τ H fun τ2 H3 => tt τ2 H3 fun b H4 => if b = true then te τ2 H4 fun y H5 => ∃ ys, H5 D = some (.lst ys) ∧ ys.length < sizeLine ∧ Pv (i + 1) τ2 (upd H5 D (.lst (ys ++ [y]))) else Pv (i + 1) τ2 H4)
    (hd : ∀ τ H, Pv xs.length τ H → Q (.ref D) H) :
    CompGo (Itt K a) D g tt te Q τ H := by
  refine ⟨fun i m τ H => m = xs.length - i ∧ i ≤ xs.length ∧ Pv i τ H, ⟨xs.length, by simp, Nat.zero_le _, h0⟩, ?_⟩
  rintro i m τ H2 ⟨rfl, hi, p⟩
  have q := hl i τ H2 hi p
  by_cases hlt : i < xs.length
  · exact .inr ⟨⟨xs, xs[i], q, by simp [hlt]⟩, Pv (i + 1), fun τ' H' p' => ⟨xs.length - (i + 1), by omega, rfl, hlt, p'⟩, fun x H' ⟨e, y⟩ => by subst e; exact hs i x τ _ (y xs q) p⟩
  · obtain rfl : i = xs.length := by omega
    exact .inl ⟨⟨xs, q, Nat.le_refl _⟩, hd τ H2 p⟩
theorem comp_tupY {K : PySem.W.Frag} {a D : Addr} {xs : List V} {g : TG} {te : TE} {τ : St} {H : Hp} {Q : VK} (Pv : Nat → St → Hp → Prop) (h0 : Pv 0 τ H) (hl : ∀ i τ H, i ≤ xs.length → Pv i τ H → SqT K H a xs)
    (hs : ∀ i x τ H, xs[i]? = some x → Pv i τ H → g x τ H fun τ2 H3 => te τ2 H3 fun y H5 => ∃ ys, H5 D = some (.lst ys) ∧ ys.length < sizeLine ∧ Pv (i + 1) τ2 (upd H5 D (.lst (ys ++ [y]))))
    (hd : ∀ τ H, Pv xs.length τ H → Q (.ref D) H) : CompGo (Itt K a) D g tYes te Q τ H := comp_tup Pv h0 hl (fun i x τ H hx p => by
  have z := hs i x τ H hx p
  simp only [tYes, ↓reduceIte]
  exact z) hd
theorem comp_listY {K : PySem.W.Frag} {a D : Addr} {xs : List V} {g : TG} {te : TE} {τ : St} {H : Hp} {Q : VK} (Pv : Nat → St → Hp → Prop) (h0 : Pv 0 τ H) (hl : ∀ i τ H, i ≤ xs.length → Pv i τ H → SqL K H a xs)
    (hs : ∀ i x τ H, xs[i]? = some x → Pv i τ H → g x τ H fun τ2 H3 => te τ2 H3 fun y H5 => ∃ ys, H5 D = some (.lst ys) ∧ ys.length < sizeLine ∧ Pv (i + 1) τ2 (upd H5 D (.lst (ys ++ [y]))))
    (hd : ∀ τ H, Pv xs.length τ H → Q (.ref D) H) : CompGo (Itl K a) D g tYes te Q τ H := comp_list Pv h0 hl (fun i x τ H hx p => by
  have z := hs i x τ H hx p
  simp only [tYes, ↓reduceIte]
  exact z) hd
end L2
namespace Fm
open DD PySem L2
theorem tot_nat (B : Nat) (k : D) : ∀ {ps : T}, (∀ p ∈ ps, p.2.natAbs ≤ B) → (tot ps k).natAbs ≤ ps.length * B
  | [], _ => by simp [tot]
  | p :: ps, h => by
    have h1 := h p List.mem_cons_self
    have h2 := tot_nat B k (ps := ps) fun q hq => h q (List.mem_cons_of_mem _ hq)
    rw [tot_cons, List.length_cons, Nat.succ_mul]
    split <;> omega
theorem form_nat {B : Nat} {ps F : T} (h : IsForm ps F) (hb : ∀ p ∈ ps, p.2.natAbs ≤ B) : ∀ p ∈ F, p.2.natAbs ≤ ps.length * B := fun p hp => by
  rw [((h.2 p.1 p.2).mp hp).2]
  exact tot_nat B p.1 hb
def OkF (nms : List Str) (c : Int) (B : Nat) (F : T) : Prop := ∀ p ∈ F, OkP nms c p.1 ∧ p.2.natAbs ≤ B
theorem OkF.form {nms : List Str} {c : Int} {B : Nat} {ps F : T} (h : OkF nms c B ps) (f : IsForm ps F) : OkF nms c (ps.length * B) F := fun p hp => ⟨by
  obtain ⟨q, hq, e⟩ := List.mem_map.mp (form_key f hp)
  rw [← e]
  exact (h q hq).1, form_nat f (fun q hq => (h q hq).2) p hp⟩
end Fm
namespace Fm
open DD PySem L2
abbrev pn (x : Str) : Key × V := (.inr x, .bl true)
def partsOf : D → List (Str × Int)
  | .cons (.cons (.str x) (.cons (.int n) _)) y => (x, n) :: partsOf y
  | _ => []
def powD (x : Str) (d : D) : Int := getS (partsOf d) x
def top (x : Str) : T → Int
  | [] => 0
  | p :: F => max (top x F) (powD x p.1)
end Fm
namespace Fm
open PySem
end Fm
namespace Fm
open DD PySem L2
end Fm
namespace L2
open PySem PySem.Spec PyProof.Rows DD
structure RowsAt (H H2 : Hp) (l : Addr) (rs : List Addr) (ts : List Fm.T) : Prop where
  same : Same H H2
  l0 : H l = none
  at_ : H2 l = some (.lst (rs.map V.ref))
  nd : rs.Nodup
  lr : l ∉ rs
  r0 : ∀ r ∈ rs, H r = none
  len : rs.length = ts.length
  row : ∀ (k : Nat) (h1 : k < rs.length) (h2 : k < ts.length), ∃ ws, H2 rs[k] = some (.lst ws) ∧ All2 (DV H2) (ts[k].map Fm.pairD) ws
theorem RowsAt.keep {H H2 H3 : Hp} {l : Addr} {rs : List Addr} {ts : List Fm.T} (R : RowsAt H H2 l rs ts) (s : Same H2 H3) : RowsAt H H3 l rs ts where
  same := R.same.trans s
  l0 := R.l0
  at_ := s _ _ R.at_
  nd := R.nd
  lr := R.lr
  r0 := R.r0
  len := R.len
  row := fun k h1 h2 => by
    obtain ⟨ws, e, al⟩ := R.row k h1 h2
    exact ⟨ws, s _ _ e, All2.imp (fun _ _ z => s.dv z) al⟩
end L2
namespace Fm
open DD PySem L2
end Fm
namespace Fm
open DD PySem L2
def sl : List T → Nat
  | [] => 0
  | t :: ts => t.length + sl ts
open Classical in
noncomputable def putD (nm : Str) (k : Nat) (d : D) : D := if k = 0 then d else if h : ∃ l : List (Str × Int), l.Pairwise (fun a b => lts a.1 b.1) ∧ l.Perm (partsOf d ++ [(nm, (k : Int))]) then prodD (choose h) else d
end Fm
namespace L2
open PySem PySem.Spec PyProof.Rows DD
end L2
set_option maxRecDepth 100000
namespace HT
open PySem PySem.SeqAt PySem.AutoSeq1 PyProof.Rows PySem.Spec
open PySem.MeetsSeq PySem.MeetsSeq2 PySem.MeetsSeq3
section
variable {prog : Program} {w : World} {A : Around} {E : Value → Shared → Prop} {s : Shared}
end
end HT
namespace L2
open PySem PySem.Spec PyProof.Rows DD
section
variable {X : Cx}
end
end L2
namespace L2
open PySem PySem.Spec PyProof.Rows DD
theorem cut_take (xs : List V) (k : Nat) : cutV xs none (some (k : Int)) = xs.take k := by
  unfold cutV
  have e1 : HT.sIx xs.length 0 none = 0 := rfl
  have e2 : HT.sIx xs.length xs.length (some (k : Int)) = min k xs.length := HT.sIx_nat _ _ k
  rw [e1, e2, List.drop_zero, Nat.sub_zero]
  by_cases h : k ≤ xs.length
  · rw [Nat.min_eq_left h]
  · rw [Nat.min_eq_right (by omega), List.take_length, List.take_of_length_le (by omega)]
theorem all2_take {α β : Type} {R : α → β → Prop} (k : Nat) {l : List α} {m : List β} (h : All2 R l m) : All2 R (l.take k) (m.take k) := by
  induction h generalizing k with
  | nil => rw [List.take_nil, List.take_nil]; exact .nil
  | cons h1 _ ih =>
    cases k with
    | zero => exact .nil
    | succ k => exact .cons h1 (ih k)
end L2
namespace L2
open PySem PySem.Spec PyProof.Rows DD
section
variable {P : Program} {w : World} {A : Around} {E : Value → Shared → Prop} {s : Shared}
end
theorem FpOk.upd {X : Cx} {pins : List (Addr × Obj)} {H : Hp} {b p : Addr} {o : HO} (f : FpOk X pins H b) (n : b ≠ p) : FpOk X pins (upd H p o) b := ⟨by rw [upd_ne n]; exact f.1, f.2⟩
end L2
namespace L2
open PySem PySem.Spec PyProof.Rows DD
end L2
namespace L2
open PySem PySem.Spec PyProof.Rows DD
end L2
namespace L2
open PySem PySem.Spec PyProof.Rows DD
section
variable {X : Cx}
theorem ps_compset {y : Str} {iy : Nat} {pos' pos2 : Pos} (hN : X.N.Nodup) (hiy : X.N[iy]? = some y) (hy : Loc X.env.scope y) {elt tg iter : Expr} {ifs : List Expr} {scope : Scope} {pos : Pos} {wi : TI} {g : TG} {tt : TT} {te : TE} (N' : List Str) (cm : List (Option Nat)) (hc : X.calm = true) (hi : PI X tg iter wi)
    (hg : ∀ cl C s H fp pins, PG (cxComp X N' scope cl C s H fp pins) tg g) (ht : ∀ cl C s H fp pins, PF (cxComp X N' scope cl C s H fp pins) ifs tt) (he : ∀ cl C s H fp pins, PE (cxComp X N' scope cl C s H fp pins) elt te)
    (hk : compOk X.env.scope scope X.N N' cm = true := by rfl) (hs : ∀ x, foldedSetIterable iter X.env x = pure x := by intro _; rfl)
    (hsw : swapsWith (.ListComp elt [⟨tg, iter, ifs, 0⟩] scope pos) (some (.Name y pos')) pos2.line X.env = pure true := by rfl) (hf : X.fn y = true ∨ X.env.scope.names.lookup y = some .local := by first | exact .inl rfl | exact .inr rfl | assumption) :
    PS X (.Assign [.Name y pos'] (.ListComp elt [⟨tg, iter, ifs, 0⟩] scope pos) pos2) (tAsg (tComp cm wi g tt te) (gName iy)) := by
  intro pins s σ H Dn I h
  have hk0 := hk
  unfold compOk at hk0
  simp only [Bool.and_eq_true, List.all_eq_true, beq_iff_eq, bne_iff_ne, Bool.or_eq_true] at hk0
  obtain ⟨⟨⟨⟨⟨k1, k2⟩, k3⟩, k4⟩, k5⟩, k6⟩ := hk0
  obtain ⟨cl, hclos, hcl1, hcl2⟩ := clos_ok (env := X.env) (scope := scope) (fun x hx hf => I.ok.has x.1 (by
    rcases k3 x hx with (z | z) | z
    · exact absurd hf z
    · exact .inl z
    · exact .inr z))
  rw [exec_Assign_Name_used _ _ _ _ hsw]
  refine wpAny_bind (wpAny_standAt (wpAny_bind ?_))
  refine wpAny_bind (m := comprehension _ _ _ _ _ _ _ _) (wpAny_mono (Q := fun _ s' => ∃ σ' H', Inv X pins σ' H' s' ∧ Dn.nx σ' H') ?_ (fun _ s' q => wpAny_pure (wpAny_pure q)) fun _ _ e => e)
  refine wpAny_comprehension_free (use := some (assign (.Name y pos') X.env)) rfl hs hclos k1 (fun x hx hl => (k4 x hx).elim (fun z => absurd hl z) id) (wpAny_mono (hi pins s σ H _ I h) (fun v s1 h1 => wpAny_mono h1 (fun itv s2 h2 => ?_) fun _ _ e => e) fun _ _ e => e)
  obtain ⟨it, fp, tn, J, H2, e, I2, T, st2, f2, h2⟩ := h2
  subst e
  have hDn : H2 s2.heap.objs.size = none := I2.hok.fresh (Nat.le_refl _)
  obtain ⟨W, ⟨m0, w0⟩, turn⟩ := h2 s2.heap.objs.size hDn
  refine wpAny_newObj_type ?_
  have I3 : Inv X pins σ (upd H2 s2.heap.objs.size (.lst [])) { s2 with heap := s2.heap.push { cls := .type "list", dict := none, data := .seq ([] : List Value).toArray } } := I2.lnew (t' := s2.toks) (its := []) .nil (Nat.zero_le _)
  have f3 : ∀ b ∈ fp, FpOk X pins (upd H2 s2.heap.objs.size (.lst [])) b := fun b hb => ⟨by
    obtain ⟨o, e, _⟩ := T.obj _ _ st2 b hb
    rw [upd_ne (Nat.ne_of_lt (Heap.lt_size e))]
    exact (f2 b hb).1, (f2 b hb).2⟩
  have st3 : tn 0 (s2.heap.push { cls := .type "list", dict := none, data := .seq ([] : List Value).toArray }) := T.keep _ _ _ st2 fun b _ o e => Heap.get?_push_of_some _ e
  generalize hs3 : ({ s2 with heap := s2.heap.push { cls := .type "list", dict := none, data := .seq ([] : List Value).toArray } } : Shared) = s3 at I3 ⊢
  have st3' : tn 0 s3.heap := by rw [← hs3]; exact st3
  generalize hH3 : upd H2 s2.heap.objs.size (.lst []) = H3 at I3 f3 w0
  generalize s2.heap.objs.size = D at *
  refine wpAny_newFunctionEnv (by intro y hy; exact k2 y hy) (by intro y hy; simp at hy) (fun h4 hns4 hsb4 => ?_) k1
  have kp4 : ∀ b o, s3.heap.get? b = some o → h4.get? b = some o := fun b o e => hsb4.extBut b o (Nat.ne_of_lt (Heap.lt_size e)) (Heap.get?_push_of_some _ e)
  have I4 := comp_start (N' := N') (scope := scope) (cl := cl) (C := s3.heap.objs.size) (cm := cm) (h' := h4) (t' := s3.toks + ([] : List (Str × Value)).length) I3 f3 hcl1 hcl2 hk (Nat.le_refl _) hns4 kp4 (fun b hb => by
    obtain ⟨o, e, _⟩ := T.obj _ _ st3' b hb
    exact ⟨o, e⟩)
  have st4 : tn 0 h4 := T.keep _ _ _ st3' fun b _ o e => kp4 b o e
  have sf : ∀ (Ha : Hp), (∀ b ∈ fp, Ha b = none) → ∀ b ∈ fp, FpOk (cxComp X N' scope cl s3.heap.objs.size s3 H3 fp pins) [] Ha b := fun Ha hn b hb => by
    refine ⟨hn b hb, (I4.ok.exf b hb).1, fun z => I4.ok.exfs b hb z, .inl hb, (I4.ok.exf b hb).2, fun p hp => ?_⟩
    have hp' : p ∈ X.pn ++ pins := by
      rcases List.mem_append.mp hp with hz | z
      · exact hz
      · simp at z
    exact (f3 b hb).2.2.2.2.2 p hp'
  have hcY : (cxComp X N' scope cl s3.heap.objs.size s3 H3 fp pins).calm = true := hc
  have loop : ∀ s4 : Shared, s4 = { s3 with heap := h4, toks := s3.toks + ([] : List (Str × Value)).length } →
      codeAny (model X.prog X.w) X.A (.compLoop (.ListComp elt [⟨tg, iter, ifs, 0⟩] scope pos) 0 (.ref it) (.ref D) (compEnvC scope cl s3.heap.objs.size X.env))
        (compPost (model X.prog X.w) X.A X.xe (some (assign (.Name y pos') X.env)) (fun _ s' => ∃ σ' H', Inv X pins σ' H' s' ∧ Dn.nx σ' H') (.ref D) s3.heap.objs.size) s4 := by
    rintro s4 rfl
    refine cturns (fun n s' => ∃ i τ H', Inv (cxComp X N' scope cl s3.heap.objs.size s3 H3 fp pins) [] τ H' s' ∧ tn i s'.heap ∧ (∀ b ∈ fp, H' b = none) ∧ W i n τ H') ?_ m0 ⟨0, cslots cm σ, H3, I4, st4, fun b hb => (f3 b hb).1, w0⟩
    rintro n s5 ⟨i, τ, H5, I5, st5, fr5, w5⟩
    rcases turn i n τ H5 w5 with ⟨stop, qn⟩ | ⟨go, N, hN, step⟩
    · refine thn (T.done (cxComp X N' scope cl s3.heap.objs.size s3 H3 fp pins) rfl rfl rfl hcY i [] s5 τ H5 (fun _ _ => False) I5 (sf H5 fr5) st5 stop) fun r s6 ⟨hr, I6⟩ => ?_
      subst hr
      obtain ⟨m, hm, _⟩ := I6.loc
      have IX : Inv X pins σ H5 s6 := comp_end (h' := s6.heap) I3 f3 I6 (Heap.SameBut.refl _ _)
      have fC : FpOk X pins H5 s3.heap.objs.size := I3.fpOk (Nat.le_refl _) I6.free
      refine wpAny_assign_Name (store_ok2 IX hN hiy hy (v := .ref D) rfl (fun s7 I7 ⟨a, sb, ha⟩ => ?_) hf)
      have ne : s3.heap.objs.size ≠ a := fun z => by
        rcases ha with ha | ha
        · exact fC.2.1 (z.trans ha)
        · exact fC.2.2.2.2.1 y a ha z.symm
      refine ⟨m, hm.sameBut sb ne, fun h' sc => ⟨_, H5, I7.turned (t' := s7.toks) (fun b o hb e => (sc.2 b hb).trans e) fC.1 fC.2.1 fC.2.2.2.1 fC.2.2.2.2.1 fC.2.2.2.2.2, qn⟩⟩
    · refine thn (T.item (cxComp X N' scope cl s3.heap.objs.size s3 H3 fp pins) rfl rfl rfl hcY i [] s5 τ H5 (fun _ _ => False) I5 (sf H5 fr5) st5 go) fun r s6 ⟨u, hr, h6⟩ => ?_
      subst hr
      refine thn h6 fun _ s7 ⟨x, H7, I7, r7, y7, st7, fr7⟩ => ?_
      have I7' := I7.pinned (sf H7 fr7) (T.obj _ _ st7)
      refine thn (hg cl s3.heap.objs.size s3 H3 fp pins _ s7 τ H7 x u _ I7' r7 (step x H7 y7)) fun _ s8 ⟨τ8, H8, I8, q8⟩ => ?_
      refine thn (ht cl s3.heap.objs.size s3 H3 fp pins _ s8 τ8 H8 _ I8 q8) fun ok s9 ⟨H9, I9, q9⟩ => ?_
      have again : ∀ {s' : Shared} {H' : Hp}, Inv (cxComp X N' scope cl s3.heap.objs.size s3 H3 fp pins) ([] ++ pinsAt fp s7.heap) τ8 H' s' → N τ8 H' → ∃ m, m < n ∧ ∃ i τ H', Inv (cxComp X N' scope cl s3.heap.objs.size s3 H3 fp pins) [] τ H' s' ∧ tn i s'.heap ∧ (∀ b ∈ fp, H' b = none) ∧ W i m τ H' := fun {s' H'} I' n' => by
        obtain ⟨m', hm, w'⟩ := hN τ8 H' n'
        refine ⟨m', hm, i + 1, τ8, H', I'.unpinned, T.keep _ _ _ st7 fun b hb o e => (I'.pin (b, o) (List.mem_append_right _ (List.mem_append_right _ (mem_pinsAt hb e)))).1, fun b hb => ?_, w'⟩
        obtain ⟨o, e, d⟩ := T.obj _ _ st7 b hb
        exact (I'.pin (b, o) (List.mem_append_right _ (List.mem_append_right _ (mem_pinsAt hb e)))).2.1
      cases ok with
      | false =>
        rw [if_neg Bool.false_ne_true] at q9
        rw [if_neg Bool.false_ne_true]
        exact again I9 q9
      | true =>
        rw [if_pos rfl] at q9
        rw [if_pos rfl]
        refine thn (he cl s3.heap.objs.size s3 H3 fp pins _ s9 τ8 H9 _ I9 q9) fun y s10 ⟨x10, H10, I10, r10, ys, hD, hz, q10⟩ => ?_
        refine thn (mt_append (X := cxComp X N' scope cl s3.heap.objs.size s3 H3 fp pins) _ s10 τ8 H10 (.ref D) [x10] (.ref D) [y] (fun _ H' => N τ8 H') I10 rfl (.cons r10 .nil) ⟨D, ys, x10, rfl, rfl, hD, hz, q10⟩) fun _ s11 ⟨v11, H11, I11, _, q11⟩ => ?_
        exact again I11 q11
  exact codeAny_compStart_list (loop _ rfl) (T.self X.A 0 _ _ _ st4 (loop _ rfl))
end
end L2
namespace L2
open PySem PySem.Spec PyProof.Rows DD
section
variable {prog : Program} {w : World} {A : Around} {E : Value → Shared → Prop} {s : Shared}
end
end L2
namespace L2
open PySem PySem.Spec PyProof.Rows DD
theorem ints_toks : ∀ {ns : List Int} {its : List Value}, Vals (ns.map V.int) its → ∃ ps : List (Int × Tok), its = ps.map (fun p => Value.int p.1 p.2) ∧ ns = ps.map (·.1)
  | [], _, h => by cases h; exact ⟨[], rfl, rfl⟩
  | n :: ns, _, h => by
    cases h with
    | cons r t =>
      obtain ⟨k, rfl⟩ := r
      obtain ⟨ps, rfl, rfl⟩ := ints_toks t
      exact ⟨(n, k) :: ps, rfl, rfl⟩
theorem call_max_list {X : Cx} (hc : X.calm = true) : CallR X (.builtin "max") (fun xs H Q => ∃ (l : Addr) (ns : List Int), xs = [.ref l] ∧ H l = some (.lst (ns.map V.int)) ∧ 0 < ns.length ∧ ∀ M, M ∈ ns → (∀ a ∈ ns, a ≤ M) → Q (.int M) H) := by
  intro pins s σ H xs us Q I r h
  obtain ⟨l, ns, rfl, hl, n0, q⟩ := h
  obtain ⟨u, rfl, rx⟩ := vals1 r
  cases rx
  obtain ⟨its, rv, p, _⟩ := I.list (SqL.of hl)
  obtain ⟨ps, rfl, rfl⟩ := ints_toks rv
  have hL : s.heap.IsList l (intItems ps.toArray) := by
    have e := p.isList
    unfold intItems
    rw [List.map_toArray]
    exact e
  rw [List.length_map] at n0
  refine max_intList (I.ok.hd hc) hL (by simpa using n0) fun v h' tk hv hk => ?_
  obtain ⟨t, rfl⟩ := intItems_at hv
  obtain ⟨h1, h2⟩ := argBest_gt (numAt ps.toArray) (ps.toArray.size - 1)
  have na : ∀ j, j < ps.length → numAt ps.toArray j = (ps.map (·.1))[j]?.getD 0 := fun j _ => by
    unfold numAt
    rw [List.getElem?_toArray, List.getElem?_map]
  generalize argBest (fun i j => decide (numAt ps.toArray i > numAt ps.toArray j)) (ps.toArray.size - 1) = b at h1 h2 ⊢
  have sz : ps.toArray.size = ps.length := List.size_toArray
  have hb : b < ps.length := by omega
  refine ⟨.int (numAt ps.toArray b), H, I.kept hk, ⟨t, rfl⟩, q _ ?_ fun a ha => ?_⟩
  · rw [na b hb, List.getElem?_eq_getElem (by rw [List.length_map]; exact hb)]
    exact List.getElem_mem _
  · obtain ⟨j, hj, rfl⟩ := List.getElem_of_mem ha
    rw [List.length_map] at hj
    have := h2 j (by omega)
    rw [na j hj, List.getElem?_eq_getElem (by rw [List.length_map]; exact hj)] at this
    exact this
end L2
namespace Rg
open PySem DD
abbrev Pr := Int × Int
def add (x y : Pr) : Pr := (x.1 + y.1, x.2 + y.2)
def mul (r : Int) (x y : Pr) : Pr := (x.1 * y.1 + x.2 * y.2 * r, x.1 * y.2 + x.2 * y.1)
def pw (r : Int) (x : Pr) : Nat → Pr
  | 0 => (1, 0)
  | n + 1 => mul r (pw r x n) x
theorem ext2 {x y : Pr} (h : x.1 = y.1) (k : x.2 = y.2) : x = y := by
  obtain ⟨a, b⟩ := x; obtain ⟨c, d⟩ := y; cases h; cases k; rfl
theorem mul_comm (r : Int) (x y : Pr) : mul r x y = mul r y x := by
  refine ext2 ?_ ?_ <;> simp only [mul, Int.mul_comm, Int.mul_left_comm, Int.add_comm]
theorem mul_assoc (r : Int) (x y z : Pr) : mul r (mul r x y) z = mul r x (mul r y z) := by
  refine ext2 ?_ ?_ <;> simp only [mul, Int.mul_add, Int.add_mul, Int.mul_assoc, Int.mul_comm, Int.mul_left_comm] <;> omega
theorem mul_one (r : Int) (x : Pr) : mul r x (1, 0) = x := by
  refine ext2 ?_ ?_ <;> simp only [mul, Int.mul_one, Int.mul_zero, Int.zero_mul, Int.add_zero, Int.zero_add]
theorem one_mul (r : Int) (x : Pr) : mul r (1, 0) x = x := by rw [mul_comm, mul_one]
theorem add_mul (r : Int) (x y z : Pr) : mul r (add x y) z = add (mul r x z) (mul r y z) := by
  refine ext2 ?_ ?_ <;> simp only [mul, add, Int.mul_add, Int.add_mul, Int.mul_assoc] <;> omega
theorem zero_mul (r : Int) (x : Pr) : mul r (0, 0) x = (0, 0) := by
  refine ext2 ?_ ?_ <;> simp only [mul, Int.zero_mul, Int.add_zero]
theorem add_zero (x : Pr) : add x (0, 0) = x := ext2 (Int.add_zero _) (Int.add_zero _)
theorem zero_add (x : Pr) : add (0, 0) x = x := ext2 (Int.zero_add _) (Int.zero_add _)
theorem add_comm (x y : Pr) : add x y = add y x := ext2 (Int.add_comm _ _) (Int.add_comm _ _)
theorem add_assoc (x y z : Pr) : add (add x y) z = add x (add y z) := ext2 (Int.add_assoc _ _ _) (Int.add_assoc _ _ _)
theorem pw_add (r : Int) (x : Pr) (n : Nat) : ∀ m : Nat, pw r x (n + m) = mul r (pw r x n) (pw r x m)
  | 0 => (mul_one r _).symm
  | m + 1 => by
    show mul r (pw r x (n + m)) x = mul r (pw r x n) (mul r (pw r x m) x)
    rw [pw_add r x n m, mul_assoc]
def scal (c : Int) (x : Pr) : Pr := (c * x.1, c * x.2)
theorem mul_int (r c : Int) (x : Pr) : mul r x (c, 0) = scal c x := by
  refine ext2 ?_ ?_ <;> simp only [mul, scal, Int.mul_zero, Int.zero_mul, Int.add_zero, Int.zero_add, Int.mul_comm]
abbrev Tb := List (D × Pr)
def getT : Tb → D → Option Pr
  | [], _ => none
  | p :: t, k => if p.1 = k then some p.2 else getT t k
def Bp (m : Nat) (x : Pr) : Prop := L2.Bits m x.1 ∧ L2.Bits m x.2
theorem Bp.mono {m n : Nat} {x : Pr} (h : Bp m x) (k : m ≤ n) : Bp n x := ⟨h.1.mono k, h.2.mono k⟩
theorem Bp.mul {m n c : Nat} {r : Int} {x y : Pr} (hx : Bp m x) (hy : Bp n y) (hr : L2.Bits c r) : Bp (m + n + c + 1) (mul r x y) :=
  ⟨((hx.1.mul hy.1).add ((hx.2.mul hy.2).mul hr)).mono (by omega), ((hx.1.mul hy.2).add (hx.2.mul hy.1)).mono (by omega)⟩
end Rg
namespace Mine
open PySem L2
open L2 DD
def PrAt (H : Hp) (a : Addr) (x : Rg.Pr) : Prop := H a = some (.tup [.int x.1, .int x.2])
def sg (n : Int) : Int := if n > 0 then 1 else if n < 0 then -1 else 0
structure Nb where
  p : Int
  q : Int
  r : Int
  s : Int
def NbAt (H : Hp) (a : Addr) (n : Nb) : Prop := H a = some (.tup [.int n.p, .int n.q, .int n.r, .int n.s])
structure NbOk (n : Nb) : Prop where
  bp : Bits 40 n.p
  bq : Bits 40 n.q
  br : Bits 40 n.r
  bs : Bits 40 n.s
  s0 : 0 < n.s
  r0 : 0 ≤ n.r
structure PtAt (H : Hp) (d : Addr) (kvs : List (Key × V)) (nms : List Str) (pt : Str → Nb) : Prop where
  at_ : H d = some (.dK kvs)
  rf : ∀ p ∈ kvs, ∃ c, p.2 = .ref c
  num : ∀ x ∈ nms, ∃ b, valV kvs (.inr x) = some (.ref b) ∧ NbAt H b (pt x) ∧ NbOk (pt x)
theorem PtAt.mono {H H' : Hp} {d : Addr} {kvs : List (Key × V)} {nms : List Str} {pt : Str → Nb} (h : PtAt H d kvs nms pt) (s : Same H H') : PtAt H' d kvs nms pt := ⟨s _ _ h.at_, h.rf, fun x hx => let ⟨b, h1, h2, h3⟩ := h.num x hx; ⟨b, h1, s _ _ h2, h3⟩⟩
def lead (nm : Str) : List (Str × Int) → Int
  | [] => 0
  | p :: _ => if p.1 = nm then p.2 else 0
def tail (nm : Str) : List (Str × Int) → List (Str × Int)
  | [] => []
  | p :: l => if p.1 = nm then l else p :: l
def TabV (H : Hp) (kvs : List (DD.D × V)) (t : Rg.Tb) : Prop := All2 (fun (kv : DD.D × V) (p : DD.D × Rg.Pr) => kv.1 = p.1 ∧ ∃ b, kv.2 = .ref b ∧ PrAt H b p.2) kvs t
theorem TabV.mono {H H' : Hp} {kvs : List (DD.D × V)} {t : Rg.Tb} (h : TabV H kvs t) (s : ∀ b xs, H b = some (.tup xs) → H' b = some (.tup xs)) : TabV H' kvs t := All2.imp (fun _ _ ⟨e, b, e2, h⟩ => ⟨e, b, e2, s _ _ h⟩) h
theorem TabV.get {H : Hp} (k : DD.D) {kvs : List (DD.D × V)} {t : Rg.Tb} (h : TabV H kvs t) : (Rg.getT t k = none ∧ valV kvs k = none) ∨ ∃ w b, Rg.getT t k = some w ∧ valV kvs k = some (.ref b) ∧ PrAt H b w := by
  unfold TabV at h
  induction h with
  | nil => exact .inl ⟨rfl, rfl⟩
  | @cons kv p l r h t ih =>
    obtain ⟨e, b, e2, hb⟩ := h
    by_cases c : p.1 = k
    · exact .inr ⟨p.2, b, if_pos c, by rw [valV_pos (e.trans c), e2], hb⟩
    · have g : Rg.getT (p :: r) k = Rg.getT r k := if_neg c
      rw [g, valV_neg (fun z => c (e.symm.trans z))]
      exact ih
def rr (pt : Str → Nb) : List (Str × Nat) → List (Str × Int) → Int
  | [], _ => 1
  | x :: xs, l => Fm.pw (pt x.1).s (x.2 - (lead x.1 l).toNat) * rr pt xs (tail x.1 l)
def kk (pt : Str → Nb) : List (Str × Nat) → Int
  | [] => 1
  | x :: xs => Fm.pw (pt x.1).s x.2 * kk pt xs
end Mine
namespace M
open PySem
open Builtin.Int (intBits)
def sgn (n : Int) : Int := if 0 < n then 1 else if n < 0 then -1 else 0
def ssum (one other apart : Int) : Int := if one = 0 then other else if other = 0 ∨ one = other then one else one * apart
def sOne (u v r : Int) : Int := ssum (sgn u) (sgn (v * r)) (sgn (u * u - v * v * r))
def sTwo (u v r w t : Int) : Int := ssum (sOne u v r) (sgn (w * t)) (sOne (u * u + v * v * r - w * w * t) (2 * u * v) r)
theorem sgn_pos {n : Int} (h : 0 < n) : sgn n = 1 := by unfold sgn; rw [if_pos h]
theorem sgn_neg {n : Int} (h : n < 0) : sgn n = -1 := by unfold sgn; rw [if_neg (by omega), if_pos h]
theorem sgn_zero : sgn 0 = 0 := by decide
theorem sgn_three (n : Int) : sgn n = -1 ∨ sgn n = 0 ∨ sgn n = 1 := by
  unfold sgn
  split
  · exact .inr (.inr rfl)
  · split
    · exact .inl rfl
    · exact .inr (.inl rfl)
theorem ssum_three {a b c : Int} (ha : a = -1 ∨ a = 0 ∨ a = 1) (hb : b = -1 ∨ b = 0 ∨ b = 1) (hc : c = -1 ∨ c = 0 ∨ c = 1) : ssum a b c = -1 ∨ ssum a b c = 0 ∨ ssum a b c = 1 := by
  rcases ha with rfl | rfl | rfl <;> rcases hb with rfl | rfl | rfl <;> rcases hc with rfl | rfl | rfl <;> decide
theorem sOne_three (u v r : Int) : sOne u v r = -1 ∨ sOne u v r = 0 ∨ sOne u v r = 1 := ssum_three (sgn_three _) (sgn_three _) (sgn_three _)
theorem sTwo_three (u v r w t : Int) : sTwo u v r w t = -1 ∨ sTwo u v r w t = 0 ∨ sTwo u v r w t = 1 := ssum_three (sOne_three _ _ _) (sgn_three _) (sOne_three _ _ _)
theorem sgn_mul_pos {v r : Int} (h : 0 < r) : sgn (v * r) = sgn v := by
  rcases Int.lt_trichotomy v 0 with hv | hv | hv
  · rw [sgn_neg hv, sgn_neg (Int.mul_neg_of_neg_of_pos hv h)]
  · subst hv; rw [Int.zero_mul]
  · rw [sgn_pos hv, sgn_pos (Int.mul_pos hv h)]
end M
namespace M
open PySem
theorem sq_nonneg (x : Int) : 0 ≤ x * x := by
  rcases Int.le_total 0 x with z | z
  · exact Int.mul_nonneg z z
  · have := Int.mul_nonneg (show 0 ≤ -x by omega) (show 0 ≤ -x by omega)
    rwa [Int.neg_mul_neg] at this
theorem sq_le {x y : Int} (h0 : 0 ≤ x) (h : x ≤ y) : x * x ≤ y * y := Int.mul_le_mul h h h0 (by omega)
theorem sq_neg_le {x y : Int} (h0 : x ≤ 0) (h : -x ≤ y) : x * x ≤ y * y := by
  have := sq_le (x := -x) (y := y) (by omega) h
  rwa [Int.neg_mul_neg] at this
theorem le_sq_neg {x y : Int} (h0 : 0 ≤ y) (h : y ≤ -x) : y * y ≤ x * x := by
  have := sq_le (x := y) (y := -x) h0 h
  rwa [Int.neg_mul_neg] at this
theorem sgn_nonneg {n : Int} (h : 0 ≤ n) : 0 ≤ sgn n := by
  unfold sgn; split
  · decide
  · split
    · omega
    · decide
theorem ssum_le {a b c : Int} (ha : a = -1) (hb : b = 0 ∨ b = -1 ∨ (b = 1 ∧ c = 1)) : ssum a b c < 0 := by
  subst ha
  rcases hb with rfl | rfl | ⟨rfl, rfl⟩ <;> simp [ssum]
theorem sq_pos {x : Int} (h : x ≠ 0) : 0 < x * x := by
  rcases Int.lt_trichotomy x 0 with z | z | z
  · exact Int.mul_pos_of_neg_of_neg z z
  · exact absurd z h
  · exact Int.mul_pos z z
theorem sOne_ge {x q r : Int} (hr : 0 ≤ r) (h : (0 ≤ x ∧ (0 ≤ q ∨ q * q * r ≤ x * x)) ∨ (x < 0 ∧ 0 ≤ q ∧ x * x ≤ q * q * r)) : 0 ≤ sOne x q r := by
  rcases h with ⟨hx, h⟩ | ⟨hx, hq, h⟩
  · rcases Int.lt_or_eq_of_le hr with r0 | r0
    · rcases Int.lt_trichotomy q 0 with q0 | q0 | q0
      · have hn : q * q * r ≤ x * x := by
          rcases h with h | h
          · omega
          · exact h
        have hp : 0 < q * q * r := Int.mul_pos (sq_pos (by omega)) r0
        have x0 : 0 < x := by
          rcases Int.lt_or_eq_of_le hx with z | z
          · exact z
          · subst z; simp at hn; omega
        unfold sOne
        rw [sgn_mul_pos r0, sgn_neg q0, sgn_pos x0]
        have := sgn_nonneg (n := x * x - q * q * r) (by omega)
        show 0 ≤ ssum 1 (-1) _
        simp [ssum]; exact this
      · subst q0
        unfold sOne
        rw [Int.zero_mul, sgn_zero]
        have := sgn_nonneg hx
        unfold ssum; split
        · exact Int.le_refl 0
        · rw [if_pos (.inl rfl)]; exact this
      · unfold sOne
        rw [sgn_mul_pos r0, sgn_pos q0]
        rcases Int.lt_or_eq_of_le hx with z | z
        · rw [sgn_pos z]; simp [ssum]
        · subst z; rw [sgn_zero]; simp [ssum]
    · subst r0
      unfold sOne
      rw [Int.mul_zero, sgn_zero]
      have := sgn_nonneg hx
      unfold ssum; split
      · exact Int.le_refl 0
      · rw [if_pos (.inl rfl)]; exact this
  · have hp : 0 < q * q * r := by
      have := sq_pos (x := x) (by omega)
      omega
    have r0 : 0 < r := by
      rcases Int.lt_or_eq_of_le hr with z | z
      · exact z
      · subst z; simp at hp
    have q0 : 0 < q := by
      rcases Int.lt_or_eq_of_le hq with z | z
      · exact z
      · subst z; simp at hp
    unfold sOne
    rw [sgn_mul_pos r0, sgn_pos q0, sgn_neg hx]
    rcases Int.lt_or_eq_of_le h with z | z
    · rw [sgn_neg (by omega)]; simp [ssum]
    · rw [z, Int.sub_self, sgn_zero]; simp [ssum]
theorem sOne_lt {x q r : Int} (hr : 0 ≤ r) (h : (x < 0 ∧ (q ≤ 0 ∨ q * q * r < x * x)) ∨ (0 ≤ x ∧ q < 0 ∧ x * x < q * q * r)) : sOne x q r < 0 := by
  rcases h with ⟨hx, h⟩ | ⟨hx, hq, h⟩
  · unfold sOne
    refine ssum_le (sgn_neg hx) ?_
    rcases h with h | h
    · rcases Int.lt_or_eq_of_le hr with r0 | r0
      · rcases Int.lt_or_eq_of_le h with z | z
        · exact .inr (.inl (sgn_neg (Int.mul_neg_of_neg_of_pos z r0)))
        · subst z; rw [Int.zero_mul]; exact .inl sgn_zero
      · subst r0; rw [Int.mul_zero]; exact .inl sgn_zero
    · have e : sgn (x * x - q * q * r) = 1 := sgn_pos (by omega)
      rw [e]
      rcases sgn_three (q * r) with z | z | z
      · exact .inr (.inl z)
      · exact .inl z
      · exact .inr (.inr ⟨z, rfl⟩)
  · have hp : 0 < q * q * r := by
      have := sq_nonneg x
      omega
    have r0 : 0 < r := by
      rcases Int.lt_or_eq_of_le hr with z | z
      · exact z
      · subst z; simp at hp
    unfold sOne
    rw [sgn_mul_pos r0, sgn_neg hq, sgn_neg (n := x * x - q * q * r) (by omega)]
    rcases Int.lt_or_eq_of_le hx with z | z
    · rw [sgn_pos z]; simp [ssum]
    · subst z; rw [sgn_zero]; simp [ssum]
def IsRt (g n : Int) : Prop := 0 ≤ g ∧ g * g ≤ n ∧ n < (g + 1) * (g + 1)
def Part (q r G : Int) : Prop := ∃ g, IsRt g (q * q * r) ∧ ((0 ≤ q ∧ G = g) ∨ (q < 0 ∧ g * g = q * q * r ∧ G = -g) ∨ (q < 0 ∧ g * g ≠ q * q * r ∧ G = -g - 1))
theorem part_ge {q r G x : Int} (hr : 0 ≤ r) (hp : Part q r G) (h : -G ≤ x) : 0 ≤ sOne x q r := by
  obtain ⟨g, ⟨g0, g1, g2⟩, c⟩ := hp
  refine sOne_ge hr ?_
  rcases c with ⟨hq, rfl⟩ | ⟨hq, e, rfl⟩ | ⟨hq, e, rfl⟩
  · by_cases hx : 0 ≤ x
    · exact .inl ⟨hx, .inl hq⟩
    · have := sq_neg_le (x := x) (y := G) (by omega) (by omega)
      exact .inr ⟨by omega, hq, by omega⟩
  · have := sq_le (x := g) (y := x) g0 (by omega)
    exact .inl ⟨by omega, .inr (by omega)⟩
  · have := sq_le (x := g + 1) (y := x) (by omega) (by omega)
    exact .inl ⟨by omega, .inr (by omega)⟩
theorem part_lt {q r G x : Int} (hr : 0 ≤ r) (hp : Part q r G) (h : x < -G) : sOne x q r < 0 := by
  obtain ⟨g, ⟨g0, g1, g2⟩, c⟩ := hp
  refine sOne_lt hr ?_
  rcases c with ⟨hq, rfl⟩ | ⟨hq, e, rfl⟩ | ⟨hq, e, rfl⟩
  · have := le_sq_neg (x := x) (y := G + 1) (by omega) (by omega)
    exact .inl ⟨by omega, .inr (by omega)⟩
  · by_cases hx : 0 ≤ x
    · have := sq_le (x := x) (y := g - 1) hx (by omega)
      have e2 : (g - 1) * (g - 1) = g * g - 2 * g + 1 := by
        simp only [Int.mul_sub, Int.sub_mul, Int.mul_one, Int.one_mul]; omega
      exact .inr ⟨hx, hq, by omega⟩
    · exact .inl ⟨by omega, .inl (by omega)⟩
  · by_cases hx : 0 ≤ x
    · have := sq_le (x := x) (y := g) hx (by omega)
      exact .inr ⟨hx, hq, by omega⟩
    · exact .inl ⟨by omega, .inl (by omega)⟩
theorem floor_ok {p q r s G : Int} (hr : 0 ≤ r) (hs : 0 < s) (hp : Part q r G) :
    0 ≤ sOne (p - (p + G) / s * s) q r ∧ sOne (p - ((p + G) / s + 1) * s) q r < 0 := by
  have e : s * ((p + G) / s) + (p + G) % s = p + G := Int.mul_ediv_add_emod (p + G) s
  have r0 : 0 ≤ (p + G) % s := Int.emod_nonneg _ (by omega)
  have r1 : (p + G) % s < s := Int.emod_lt_of_pos _ hs
  rw [Int.mul_comm] at e
  generalize (p + G) / s = f at *
  refine ⟨part_ge hr hp (by omega), part_lt hr hp ?_⟩
  rw [Int.add_mul, Int.one_mul]
  omega
theorem le_sq {g : Int} (h : 0 < g) : g ≤ g * g := by
  have := Int.mul_le_mul_of_nonneg_left (show 1 ≤ g by omega) (show 0 ≤ g by omega)
  omega
end M
namespace M
def NN (r x y : Int) : Prop := (0 ≤ x ∧ y * y * r ≤ x * x) ∨ (0 ≤ y ∧ x * x ≤ y * y * r)
theorem abs_of_sq {a b : Int} (hb : 0 ≤ b) (h : a * a ≤ b * b) : -b ≤ a ∧ a ≤ b := by
  constructor
  · apply Int.not_lt.mp
    intro q
    have := Int.mul_le_mul (show b + 1 ≤ -a by omega) (show b + 1 ≤ -a by omega) (by omega) (by omega)
    grind
  · apply Int.not_lt.mp
    intro q
    have := Int.mul_le_mul (show b + 1 ≤ a by omega) (show b + 1 ≤ a by omega) (by omega) (by omega)
    grind
theorem nn_iff {r x y : Int} (hr : 0 ≤ r) : 0 ≤ sOne x y r ↔ NN r x y := by
  constructor
  · intro h
    by_cases q : NN r x y
    · exact q
    · exfalso
      have : sOne x y r < 0 := by
        refine sOne_lt hr ?_
        unfold NN at q
        by_cases hx : 0 ≤ x
        · right
          refine ⟨hx, ?_, ?_⟩ <;> grind
        · left
          refine ⟨by omega, ?_⟩
          by_cases hy : y ≤ 0
          · exact .inl hy
          · right
            grind
      omega
  · intro h
    refine sOne_ge hr ?_
    rcases h with ⟨h1, h2⟩ | ⟨h1, h2⟩
    · exact .inl ⟨h1, .inr h2⟩
    · by_cases hx : 0 ≤ x
      · exact .inl ⟨hx, .inl h1⟩
      · exact .inr ⟨by omega, h1, h2⟩
theorem sgn_opp (n : Int) : sgn (-n) = -sgn n := by
  unfold sgn
  split <;> split <;> omega
theorem sOne_opp (x y r : Int) : sOne (-x) (-y) r = -sOne x y r := by
  unfold sOne
  have e1 : -x * -x - -y * -y * r = x * x - y * y * r := by grind
  rw [sgn_opp, e1, show -y * r = -(y * r) by grind, sgn_opp]
  unfold ssum
  have h1 := sgn_three x
  have h2 := sgn_three (y * r)
  rcases h1 with h1 | h1 | h1 <;> rcases h2 with h2 | h2 | h2 <;> rw [h1, h2] <;> simp
theorem nn_add {r x y z w : Int} (hr : 0 ≤ r) (h1 : NN r x y) (h2 : NN r z w) : NN r (x + z) (y + w) := by
  rcases h1 with ⟨a1, a2⟩ | ⟨a1, a2⟩ <;> rcases h2 with ⟨b1, b2⟩ | ⟨b1, b2⟩
  · left
    have k := Int.mul_le_mul a2 b2 (Int.mul_nonneg (sq_nonneg w) hr) (sq_nonneg x)
    have k2 := abs_of_sq (a := y * w * r) (b := x * z) (Int.mul_nonneg a1 b1) (by grind)
    exact ⟨by omega, by grind⟩
  ·
    have tot : (y + w) * (y + w) * r ≤ (x + z) * (x + z) ∨ (x + z) * (x + z) ≤ (y + w) * (y + w) * r := by omega
    by_cases hS : 0 ≤ x + z
    · by_cases hT : 0 ≤ y + w
      · rcases tot with q | q
        · exact .inl ⟨hS, q⟩
        · exact .inr ⟨hT, q⟩
      · refine .inl ⟨hS, ?_⟩
        apply Int.not_lt.mp
        intro q
        have p1 := Int.mul_nonneg (show 0 ≤ -(y + w) by omega) b1
        have p2 := Int.mul_nonneg p1 hr
        by_cases hz : 0 ≤ z
        · have m1 := Int.mul_le_mul (show -(y + w) ≤ -y by omega) (show -(y + w) ≤ -y by omega) (by omega) (by omega)
          have m2 := Int.mul_le_mul_of_nonneg_right m1 hr
          have m3 := Int.mul_le_mul (show x ≤ x + z by omega) (show x ≤ x + z by omega) a1 hS
          grind
        · have k := Int.mul_le_mul (Int.le_of_lt q) b2 (sq_nonneg z) (Int.mul_nonneg (sq_nonneg _) hr)
          have k2 := abs_of_sq (a := (x + z) * -z) (b := -(y + w) * w * r) p2 (by grind)
          grind
    · have hT : 0 ≤ y + w := by
        apply Int.not_lt.mp
        intro q
        have m1 := Int.mul_le_mul (show w ≤ -y by omega) (show w ≤ -y by omega) b1 (by omega)
        have m2 := Int.mul_le_mul_of_nonneg_right m1 hr
        have m3 := Int.mul_le_mul (show x + 1 ≤ -z by omega) (show x + 1 ≤ -z by omega) (by omega) (by omega)
        grind
      refine .inr ⟨hT, ?_⟩
      apply Int.not_lt.mp
      intro q
      by_cases hy : 0 ≤ y
      · have m1 := Int.mul_le_mul (show w ≤ y + w by omega) (show w ≤ y + w by omega) b1 hT
        have m2 := Int.mul_le_mul_of_nonneg_right m1 hr
        have m3 := Int.mul_le_mul (show -(x + z) ≤ -z by omega) (show -(x + z) ≤ -z by omega) (by omega) (by omega)
        grind
      · have p1 := Int.mul_nonneg (show 0 ≤ -(x + z) by omega) a1
        have k := Int.mul_le_mul (Int.le_of_lt q) a2 (Int.mul_nonneg (sq_nonneg y) hr) (sq_nonneg _)
        have k2 := abs_of_sq (a := (y + w) * -y * r) (b := -(x + z) * x) p1 (by grind)
        grind
  · have tot : (y + w) * (y + w) * r ≤ (x + z) * (x + z) ∨ (x + z) * (x + z) ≤ (y + w) * (y + w) * r := by omega
    by_cases hS : 0 ≤ x + z
    · by_cases hT : 0 ≤ y + w
      · rcases tot with q | q
        · exact .inl ⟨hS, q⟩
        · exact .inr ⟨hT, q⟩
      · refine .inl ⟨hS, ?_⟩
        apply Int.not_lt.mp
        intro q
        have p1 := Int.mul_nonneg (show 0 ≤ -(y + w) by omega) a1
        have p2 := Int.mul_nonneg p1 hr
        by_cases hz : 0 ≤ x
        · have m1 := Int.mul_le_mul (show -(y + w) ≤ -w by omega) (show -(y + w) ≤ -w by omega) (by omega) (by omega)
          have m2 := Int.mul_le_mul_of_nonneg_right m1 hr
          have m3 := Int.mul_le_mul (show z ≤ x + z by omega) (show z ≤ x + z by omega) b1 hS
          grind
        · have k := Int.mul_le_mul (Int.le_of_lt q) a2 (sq_nonneg x) (Int.mul_nonneg (sq_nonneg _) hr)
          have k2 := abs_of_sq (a := (x + z) * -x) (b := -(y + w) * y * r) p2 (by grind)
          grind
    · have hT : 0 ≤ y + w := by
        apply Int.not_lt.mp
        intro q
        have m1 := Int.mul_le_mul (show y ≤ -w by omega) (show y ≤ -w by omega) a1 (by omega)
        have m2 := Int.mul_le_mul_of_nonneg_right m1 hr
        have m3 := Int.mul_le_mul (show z + 1 ≤ -x by omega) (show z + 1 ≤ -x by omega) (by omega) (by omega)
        grind
      refine .inr ⟨hT, ?_⟩
      apply Int.not_lt.mp
      intro q
      by_cases hy : 0 ≤ w
      · have m1 := Int.mul_le_mul (show y ≤ y + w by omega) (show y ≤ y + w by omega) a1 hT
        have m2 := Int.mul_le_mul_of_nonneg_right m1 hr
        have m3 := Int.mul_le_mul (show -(x + z) ≤ -x by omega) (show -(x + z) ≤ -x by omega) (by omega) (by omega)
        grind
      · have p1 := Int.mul_nonneg (show 0 ≤ -(x + z) by omega) b1
        have k := Int.mul_le_mul (Int.le_of_lt q) b2 (Int.mul_nonneg (sq_nonneg w) hr) (sq_nonneg _)
        have k2 := abs_of_sq (a := (y + w) * -w * r) (b := -(x + z) * z) p1 (by grind)
        grind
  · right
    have k := Int.mul_le_mul a2 b2 (sq_nonneg z) (Int.mul_nonneg (sq_nonneg y) hr)
    have k2 := abs_of_sq (a := x * z) (b := y * w * r) (Int.mul_nonneg (Int.mul_nonneg a1 b1) hr) (by grind)
    exact ⟨by omega, by grind⟩
theorem nn_mul {r x y z w : Int} (hr : 0 ≤ r) (h1 : NN r x y) (h2 : NN r z w) : NN r (x * z + y * w * r) (x * w + y * z) := by
  have norm : (x * z + y * w * r) * (x * z + y * w * r) - (x * w + y * z) * (x * w + y * z) * r = (x * x - y * y * r) * (z * z - w * w * r) := by grind
  rcases h1 with ⟨a1, a2⟩ | ⟨a1, a2⟩ <;> rcases h2 with ⟨b1, b2⟩ | ⟨b1, b2⟩
  · left
    have k := Int.mul_le_mul a2 b2 (Int.mul_nonneg (sq_nonneg w) hr) (sq_nonneg x)
    have k2 := abs_of_sq (a := y * w * r) (b := x * z) (Int.mul_nonneg a1 b1) (by grind)
    have k3 := Int.mul_nonneg (show 0 ≤ x * x - y * y * r by omega) (show 0 ≤ z * z - w * w * r by omega)
    exact ⟨by omega, by omega⟩
  · right
    have k3 := Int.mul_nonneg (show 0 ≤ x * x - y * y * r by omega) (show 0 ≤ w * w * r - z * z by omega)
    have k4 : (x * x - y * y * r) * (z * z - w * w * r) = -((x * x - y * y * r) * (w * w * r - z * z)) := by grind
    refine ⟨?_, by omega⟩
    by_cases h0 : r = 0
    · subst h0
      have z0 := abs_of_sq (a := z) (b := 0) (by omega) (by omega)
      have : z = 0 := by omega
      subst this
      have := Int.mul_nonneg a1 b1
      omega
    · have k := Int.mul_le_mul a2 b2 (sq_nonneg z) (sq_nonneg x)
      have e : (x * w * (x * w) - y * z * (y * z)) * r = x * x * (w * w * r) - y * y * r * (z * z) := by grind
      have : 0 ≤ x * w * (x * w) - y * z * (y * z) := by
        apply Int.not_lt.mp
        intro q
        have := Int.mul_neg_of_neg_of_pos q (show 0 < r by omega)
        omega
      have k2 := abs_of_sq (a := y * z) (b := x * w) (Int.mul_nonneg a1 b1) (by omega)
      omega
  · right
    have k3 := Int.mul_nonneg (show 0 ≤ y * y * r - x * x by omega) (show 0 ≤ z * z - w * w * r by omega)
    have k4 : (x * x - y * y * r) * (z * z - w * w * r) = -((y * y * r - x * x) * (z * z - w * w * r)) := by grind
    refine ⟨?_, by omega⟩
    by_cases h0 : r = 0
    · subst h0
      have z0 := abs_of_sq (a := x) (b := 0) (by omega) (by omega)
      have : x = 0 := by omega
      subst this
      have := Int.mul_nonneg a1 b1
      omega
    · have k := Int.mul_le_mul a2 b2 (Int.mul_nonneg (sq_nonneg w) hr) (Int.mul_nonneg (sq_nonneg y) hr)
      have e : (y * z * (y * z) - x * w * (x * w)) * r = y * y * r * (z * z) - x * x * (w * w * r) := by grind
      have : 0 ≤ y * z * (y * z) - x * w * (x * w) := by
        apply Int.not_lt.mp
        intro q
        have := Int.mul_neg_of_neg_of_pos q (show 0 < r by omega)
        omega
      have k2 := abs_of_sq (a := x * w) (b := y * z) (Int.mul_nonneg a1 b1) (by omega)
      omega
  · left
    have k := Int.mul_le_mul a2 b2 (sq_nonneg z) (Int.mul_nonneg (sq_nonneg y) hr)
    have k2 := abs_of_sq (a := x * z) (b := y * w * r) (Int.mul_nonneg (Int.mul_nonneg a1 b1) hr) (by grind)
    have k3 := Int.mul_nonneg (show 0 ≤ y * y * r - x * x by omega) (show 0 ≤ w * w * r - z * z by omega)
    have k4 : (x * x - y * y * r) * (z * z - w * w * r) = (y * y * r - x * x) * (w * w * r - z * z) := by grind
    exact ⟨by omega, by omega⟩
theorem one_lt {r x y : Int} (hr : 0 ≤ r) : sOne x y r < 0 ↔ ¬ NN r x y := by
  rw [← nn_iff hr]
  omega
theorem one_gt {r x y : Int} (hr : 0 ≤ r) : 0 < sOne x y r ↔ ¬ NN r (-x) (-y) := by
  rw [← nn_iff hr, sOne_opp]
  omega
theorem nn_flat {r k : Int} (hk : 0 ≤ k) : NN r k 0 := .inl ⟨hk, by have := sq_nonneg k; omega⟩
theorem nn_flat' {r k : Int} (h : NN r k 0) : 0 ≤ k := by
  rcases h with ⟨h, _⟩ | ⟨_, h⟩
  · exact h
  · have := abs_of_sq (a := k) (b := 0) (by omega) (by omega)
    omega
theorem nn_up {r x y k : Int} (hr : 0 ≤ r) (h : NN r x y) (hk : 0 ≤ k) : NN r (x + k) y := by
  have := nn_add hr h (nn_flat hk)
  rwa [Int.add_zero] at this
theorem nn_sub {r x y z w : Int} (hr : 0 ≤ r) (h : ¬ NN r x y) (h2 : NN r z w) : ¬ NN r (x - z) (y - w) := fun q => h (by
  have := nn_add hr q h2
  rwa [show x - z + z = x by omega, show y - w + w = y by omega] at this)
theorem nn_scale {r x y k : Int} (h : NN r x y) (hk : 0 ≤ k) : NN r (k * x) (k * y) := by
  have kk := sq_nonneg k
  rcases h with ⟨a, b⟩ | ⟨a, b⟩
  · left
    have := Int.mul_le_mul_of_nonneg_left b kk
    exact ⟨Int.mul_nonneg hk a, by grind⟩
  · right
    have := Int.mul_le_mul_of_nonneg_left b kk
    exact ⟨Int.mul_nonneg hk a, by grind⟩
theorem nn_tot {r x y : Int} (hr : 0 ≤ r) : NN r x y ∨ NN r (-x) (-y) := by
  rw [← nn_iff hr, ← nn_iff hr, sOne_opp]
  omega
abbrev tri : List Int := [-1, 0, 1]
theorem mem_tri {a : Int} (h : a = -1 ∨ a = 0 ∨ a = 1) : a ∈ tri := by
  rcases h with rfl | rfl | rfl <;> decide
theorem ssum_ge_ : ∀ a ∈ tri, ∀ b ∈ tri, ∀ c ∈ tri, ((0 ≤ a ∧ 0 ≤ b) ∨ (a < 0 ∧ 0 < b ∧ c ≤ 0) ∨ (0 < a ∧ b < 0 ∧ 0 ≤ c)) → (0 ≤ ssum a b c) := by decide
theorem ssum_ge {a b c : Int} (ha : a = -1 ∨ a = 0 ∨ a = 1) (hb : b = -1 ∨ b = 0 ∨ b = 1) (hc : c = -1 ∨ c = 0 ∨ c = 1) (h : (0 ≤ a ∧ 0 ≤ b) ∨ (a < 0 ∧ 0 < b ∧ c ≤ 0) ∨ (0 < a ∧ b < 0 ∧ 0 ≤ c)) : 0 ≤ ssum a b c := ssum_ge_ a (mem_tri ha) b (mem_tri hb) c (mem_tri hc) h
theorem ssum_lt_ : ∀ a ∈ tri, ∀ b ∈ tri, ∀ c ∈ tri, ((a < 0 ∧ b ≤ 0) ∨ (a ≤ 0 ∧ b < 0) ∨ (a < 0 ∧ 0 < b ∧ 0 < c) ∨ (0 < a ∧ b < 0 ∧ c < 0)) → (ssum a b c < 0) := by decide
theorem ssum_lt {a b c : Int} (ha : a = -1 ∨ a = 0 ∨ a = 1) (hb : b = -1 ∨ b = 0 ∨ b = 1) (hc : c = -1 ∨ c = 0 ∨ c = 1) (h : (a < 0 ∧ b ≤ 0) ∨ (a ≤ 0 ∧ b < 0) ∨ (a < 0 ∧ 0 < b ∧ 0 < c) ∨ (0 < a ∧ b < 0 ∧ c < 0)) : ssum a b c < 0 := ssum_lt_ a (mem_tri ha) b (mem_tri hb) c (mem_tri hc) h
theorem ssum_lt'_ : ∀ a ∈ tri, ∀ b ∈ tri, ∀ c ∈ tri, (ssum a b c < 0) → ((a < 0 ∧ b ≤ 0) ∨ (a < 0 ∧ 0 < b ∧ 0 < c) ∨ (a = 0 ∧ b < 0) ∨ (0 < a ∧ b < 0 ∧ (a = b ∨ c < 0))) := by decide
theorem ssum_lt' {a b c : Int} (ha : a = -1 ∨ a = 0 ∨ a = 1) (hb : b = -1 ∨ b = 0 ∨ b = 1) (hc : c = -1 ∨ c = 0 ∨ c = 1) (h : ssum a b c < 0) : (a < 0 ∧ b ≤ 0) ∨ (a < 0 ∧ 0 < b ∧ 0 < c) ∨ (a = 0 ∧ b < 0) ∨ (0 < a ∧ b < 0 ∧ (a = b ∨ c < 0)) := ssum_lt'_ a (mem_tri ha) b (mem_tri hb) c (mem_tri hc) h
theorem sgn_gt {n : Int} : 0 < sgn n ↔ 0 < n := by
  unfold sgn
  split <;> (try split) <;> omega
theorem sgn_lt {n : Int} : sgn n < 0 ↔ n < 0 := by
  unfold sgn
  split <;> (try split) <;> omega
theorem two_nn {r t A V C W : Int} (hr : 0 ≤ r) (ht : 0 ≤ t) (h1 : NN r A V) (h2 : NN t C W) : 0 ≤ sTwo (A + C) V r W t := by
  unfold sTwo
  refine ssum_ge (sOne_three ..) (sgn_three _) (sOne_three ..) ?_
  by_cases b : 0 < W * t
  · have w0 : 0 ≤ W := by
      apply Int.not_lt.mp
      intro q
      have := Int.mul_nonneg (show 0 ≤ -W by omega) ht
      grind
    by_cases a : 0 ≤ sOne (A + C) V r
    · exact .inl ⟨a, Int.le_of_lt (sgn_gt.mpr b)⟩
    · refine .inr (.inl ⟨by omega, sgn_gt.mpr b, ?_⟩)
      have a' : ¬ NN r (A + C) V := fun q => a ((nn_iff hr).mpr q)
      have n1 : NN r (-(A + C)) (-V) := (nn_tot hr).resolve_left a'
      have c0 : C < 0 := by
        apply Int.not_le.mp
        intro q
        exact a' (nn_up hr h1 q)
      have c2 : C * C ≤ W * W * t := by
        rcases h2 with ⟨q, _⟩ | ⟨_, q⟩
        · omega
        · exact q
      have n2 := nn_mul hr h1 (nn_up hr n1 (show 0 ≤ -C by omega))
      have n3 := nn_up hr n2 (show 0 ≤ W * W * t - C * C by omega)
      have := (nn_iff hr).mpr n3
      rw [show A * (-(A + C) + -C) + V * -V * r + (W * W * t - C * C) = -((A + C) * (A + C) + V * V * r - W * W * t) by grind, show A * -V + V * (-(A + C) + -C) = -(2 * (A + C) * V) by grind, sOne_opp] at this
      omega
  · by_cases b2 : W * t < 0
    · refine .inr (.inr ⟨?_, sgn_lt.mpr b2, ?_⟩)
      all_goals
        have w0 : W < 0 := by
          apply Int.not_le.mp
          intro q
          have := Int.mul_nonneg q ht
          omega
        have t0 : 0 < t := by
          rcases Int.lt_or_eq_of_le ht with q | q
          · exact q
          · rw [← q] at b2
            omega
        have cc : 0 ≤ C ∧ W * W * t ≤ C * C := by
          rcases h2 with q | ⟨q, _⟩
          · exact q
          · omega
        have wp : 0 < W * W * t := Int.mul_pos (Int.mul_pos_of_neg_of_neg w0 w0) t0
      · rw [one_gt hr]
        intro q
        have := nn_add hr q h1
        rw [show -(A + C) + A = -C by omega, show -V + V = 0 by omega] at this
        have := nn_flat' this
        have : C = 0 := by omega
        subst this
        omega
      · have n1 := nn_up hr h1 cc.1
        have n2 := nn_mul hr h1 (nn_up hr n1 cc.1)
        have n3 := nn_up hr n2 (show 0 ≤ C * C - W * W * t by omega)
        have := (nn_iff hr).mpr n3
        rwa [show A * (A + C + C) + V * V * r + (C * C - W * W * t) = (A + C) * (A + C) + V * V * r - W * W * t by grind, show A * V + V * (A + C + C) = 2 * (A + C) * V by grind] at this
    · have b0 : W * t = 0 := by omega
      refine .inl ⟨?_, by rw [b0]; decide⟩
      have c0 : 0 ≤ C := by
        rcases h2 with ⟨q, _⟩ | ⟨_, q⟩
        · exact q
        · have e : W * W * t = 0 := by rw [Int.mul_assoc, b0, Int.mul_zero]
          have := abs_of_sq (a := C) (b := 0) (by omega) (by omega)
          omega
      exact (nn_iff hr).mpr (nn_up hr h1 c0)
theorem one_far {r x y c X n : Int} (_hr : 0 ≤ r) (h : ¬ NN r x y) (hc : 0 ≤ c) (hX : -X ≤ x ∧ x ≤ X) (hn : c * (2 * X + 1) + 1 ≤ n) : ¬ NN r (n * x + c) (n * y) := by
  have X0 : 0 ≤ X := by omega
  have cX := Int.mul_nonneg hc X0
  have n1 : c + 1 ≤ n := by grind
  have n2 : 2 * (c * X) + c + 1 ≤ n := by grind
  intro q
  apply h
  have nx : n * (n * (x * x)) = n * x * (n * x) := by grind
  rcases q with ⟨a, b⟩ | ⟨a, b⟩
  ·
    have x0 : 0 ≤ x := by
      apply Int.not_lt.mp
      intro q
      have := Int.mul_le_mul_of_nonneg_left (show x ≤ -1 by omega) (show 0 ≤ n by omega)
      omega
    left
    refine ⟨x0, ?_⟩
    apply Int.not_lt.mp
    intro q
    have m1 := Int.mul_le_mul_of_nonneg_left (show x * x + 1 ≤ y * y * r by omega) (Int.mul_nonneg (show 0 ≤ n by omega) (show 0 ≤ n by omega))
    have m2 := Int.mul_le_mul_of_nonneg_left (show x ≤ X from hX.2) hc
    have m3 := Int.mul_le_mul_of_nonneg_left n2 (show 0 ≤ n by omega)
    have m4 := Int.mul_le_mul_of_nonneg_left m2 (show 0 ≤ n by omega)
    have m5 := Int.mul_le_mul_of_nonneg_right n1 hc
    grind
  · have y0 : 0 ≤ y := by
      apply Int.not_lt.mp
      intro q
      have := Int.mul_le_mul_of_nonneg_left (show y ≤ -1 by omega) (show 0 ≤ n by omega)
      omega
    by_cases x0 : 0 ≤ x
    · by_cases tt : y * y * r ≤ x * x
      · exact .inl ⟨x0, tt⟩
      · exact .inr ⟨y0, by omega⟩
    · right
      refine ⟨y0, ?_⟩
      apply Int.not_lt.mp
      intro q
      have m1 := Int.mul_le_mul_of_nonneg_left (show y * y * r + 1 ≤ x * x by omega) (Int.mul_nonneg (show 0 ≤ n by omega) (show 0 ≤ n by omega))
      have m2 := Int.mul_le_mul_of_nonneg_left (show -x ≤ X by omega) hc
      have m3 := Int.mul_le_mul_of_nonneg_left n2 (show 0 ≤ n by omega)
      have m4 := Int.mul_le_mul_of_nonneg_left m2 (show 0 ≤ n by omega)
      have m5 := sq_nonneg c
      have m6 := Int.mul_nonneg (show 0 ≤ n by omega) hc
      grind
theorem sgn_scale {n x : Int} (hn : 0 < n) : sgn (n * x) = sgn x := by
  rw [Int.mul_comm]
  exact sgn_mul_pos hn
theorem two_far {r t u v w c X Y n : Int} (hr : 0 ≤ r) (ht : 0 ≤ t) (h : sTwo u v r w t < 0) (hc : 0 ≤ c) (hX : -X ≤ u ∧ u ≤ X) (hX1 : NN r (X - u) (-v)) (hX2 : NN r (X + u) v)
    (hY : -Y ≤ u * u + v * v * r - w * w * t ∧ u * u + v * v * r - w * w * t ≤ Y) (hn : (2 * (c * X) + c) * (2 * Y + 1) + 1 ≤ n) : sTwo (n * u + c) (n * v) r (n * w) t < 0 := by
  have X0 : 0 ≤ X := by omega
  have Y0 : 0 ≤ Y := by omega
  have cX := Int.mul_nonneg hc X0
  have cXY := Int.mul_nonneg (show 0 ≤ 2 * (c * X) + c by omega) Y0
  have n1 : c * (2 * X + 1) + 1 ≤ n := by grind
  have np : 1 ≤ n := by
    have := Int.mul_nonneg hc (show 0 ≤ 2 * X + 1 by omega)
    omega
  have nc : c + 1 ≤ n := by grind
  have n2 : (2 * (n * c * X) + c * c) * (2 * Y + 1) + 1 ≤ n * n := by
    have m1 := Int.mul_le_mul_of_nonneg_left hn (show 0 ≤ n by omega)
    have m2 := Int.mul_le_mul_of_nonneg_right (show c ≤ n by omega) hc
    have m3 := Int.mul_le_mul_of_nonneg_right m2 (show 0 ≤ 2 * Y + 1 by omega)
    grind
  have hs := ssum_lt' (sOne_three u v r) (sgn_three (w * t)) (sOne_three _ _ r) h
  have kc : 0 ≤ 2 * (n * c * X) + c * c := by
    have := Int.mul_nonneg (Int.mul_nonneg (show 0 ≤ n by omega) hc) X0
    have := sq_nonneg c
    omega
  have ncp : 0 ≤ 2 * (n * c) := by
    have := Int.mul_nonneg (show 0 ≤ n by omega) hc
    omega
  have e0 : sgn (n * w * t) = sgn (w * t) := by rw [Int.mul_assoc]; exact sgn_scale (by omega)
  have eU : (n * u + c) * (n * u + c) + n * v * (n * v) * r - n * w * (n * w) * t = n * n * (u * u + v * v * r - w * w * t) + 2 * (n * c) * u + c * c := by grind
  have eV : 2 * (n * u + c) * (n * v) = n * n * (2 * u * v) + 2 * (n * c) * v := by grind
  unfold sTwo
  refine ssum_lt (sOne_three ..) (sgn_three _) (sOne_three ..) ?_
  rw [e0, eU, eV]
  have far : sOne u v r < 0 → sOne (n * u + c) (n * v) r < 0 := fun q => (one_lt hr).mpr (one_far hr ((one_lt hr).mp q) hc hX n1)
  have low : ¬ NN r (u * u + v * v * r - w * w * t) (2 * u * v) → sOne (n * n * (u * u + v * v * r - w * w * t) + 2 * (n * c) * u + c * c) (n * n * (2 * u * v) + 2 * (n * c) * v) r < 0 := fun q => by
    rw [one_lt hr]
    have k1 := one_far (n := n * n) hr q kc hY n2
    have k2 := nn_sub hr k1 (nn_scale hX1 ncp)
    rwa [show n * n * (u * u + v * v * r - w * w * t) + (2 * (n * c * X) + c * c) - 2 * (n * c) * (X - u) = n * n * (u * u + v * v * r - w * w * t) + 2 * (n * c) * u + c * c by grind,
      show n * n * (2 * u * v) - 2 * (n * c) * -v = n * n * (2 * u * v) + 2 * (n * c) * v by grind] at k2
  rcases hs with ⟨a, b⟩ | ⟨a, b, d⟩ | ⟨a, b⟩ | ⟨a, b, d⟩
  · exact .inl ⟨far a, b⟩
  · refine .inr (.inr (.inl ⟨far a, b, ?_⟩))
    rw [one_gt hr] at d ⊢
    have k1 := one_far (n := n * n) (X := Y) hr d kc (by omega) n2
    have k2 := nn_sub hr k1 (nn_up hr (nn_scale hX2 ncp) (show 0 ≤ 2 * (c * c) by have := sq_nonneg c; omega))
    rwa [show n * n * -(u * u + v * v * r - w * w * t) + (2 * (n * c * X) + c * c) - (2 * (n * c) * (X + u) + 2 * (c * c)) = -(n * n * (u * u + v * v * r - w * w * t) + 2 * (n * c) * u + c * c) by grind,
      show n * n * -(2 * u * v) - 2 * (n * c) * v = -(n * n * (2 * u * v) + 2 * (n * c) * v) by grind] at k2
  · by_cases z : sOne (n * u + c) (n * v) r ≤ 0
    · exact .inr (.inl ⟨z, b⟩)
    · refine .inr (.inr (.inr ⟨by omega, b, low ?_⟩))
      have p1 : NN r u v := (nn_iff hr).mp (by omega)
      have p2 : NN r (-u) (-v) := by
        rw [← nn_iff hr, sOne_opp]
        omega
      have p3 := nn_mul hr p1 p2
      have wt : 0 < w * w * t := by
        have wt0 := sgn_lt.mp b
        have t0 : t ≠ 0 := fun q => by rw [q] at wt0; omega
        have w0 : w ≠ 0 := fun q => by rw [q] at wt0; omega
        have k := sq_pos w0
        rcases Int.lt_or_gt_of_ne t0 with q | q
        · omega
        · exact Int.mul_pos k q
      intro p4
      have p5 := nn_add hr p3 p4
      rw [show u * -u + v * -v * r + (u * u + v * v * r - w * w * t) = -(w * w * t) by grind, show u * -v + v * -u + 2 * u * v = 0 by grind] at p5
      have := nn_flat' p5
      omega
  · refine .inr (.inr (.inr ?_))
    have d' : sOne (u * u + v * v * r - w * w * t) (2 * u * v) r < 0 := by
      rcases d with d | d
      · omega
      · exact d
    by_cases z : 0 < sOne (n * u + c) (n * v) r
    · exact ⟨z, b, low ((one_lt hr).mp d')⟩
    · exfalso
      apply z
      rw [one_gt hr] at a ⊢
      intro q
      apply a
      have k := nn_up hr q hc
      rw [show -(n * u + c) + c = n * -u by grind, show -(n * v) = n * -v by grind] at k
      rw [← nn_iff hr] at k ⊢
      apply Int.not_lt.mp
      intro k2
      have k3 := one_far (n := n) (c := 0) hr ((one_lt hr).mp k2) (by omega) (X := X) (by omega) (by omega)
      rw [Int.add_zero, ← one_lt hr] at k3
      omega
theorem two_flat {u d w t : Int} : sTwo u (0 * d) 0 w t = sOne u w t := by
  unfold sTwo
  have e1 : sOne u (0 * d) 0 = sgn u := by
    unfold sOne ssum
    rcases sgn_three u with h | h | h <;> simp [h, sgn_zero]
  have e2 : sOne (u * u + 0 * d * (0 * d) * 0 - w * w * t) (2 * u * (0 * d)) 0 = sgn (u * u - w * w * t) := by
    rw [show u * u + 0 * d * (0 * d) * 0 - w * w * t = u * u - w * w * t by grind, show 2 * u * (0 * d) = 0 by grind]
    unfold sOne ssum
    rcases sgn_three (u * u - w * w * t) with h | h | h <;> simp [h, sgn_zero]
  rw [e1, e2]
  rfl
theorem two_flat' {u v r w t : Int} (h : w * t = 0) : sTwo u v r w t = sOne u v r := by
  unfold sTwo
  rw [h, sgn_zero]
  unfold ssum
  rcases sOne_three u v r with h | h | h <;> simp [h]
theorem ssum_opp_ : ∀ a ∈ tri, ∀ b ∈ tri, ∀ c ∈ tri, ssum (-a) (-b) c = -ssum a b c := by decide
theorem ssum_opp {a b c : Int} (ha : a = -1 ∨ a = 0 ∨ a = 1) (hb : b = -1 ∨ b = 0 ∨ b = 1) (hc : c = -1 ∨ c = 0 ∨ c = 1) : ssum (-a) (-b) c = -ssum a b c := ssum_opp_ a (mem_tri ha) b (mem_tri hb) c (mem_tri hc)
theorem two_opp (u v r w t : Int) : sTwo (-u) (-v) r (-w) t = -sTwo u v r w t := by
  unfold sTwo
  rw [sOne_opp, show -w * t = -(w * t) by grind, sgn_opp, show -u * -u + -v * -v * r - -w * -w * t = u * u + v * v * r - w * w * t by grind, show 2 * -u * -v = 2 * u * v by grind]
  exact ssum_opp (sOne_three ..) (sgn_three _) (sOne_three ..)
theorem one_scale {x y r n : Int} (hn : 0 < n) : sOne (n * x) (n * y) r = sOne x y r := by
  unfold sOne
  rw [sgn_scale hn, Int.mul_assoc, sgn_scale hn, show n * x * (n * x) - n * y * (n * y) * r = n * (n * (x * x - y * y * r)) by grind, sgn_scale hn, sgn_scale hn]
theorem two_scale {u v r w t n : Int} (hn : 0 < n) : sTwo (n * u) (n * v) r (n * w) t = sTwo u v r w t := by
  unfold sTwo
  rw [one_scale hn, Int.mul_assoc n w t, sgn_scale hn, show n * u * (n * u) + n * v * (n * v) * r - n * w * (n * w) * t = n * n * (u * u + v * v * r - w * w * t) by grind, show 2 * (n * u) * (n * v) = n * n * (2 * u * v) by grind, one_scale (Int.mul_pos hn hn)]
theorem ssum_ge'_ : ∀ a ∈ tri, ∀ b ∈ tri, ∀ c ∈ tri, (0 ≤ ssum a b c) → ((0 ≤ a ∧ 0 ≤ b) ∨ (a < 0 ∧ 0 < b ∧ c ≤ 0) ∨ (0 < a ∧ b < 0 ∧ 0 ≤ c)) := by decide
theorem ssum_ge' {a b c : Int} (ha : a = -1 ∨ a = 0 ∨ a = 1) (hb : b = -1 ∨ b = 0 ∨ b = 1) (hc : c = -1 ∨ c = 0 ∨ c = 1) (h : 0 ≤ ssum a b c) : (0 ≤ a ∧ 0 ≤ b) ∨ (a < 0 ∧ 0 < b ∧ c ≤ 0) ∨ (0 < a ∧ b < 0 ∧ 0 ≤ c) := ssum_ge'_ a (mem_tri ha) b (mem_tri hb) c (mem_tri hc) h
theorem ssum_gt_ : ∀ a ∈ tri, ∀ b ∈ tri, ∀ c ∈ tri, ((0 < a ∧ 0 ≤ b) ∨ (0 ≤ a ∧ 0 < b) ∨ (a < 0 ∧ 0 < b ∧ c < 0) ∨ (0 < a ∧ b < 0 ∧ 0 < c)) → (0 < ssum a b c) := by decide
theorem ssum_gt {a b c : Int} (ha : a = -1 ∨ a = 0 ∨ a = 1) (hb : b = -1 ∨ b = 0 ∨ b = 1) (hc : c = -1 ∨ c = 0 ∨ c = 1) (h : (0 < a ∧ 0 ≤ b) ∨ (0 ≤ a ∧ 0 < b) ∨ (a < 0 ∧ 0 < b ∧ c < 0) ∨ (0 < a ∧ b < 0 ∧ 0 < c)) : 0 < ssum a b c := ssum_gt_ a (mem_tri ha) b (mem_tri hb) c (mem_tri hc) h
theorem one_more {r x y k : Int} (hr : 0 ≤ r) (h : NN r x y) (hk : 0 < k) : 0 < sOne (x + k) y r := by
  rw [one_gt hr]
  intro q
  have := nn_add hr h q
  rw [show x + -(x + k) = -k by omega, show y + -y = 0 by omega] at this
  have := nn_flat' this
  omega
theorem two_more {r t u v w k : Int} (hr : 0 ≤ r) (h : 0 ≤ sTwo u v r w t) (hk : 0 < k) : 0 < sTwo (u + k) v r w t := by
  have hs := ssum_ge' (sOne_three u v r) (sgn_three (w * t)) (sOne_three _ _ r) h
  unfold sTwo
  refine ssum_gt (sOne_three ..) (sgn_three _) (sOne_three ..) ?_
  have eU : (u + k) * (u + k) + v * v * r - w * w * t = (u * u + v * v * r - w * w * t) + k * (2 * u + k) := by grind
  have eV : 2 * (u + k) * v = 2 * u * v + k * (2 * v) := by grind
  rw [eU, eV]
  rcases hs with ⟨a, b⟩ | ⟨a, b, c⟩ | ⟨a, b, c⟩
  · exact .inl ⟨one_more hr ((nn_iff hr).mp a) hk, b⟩
  · by_cases z : 0 ≤ sOne (u + k) v r
    · exact .inr (.inl ⟨z, b⟩)
    · refine .inr (.inr (.inl ⟨by omega, b, ?_⟩))
      rw [one_lt hr]
      have c1 : NN r (-(u * u + v * v * r - w * w * t)) (-(2 * u * v)) := by
        rw [← nn_iff hr, sOne_opp]
        omega
      have a1 : ¬ NN r u v := (one_lt hr).mp a
      have a2 : ¬ NN r (u + k) v := (one_lt hr).mp (by omega)
      have a3 : ¬ NN r (2 * u + k) (2 * v) := by
        have a4 : NN r (-(u + k)) (-v) := (nn_tot hr).resolve_left a2
        have := nn_sub hr a1 a4
        rwa [show u - -(u + k) = 2 * u + k by omega, show v - -v = 2 * v by omega] at this
      have a5 : ¬ NN r (k * (2 * u + k)) (k * (2 * v)) := by
        rw [← nn_iff hr, one_scale hk, nn_iff hr]
        exact a3
      have := nn_sub hr a5 c1
      rwa [show k * (2 * u + k) - -(u * u + v * v * r - w * w * t) = u * u + v * v * r - w * w * t + k * (2 * u + k) by omega, show k * (2 * v) - -(2 * u * v) = 2 * u * v + k * (2 * v) by omega] at this
  · have a1 : NN r u v := (nn_iff hr).mp (by omega)
    refine .inr (.inr (.inr ⟨one_more hr a1 hk, b, ?_⟩))
    have c1 := (nn_iff hr).mp c
    have a2 : 0 < sOne (2 * u + k) (2 * v) r := by
      have := one_more hr (nn_add hr a1 a1) hk
      rwa [show u + u + k = 2 * u + k by omega, show v + v = 2 * v by omega] at this
    rw [← one_scale hk] at a2
    rw [one_gt hr] at a2 ⊢
    have := nn_sub hr a2 c1
    rwa [show -(k * (2 * u + k)) - (u * u + v * v * r - w * w * t) = -(u * u + v * v * r - w * w * t + k * (2 * u + k)) by omega, show -(k * (2 * v)) - 2 * u * v = -(2 * u * v + k * (2 * v)) by omega] at this
theorem rt_ex (n : Nat) : ∃ g : Nat, g * g ≤ n ∧ n < (g + 1) * (g + 1) := by
  induction n with
  | zero => exact ⟨0, by decide, by decide⟩
  | succ n ih =>
    obtain ⟨g, h1, h2⟩ := ih
    by_cases h : (g + 1) * (g + 1) ≤ n + 1
    · refine ⟨g + 1, h, ?_⟩
      have : (g + 1 + 1) * (g + 1 + 1) = (g + 1) * (g + 1) + (2 * g + 3) := by grind
      omega
    · exact ⟨g, by omega, by omega⟩
theorem isRt_ex {n : Int} (h : 0 ≤ n) : ∃ g, IsRt g n := by
  obtain ⟨g, h1, h2⟩ := rt_ex n.toNat
  refine ⟨g, by omega, ?_, ?_⟩
  · have : ((g * g : Nat) : Int) ≤ (n.toNat : Int) := by omega
    push_cast at this
    omega
  · have : ((n.toNat : Nat) : Int) < (((g + 1) * (g + 1) : Nat) : Int) := by omega
    push_cast at this
    omega
theorem part_ex {q r : Int} (hr : 0 ≤ r) : ∃ G, Part q r G := by
  obtain ⟨g, hg⟩ := isRt_ex (Int.mul_nonneg (sq_nonneg q) hr)
  by_cases h : 0 ≤ q
  · exact ⟨g, g, hg, .inl ⟨h, rfl⟩⟩
  · by_cases e : g * g = q * q * r
    · exact ⟨-g, g, hg, .inr (.inl ⟨by omega, e, rfl⟩)⟩
    · exact ⟨-g - 1, g, hg, .inr (.inr ⟨by omega, e, rfl⟩)⟩
theorem floor_ex {p q r s : Int} (hr : 0 ≤ r) (hs : 0 < s) : ∃ f, 0 ≤ sOne (p - f * s) q r ∧ sOne (p - (f + 1) * s) q r < 0 := by
  obtain ⟨G, h⟩ := part_ex (q := q) hr
  exact ⟨_, floor_ok hr hs h⟩
theorem big_ex (u v r w t c : Int) (hr : 0 ≤ r) (ht : 0 ≤ t) (hc : 0 ≤ c) (h : sTwo u v r w t < 0) : ∃ n, 0 < n ∧ sTwo (n * u + c) (n * v) r (n * w) t < 0 := by
  have X1 : ∃ X : Int, (-X ≤ u ∧ u ≤ X) ∧ NN r (X - u) (-v) ∧ NN r (X + u) v := by
    have vr := Int.mul_nonneg (sq_nonneg v) hr
    have uu := sq_nonneg u
    refine ⟨u * u + v * v * r + 1, ?_, .inl ?_, .inl ?_⟩
    · by_cases q : 0 ≤ u
      · by_cases q1 : u = 0
        · subst q1; omega
        · have := le_sq (show 0 < u by omega); omega
      · have := le_sq (show 0 < -u by omega)
        have e : -u * -u = u * u := by grind
        omega
    all_goals
      have h1 : 0 ≤ u * u - u := by
        by_cases q : 0 < u
        · have := le_sq q; omega
        · omega
      have h2 : 0 ≤ u * u + u := by
        by_cases q : 0 < -u
        · have := le_sq q
          have e : -u * -u = u * u := by grind
          omega
        · omega
      have h3 := le_sq (show 0 < v * v * r + 1 by omega)
    · refine ⟨by omega, ?_⟩
      have := sq_le (x := v * v * r + 1) (y := u * u + v * v * r + 1 - u) (by omega) (by omega)
      have e : -v * -v * r = v * v * r := by grind
      omega
    · refine ⟨by omega, ?_⟩
      have := sq_le (x := v * v * r + 1) (y := u * u + v * v * r + 1 + u) (by omega) (by omega)
      omega
  obtain ⟨X, hX, hX1, hX2⟩ := X1
  have Y1 : ∃ Y : Int, -Y ≤ u * u + v * v * r - w * w * t ∧ u * u + v * v * r - w * w * t ≤ Y := by
    by_cases q : 0 ≤ u * u + v * v * r - w * w * t
    · exact ⟨_, by omega, Int.le_refl _⟩
    · exact ⟨-(u * u + v * v * r - w * w * t), by omega, by omega⟩
  obtain ⟨Y, hY⟩ := Y1
  have cX := Int.mul_nonneg hc (show 0 ≤ X by omega)
  have k := Int.mul_nonneg (show 0 ≤ 2 * (c * X) + c by omega) (show 0 ≤ 2 * Y + 1 by omega)
  exact ⟨_, by omega, two_far hr ht h hc hX hX1 hX2 hY (Int.le_refl _)⟩
theorem two_gt_swap {u v r w t : Int} (hr : 0 ≤ r) (ht : 0 ≤ t) (h : 0 < sTwo u v r w t) : 0 < sTwo u w t v r := by
  have h0 : sTwo (-u) (-v) r (-w) t < 0 := by
    rw [two_opp]
    omega
  obtain ⟨n, n0, h1⟩ := big_ex _ _ _ _ _ 2 hr ht (by decide) h0
  obtain ⟨f, f1, f2⟩ := floor_ex (p := 0) (q := n * v) (s := 1) hr (by decide)
  rw [show (0 : Int) - f * 1 = -f by omega] at f1
  rw [show (0 : Int) - (f + 1) * 1 = -(f + 1) by omega] at f2
  have g1 := (nn_iff hr).mp f1
  have g2 : NN r (f + 1) (-(n * v)) := by
    have := (nn_tot hr).resolve_left ((one_lt hr).mp f2)
    rwa [show - -(f + 1) = f + 1 by omega] at this
  have g3 : ¬ NN t (-(n * u + f - 1)) (-(n * w)) := fun q => by
    have := two_nn hr ht g2 q
    rw [show f + 1 + -(n * u + f - 1) = n * -u + 2 by grind, show -(n * v) = n * -v by grind, show -(n * w) = n * -w by grind] at this
    omega
  have g4 : NN t (n * u + f - 1) (n * w) := by
    have := (nn_tot (x := -(n * u + f - 1)) (y := -(n * w)) ht).resolve_left g3
    rwa [show - -(n * u + f - 1) = n * u + f - 1 by omega, show - -(n * w) = n * w by omega] at this
  have g5 := two_nn ht hr g4 g1
  have g6 := two_more ht g5 (show (0 : Int) < 1 by decide)
  rw [show n * u + f - 1 + -f + 1 = n * u by omega, two_scale n0] at g6
  exact g6
theorem two_swap {u v r w t : Int} (hr : 0 ≤ r) (ht : 0 ≤ t) : sTwo u v r w t = sTwo u w t v r := by
  have a1 := two_gt_swap (u := u) (v := v) (w := w) hr ht
  have a2 := two_gt_swap (u := u) (v := w) (w := v) ht hr
  have b1 := two_gt_swap (u := -u) (v := -v) (w := -w) hr ht
  have b2 := two_gt_swap (u := -u) (v := -w) (w := -v) ht hr
  rw [two_opp, two_opp] at b1 b2
  rcases sTwo_three u v r w t with h | h | h <;> rcases sTwo_three u w t v r with k | k | k <;> omega
end M
namespace M
structure Nm where
  p : Int
  q : Int
  r : Int
  s : Int
structure Nm.Ok (x : Nm) : Prop where
  r0 : 0 ≤ x.r
  s0 : 0 < x.s
def cmp (x y : Nm) : Int := sTwo (x.p * y.s - y.p * x.s) (x.q * y.s) x.r (-y.q * x.s) y.r
def frac (e n : Int) : Nm := ⟨e, 0, 0, n⟩
theorem frac_ok {e n : Int} (h : 0 < n) : (frac e n).Ok := ⟨Int.le_refl 0, h⟩
theorem cmp_three (x y : Nm) : cmp x y = -1 ∨ cmp x y = 0 ∨ cmp x y = 1 := sTwo_three ..
theorem cmp_opp {x y : Nm} (hx : x.Ok) (hy : y.Ok) : cmp y x = -cmp x y := by
  unfold cmp
  rw [two_swap hy.r0 hx.r0, ← two_opp]
  rw [show -(x.p * y.s - y.p * x.s) = y.p * x.s - x.p * y.s by omega, show -x.q * y.s = -(x.q * y.s) by grind, show -(-y.q * x.s) = y.q * x.s by grind]
theorem cmp_frac (x : Nm) (e n : Int) : cmp x (frac e n) = sOne (x.p * n - e * x.s) (x.q * n) x.r := by
  unfold cmp frac
  exact two_flat' (Int.mul_zero _)
theorem frac_cmp (y : Nm) (e n : Int) : cmp (frac e n) y = sOne (e * y.s - y.p * n) (-y.q * n) y.r := by
  unfold cmp frac
  exact two_flat
theorem frac_frac {e n f m : Int} : cmp (frac e n) (frac f m) < 0 ↔ e * m < f * n := by
  rw [cmp_frac]
  show sOne (e * m - f * n) (0 * m) 0 < 0 ↔ _
  rw [one_lt (Int.le_refl 0), Int.zero_mul]
  constructor
  · intro h
    apply Int.not_le.mp
    intro q
    exact h (nn_flat (by omega))
  · intro h q
    have := nn_flat' q
    omega
theorem cut {x y : Nm} (hx : x.Ok) (hy : y.Ok) (h : cmp x y < 0) : ∃ e n, 0 < n ∧ cmp x (frac e n) < 0 ∧ cmp (frac e n) y < 0 := by
  have c0 : 0 ≤ x.s * y.s := Int.mul_nonneg (by have := hx.s0; omega) (by have := hy.s0; omega)
  obtain ⟨n, n0, h1⟩ := big_ex _ _ _ _ _ (x.s * y.s) hx.r0 hy.r0 c0 h
  obtain ⟨f, f1, f2⟩ := floor_ex (p := x.p * n) (q := x.q * n) (s := x.s) hx.r0 hx.s0
  refine ⟨f + 1, n, n0, ?_, ?_⟩
  · rw [cmp_frac]
    exact f2
  · rw [frac_cmp, one_lt hy.r0]
    intro z
    have q1 := nn_scale z (show 0 ≤ x.s by have := hx.s0; omega)
    have q2 := nn_scale ((nn_iff hx.r0).mp f1) (show 0 ≤ y.s by have := hy.s0; omega)
    have q3 := two_nn hx.r0 hy.r0 q2 q1
    rw [show y.s * (x.p * n - f * x.s) + x.s * ((f + 1) * y.s - y.p * n) = n * (x.p * y.s - y.p * x.s) + x.s * y.s by grind, show y.s * (x.q * n) = n * (x.q * y.s) by grind, show x.s * (-y.q * n) = n * (-y.q * x.s) by grind] at q3
    omega
theorem lt_of_cut {x y : Nm} {e n : Int} (hx : x.Ok) (hy : y.Ok) (n0 : 0 < n) (h1 : cmp x (frac e n) < 0) (h2 : cmp (frac e n) y < 0) : cmp x y < 0 := by
  have s0 := hx.s0
  have d0 := hy.s0
  rw [cmp_frac, one_lt hx.r0] at h1
  rw [frac_cmp, one_lt hy.r0] at h2
  have X1 : ∃ X : Int, -X ≤ x.p * n - e * x.s ∧ x.p * n - e * x.s ≤ X := by
    by_cases q : 0 ≤ x.p * n - e * x.s
    · exact ⟨_, by omega, Int.le_refl _⟩
    · exact ⟨-(x.p * n - e * x.s), by omega, by omega⟩
  obtain ⟨X, hX⟩ := X1
  have far := one_far (c := 1) (n := 1 * (2 * X + 1) + 1) hx.r0 h1 (by decide) hX (Int.le_refl _)
  generalize hN : 1 * (2 * X + 1) + 1 = N at far
  have N0 : 0 < N := by omega
  have a1 := nn_scale ((nn_tot hx.r0).resolve_left far) (show 0 ≤ y.s by omega)
  have a2 := nn_scale ((nn_tot hy.r0).resolve_left h2) (show 0 ≤ x.s * N from Int.mul_nonneg (by omega) (by omega))
  have a3 := two_nn hx.r0 hy.r0 a1 a2
  have a4 := two_more hx.r0 a3 d0
  rw [show y.s * -(N * (x.p * n - e * x.s) + 1) + x.s * N * -(e * y.s - y.p * n) + y.s = N * n * -(x.p * y.s - y.p * x.s) by grind, show y.s * -(N * (x.q * n)) = N * n * -(x.q * y.s) by grind,
    show x.s * N * -(-y.q * n) = N * n * -(-y.q * x.s) by grind, two_scale (Int.mul_pos N0 n0), two_opp] at a4
  unfold cmp
  omega
theorem lt_trans {x y z : Nm} (hx : x.Ok) (hy : y.Ok) (hz : z.Ok) (h1 : cmp x y < 0) (h2 : cmp y z < 0) : cmp x z < 0 := by
  obtain ⟨e, n, n0, a1, a2⟩ := cut hx hy h1
  obtain ⟨f, m, m0, b1, b2⟩ := cut hy hz h2
  rw [frac_cmp, one_lt hy.r0] at a2
  have b1' := b1
  rw [cmp_frac, one_lt hy.r0] at b1
  have lt : e * m < f * n := by
    apply Int.not_le.mp
    intro q
    apply a2
    have k1 := nn_scale ((nn_tot hy.r0).resolve_left b1) (show 0 ≤ n by omega)
    have k2 := nn_up hy.r0 k1 (Int.mul_nonneg (show 0 ≤ y.s by have := hy.s0; omega) (show 0 ≤ e * m - f * n by omega))
    rw [show n * -(y.p * m - f * y.s) + y.s * (e * m - f * n) = m * (e * y.s - y.p * n) by grind, show n * -(y.q * m) = m * (-y.q * n) by grind, ← nn_iff hy.r0, one_scale m0, nn_iff hy.r0] at k2
    exact k2
  refine lt_of_cut hx hz m0 ?_ b2
  rw [cmp_frac, one_lt hx.r0] at a1 ⊢
  intro q
  apply a1
  have k1 := nn_scale q (show 0 ≤ n by omega)
  have k2 := nn_up hx.r0 k1 (Int.mul_nonneg (show 0 ≤ x.s by have := hx.s0; omega) (show 0 ≤ f * n - e * m by omega))
  rw [show n * (x.p * m - f * x.s) + x.s * (f * n - e * m) = m * (x.p * n - e * x.s) by grind, show n * (x.q * m) = m * (x.q * n) by grind, ← nn_iff hx.r0, one_scale m0, nn_iff hx.r0] at k2
  exact k2
theorem le_trans {x y z : Nm} (hx : x.Ok) (hy : y.Ok) (hz : z.Ok) (h1 : cmp x y ≤ 0) (h2 : cmp y z ≤ 0) : cmp x z ≤ 0 := by
  apply Int.not_lt.mp
  intro q
  have o1 := cmp_opp hx hy
  have o2 := cmp_opp hy hz
  have o3 := cmp_opp hx hz
  obtain ⟨e, n, n0, a1, a2⟩ := cut hz hx (by omega)
  have ho := frac_ok (e := e) n0
  rcases cmp_three y (frac e n) with c | c | c
  · have := lt_trans hy ho hx (by omega) a2
    omega
  ·
    obtain ⟨f, m, m0, b1, b2⟩ := cut hz ho a1
    have lt := frac_frac.mp b2
    have : cmp (frac f m) y < 0 := by
      rw [frac_cmp, one_lt hy.r0]
      intro w
      rw [cmp_frac] at c
      have k1 := nn_scale w (show 0 ≤ n by omega)
      have k0 := (nn_iff hy.r0).mp (show 0 ≤ sOne (y.p * n - e * y.s) (y.q * n) y.r by omega)
      have k2 := nn_add hy.r0 k1 (nn_scale k0 (show 0 ≤ m by omega))
      rw [show n * (f * y.s - y.p * m) + m * (y.p * n - e * y.s) = y.s * (f * n - e * m) by grind, show n * (-y.q * m) + m * (y.q * n) = 0 by grind] at k2
      have k3 := nn_flat' k2
      have := Int.mul_neg_of_pos_of_neg hy.s0 (show f * n - e * m < 0 by omega)
      omega
    have := lt_of_cut hz hy m0 b1 this
    omega
  · have o4 := cmp_opp hy ho
    have := lt_trans hz ho hy a1 (by omega)
    omega
end M
namespace M
end M
namespace M
end M
namespace Mine
open PySem L2
open L2 DD
structure NumG (m k : Nat) (H : Hp) (a : Addr) (p q r s : Int) : Prop where
  at_ : H a = some (.tup [.int p, .int q, .int r, .int s])
  bp : Bits m p
  bq : Bits m q
  br : Bits k r
  bs : Bits m s
  r0 : 0 ≤ r
  s0 : 0 < s
section
variable {m k : Nat} {H H' : Hp} {a : Addr} {p q r s : Int}
theorem NumG.same (h : NumG m k H a p q r s) (e : Same H H') : NumG m k H' a p q r s := ⟨e _ _ h.at_, h.bp, h.bq, h.br, h.bs, h.r0, h.s0⟩
theorem NumG.upd {l : Addr} {xs : List V} {o : HO} (h : NumG m k H a p q r s) (hl : H l = some (.lst xs)) : NumG m k (upd H l o) a p q r s :=
  ⟨by rw [upd_ne (ne_of h.at_ hl (by intro z; cases z))]; exact h.at_, h.bp, h.bq, h.br, h.bs, h.r0, h.s0⟩
end
end Mine
set_option maxRecDepth 100000
namespace L2
open PySem PySem.Spec PyProof.Rows DD
end L2
set_option maxRecDepth 100000
namespace L2
open PySem PySem.Spec PyProof.Rows DD
theorem insert_arr (us : List Value) (y : Value) {i : Int} (h0 : 0 ≤ i) (h1 : i ≤ us.length) :
    (fun xs : Array Value => have k := if i < 0 then (i + ((xs.size : Nat) : Int)).toNat else min i.toNat xs.size; (xs.extract 0 k).push y ++ xs.extract k) us.toArray = (us.take i.toNat ++ y :: us.drop i.toNat).toArray := by
  have e : (if i < 0 then (i + ((us.toArray.size : Nat) : Int)).toNat else min i.toNat us.toArray.size) = i.toNat := by
    rw [if_neg (by omega), List.size_toArray]
    omega
  show ((us.toArray.extract 0 (if i < 0 then (i + ((us.toArray.size : Nat) : Int)).toNat else min i.toNat us.toArray.size)).push y ++ us.toArray.extract (if i < 0 then (i + ((us.toArray.size : Nat) : Int)).toNat else min i.toNat us.toArray.size)) = _
  rw [e]
  simp [List.extract_eq_take_drop, List.append_assoc]
  exact List.take_of_length_le (by rw [List.length_drop]; omega)
theorem Vals.take' {xs : List V} {us : List Value} (h : Vals xs us) : ∀ k, Vals (xs.take k) (us.take k) := by
  induction h with
  | nil => intro k; simp only [List.take_nil]; exact .nil
  | cons r t ih =>
    intro k
    cases k with
    | zero => exact .nil
    | succ k => exact .cons r (ih k)
theorem Vals.drop' {xs : List V} {us : List Value} (h : Vals xs us) : ∀ k, Vals (xs.drop k) (us.drop k) := by
  induction h with
  | nil => intro k; simp only [List.drop_nil]; exact .nil
  | cons r t ih =>
    intro k
    cases k with
    | zero => exact .cons r t
    | succ k => exact ih k
def rInsert : V → List V → Hp → VK → Prop := fun x vs H Q => ∃ l xs i y, x = .ref l ∧ vs = [.int i, y] ∧ H l = some (.lst xs) ∧ (0 ≤ i ∧ i ≤ (xs.length : Int)) ∧ xs.length < sizeLine ∧ Q .non (upd H l (.lst (xs.take i.toNat ++ y :: xs.drop i.toNat)))
theorem mt_insert {X : Cx} : MtM X "list.insert" rInsert := by
  intro pins s σ H x vs v us Q I rx rv h
  obtain ⟨l, xs, i, y, rfl, rfl, hH, hi, hz, q⟩ := h
  cases rx
  obtain ⟨u, w', rfl, ⟨t, rfl⟩, rw'⟩ := rv.two
  obtain ⟨z, its, n, r, hl, e⟩ := I.lstM hH
  have len := r.length
  have hn := line63
  have fits : ¬ (!Builtin.List.listFitsIndex i) = true := by
    unfold Builtin.List.listFitsIndex
    rw [decide_eq_true (by omega), decide_eq_true (by omega)]
    decide
  refine call_meets F.slot_list_insert ⟨_, e, rfl⟩ F.entry_list_insert (F.args_list_insert_3 _ _ _) (AutoListH.list_insert_list_int_val_1 l its.toArray n i t w' fits (by rw [List.size_toArray]; omega)) ⟨e, ?_⟩
  refine ⟨.non, _, I.lset (its' := its.take i.toNat ++ w' :: its.drop i.toNat) hH e (insert_arr its w' hi.1 (by omega)) ((r.take' _).append (.cons rw' (r.drop' _))) ?_, rfl, q⟩
  rw [List.length_append, List.length_cons, List.length_take, List.length_drop]
  omega
end L2
namespace Mine
open PySem L2
open L2 DD
def F3 (nm : Str) (c b a : Int) : Fm.T := [(Fm.prodD [], c), (Fm.prodD [(nm, 1)], b), (Fm.prodD [(nm, 2)], a)].filter fun p => decide (p.2 ≠ 0)
theorem NumG.ok {m k : Nat} {H : Hp} {x : Addr} {z : M.Nm} (h : NumG m k H x z.p z.q z.r z.s) : z.Ok := ⟨h.r0, h.s0⟩
end Mine
set_option maxRecDepth 100000
namespace L2
open PySem PySem.Spec PyProof.Rows DD
inductive From : Option Int → Nat → Prop
  | all : From none 0
  | at (k : Nat) : From (some (k : Int)) k
section
variable {prog : Program} {w : World} {A : Around} {E : Value → Shared → Prop} {s : Shared}
end
section
variable {X : Cx}
end
end L2
namespace DD
open PySem PySem.SeqAt PySem.W PyProof.Rows PySem.Calls
section
variable {prog : Program} {w : World} {A : Around} {E : Value → Shared → Prop} {s : Shared}
theorem _root_.PySem.Heap.IsTupleIter.at' {h h' : Heap} {a t i} (x : h.IsTupleIter a t i) (k : ∀ o, h.get? a = some o → h'.get? a = some o) : h'.IsTupleIter a t i := let ⟨o, ho, r⟩ := x; ⟨o, k o ho, r⟩
structure ZipS (h : Heap) (z TI TO i1 i2 t l : Addr) (x0 : Value) (k : Nat) : Prop where
  zp : ∃ f : Bool, h.get? z = some { cls := .type "zip", dict := none, data := .fields #[x0, .bool f, .bool false, .ref TI, .ref TO], slots := #[] }
  ti : IsPair h TI (.ref i1) (.ref i2)
  to : ∃ a b, IsPair h TO a b
  a1 : h.IsTupleIter i1 t k
  a2 : h.IsListIter i2 l k
theorem ZipS.keep {h h' : Heap} {z TI TO i1 i2 t l : Addr} {x0 : Value} {k : Nat} (Z : ZipS h z TI TO i1 i2 t l x0 k) (e0 : ∀ o, h.get? z = some o → h'.get? z = some o) (e1 : ∀ o, h.get? TI = some o → h'.get? TI = some o) (e2 : ∀ o, h.get? TO = some o → h'.get? TO = some o)
    (e3 : ∀ o, h.get? i1 = some o → h'.get? i1 = some o) (e4 : ∀ o, h.get? i2 = some o → h'.get? i2 = some o) : ZipS h' z TI TO i1 i2 t l x0 k :=
  ⟨let ⟨f, a⟩ := Z.zp; ⟨f, e0 _ a⟩, e1 _ Z.ti, let ⟨a, b, c⟩ := Z.to; ⟨a, b, e2 _ c⟩, Z.a1.at' e3, Z.a2.at e4⟩
end
section
variable {prog : Program} {w : World} {A : Around} {E : Value → Shared → Prop} {s : Shared} {K : Type} [DecidableEq K] {knd : KeyKind prog w K}
end
end DD
namespace L2
open PySem PySem.Spec PyProof.Rows DD
section
variable {X : Cx} {p p2 pos pos2 : Pos} {e1 : Expr} {es : List Expr} {t : TA}
end
end L2
namespace Fm
open DD PySem L2
end Fm
namespace Fm
open DD PySem L2
end Fm
namespace L2
open PySem PySem.Spec PyProof.Rows DD
def PJ (X : Cx) (es : List Expr) (t : Str → TE) : Prop :=
  ∀ (out : Str) (pins : List (Addr × Obj)) (s : Shared) (σ : St) (H : Hp) (Q : VK), Inv X pins σ H s → t out σ H Q → wpAny (model X.prog X.w) X.A (joinParts out (evalEach es X.env)) (EP X pins σ Q) X.xe s
def tJn : Str → TE := fun out _ H Q => out.length ≤ sizeLine ∧ Q (.str out) H
def tJ (te : TE) (t : Str → TE) : Str → TE := fun out σ H Q => te σ H fun x H1 => ∃ y, x = .str y ∧ y.length ≤ sizeLine ∧ (out ++ y).length ≤ sizeLine ∧ t (out ++ y) σ H1 Q
section
variable {X : Cx} {e : Expr} {es : List Expr} {te : TE} {t : Str → TE} {pos : Pos}
theorem pj_nil : PJ X [] tJn := by
  intro out pins s σ H Q I h
  exact PyProof.Rows.joinParts_nil ⟨.str out, H, I.tok _, ⟨_, rfl⟩, h.2⟩ h.1
theorem pj_plain (he : PE X e te) (hs : PJ X es t) (hev : evalEach (e :: es) X.env = eval e X.env :: evalEach es X.env := by rfl) : PJ X (e :: es) (tJ te t) := by
  intro out pins s σ H Q I h
  rw [hev]
  refine PyProof.Rows.joinParts_cons (thn (he pins s σ H _ I h) fun v s1 ⟨x, H1, I1, r1, y, ex, _, l2, q⟩ => ?_)
  subst ex
  obtain ⟨k, rfl⟩ := r1
  exact ⟨l2, hs _ pins s1 σ H1 Q I1 q⟩
theorem pj_fmt {p2 : Pos} (he : PE X e te) (hs : PJ X es t) (hev : evalEach (.FormattedValue e (-1) none p2 :: es) X.env = eval (.FormattedValue e (-1) none p2) X.env :: evalEach es X.env := by rfl) : PJ X (.FormattedValue e (-1) none p2 :: es) (tJ te t) := by
  intro out pins s σ H Q I h
  rw [hev]
  refine PyProof.Rows.joinParts_cons (PyProof.Rows.FormattedValue_plain (thn (he pins s σ H _ I h) fun v s1 ⟨x, H1, I1, r1, y, ex, l1, l2, q⟩ => ?_))
  subst ex
  obtain ⟨k, rfl⟩ := r1
  exact PyProof.Rows.formatField_str (fun t' tk => ⟨l2, hs _ pins _ σ H1 Q (I1.tok _) q⟩) l1
def tFs (t : Str → TE) : TE := fun σ H Q => t Str.empty σ H Q
theorem pe_fstr {v1 v2 : Expr} {rest : List Expr} (h : PJ X (v1 :: v2 :: rest) t) (hev : evalEach (v1 :: v2 :: rest) X.env = eval v1 X.env :: eval v2 X.env :: evalEach rest X.env := by rfl) : PE X (.JoinedStr (v1 :: v2 :: rest) pos) (tFs t) := by
  intro pins s σ H Q I q
  refine PyProof.Rows.JoinedStr_many ?_
  rw [← hev]
  exact h _ pins s σ H Q I q
theorem strs_toks : ∀ {ts : List Str} {its : List Value}, Vals (ts.map V.str) its → ∃ ps : List (Str × Tok), its = strValues ps ∧ ps.map (·.1) = ts
  | [], _, h => by cases h; exact ⟨[], rfl, rfl⟩
  | x :: ts, _, h => by
    cases h with
    | cons r h =>
      obtain ⟨k, rfl⟩ := r
      obtain ⟨ps, rfl, rfl⟩ := strs_toks h
      exact ⟨(x, k) :: ps, rfl, rfl⟩
theorem mt_join : MtR X "str.join" (fun x vs H Q => ∃ (sep : Str) (l : Addr) (ts : List Str), x = .str sep ∧ vs = [.ref l] ∧ H l = some (.lst (ts.map V.str)) ∧ JoinOk sep ts = true ∧ Q (.str (Txt.join sep ts)) H) := by
  intro pins s σ H x vs v us Q I rx rv h
  obtain ⟨sep, l, ts, rfl, rfl, hl, ok, q⟩ := h
  obtain ⟨k, rfl⟩ := rx
  obtain ⟨u, rfl, ru⟩ := vals1 rv
  cases ru
  obtain ⟨its, rs, p, _⟩ := I.list (SqL.of hl)
  obtain ⟨ps, rfl, e⟩ := strs_toks rs
  exact PySem.SC.join p.isList e ok fun t' k => ⟨.str _, H, I.tok _, ⟨t', rfl⟩, q⟩
end
end L2
namespace L2
open PySem PySem.Spec PyProof.Rows DD PySem.SeqAt
structure KD (P : Program) (w : World) (K : PySem.W.Frag) (a : Addr) (kvs : List (Key × V)) : Prop where
  ex : ∃ (o : Obj) (es : Array DictEntry) (ep : Nat) (vs : List (Key × Value)), K.lookup a = some o ∧ o.ExactDict ∧ o.data = .dict es ep ∧ KeysOf (mixKind P w) es ∧ Pairs (mixKind P w) es.toList vs ∧ (vs.map (·.1)).Nodup ∧ KV kvs vs
  ns : (a == sysModules) = false
section
variable {X : Cx}
theorem KD.of {pins : List (Addr × Obj)} {σ : St} {H : Hp} {s : Shared} {a : Addr} {kvs : List (Key × V)} (I : Inv X pins σ H s) (k : KD X.prog X.w X.K a kvs) : ∃ vs, KV kvs vs ∧ s.heap.DictOf (mixKind X.prog X.w) a vs := by
  obtain ⟨o, es, ep, vs, h1, h2, h3, h4, h5, h6, h7⟩ := k.ex
  exact ⟨vs, h7, o, es, ep, I.kIn a o h1, h2, h3, h4, h5, h6⟩
theorem op_inKD : OpR X (compareOp .In) (fun x y H Q => ∃ a kvs k, y = .ref a ∧ KD X.prog X.w X.K a kvs ∧ x = kV k ∧ Q (.bl (valV kvs k).isSome) H) := by
  intro pins s σ H x y v u Q I rx ry h
  obtain ⟨a, kvs, k, rfl, kd, rfl, q⟩ := h
  cases ry
  obtain ⟨vs, rel, dd⟩ := kd.of I
  refine wpAny_in_of (kV_is rx) kd.ns dd.mapOf ?_
  rw [← (rel.val k).isSome_eq]
  exact ⟨.bl _, H, I.tok _, rfl, q⟩
def tDGetK (P : Program) (w : World) (K : PySem.W.Frag) (td ty : TE) : TE := fun σ H Q => td σ H fun x H1 => ty σ H1 fun y H2 => ∃ a kvs k v, x = .ref a ∧ KD P w K a kvs ∧ y = kV k ∧ valV kvs k = some v ∧ Q v H2
theorem pe_dgetK {o i : Expr} {td ty : TE} {pos : Pos} (ho : PE X o td) (hi : PE X i ty) (hs : NoSl i) : PE X (.Subscript o i pos) (tDGetK X.prog X.w X.K td ty) := by
  intro pins s σ H Q I h
  refine subD_of PySem.F.slot_dict_getitem.lookup hs (thn (ho pins s σ H _ I h) fun u s1 ⟨x, H1, I1, rx, q1⟩ => thn (hi pins s1 σ H1 _ I1 q1) fun iv s2 ⟨y, H2, I2, ry, a, kvs, k, v, ex, kd, ey, hv, q2⟩ => ?_)
  subst ex
  subst ey
  obtain rfl : u = Value.ref a := rx
  obtain ⟨vs, rel, dd⟩ := kd.of I2
  obtain ⟨w', hw, rw'⟩ := RelO.some_of (v := v) (o := valueAt vs k) (by rw [← hv]; exact rel.val k)
  exact ⟨dd.typeIs, wpAny_getItem_of (kV_is ry) dd.mapOf hw ⟨v, H2, I2.tok _, rw', q2⟩⟩
theorem op_notin_l (hu : X.A.units + 64 < cLine) : OpR X (compareOp .NotIn) (fun x y H Q => ∃ a ys ds d, y = .ref a ∧ SqL X.K H a ys ∧ All2 (DV H) ds ys ∧ DV H d x ∧ DD.dep d ≤ 60 ∧ (∀ e ∈ ds, DD.dep e ≤ 60) ∧ Q (.bl (!decide (d ∈ ds))) H) := by
  intro pins s σ H x y v u Q I rx ry h
  obtain ⟨a, ys, ds, d, rfl, h1, al, hd, d1, d2, q⟩ := h
  cases ry
  obtain ⟨its, r1, p1, _⟩ := I.list h1
  have al' := is_all I.hok al r1
  have hx := hd.is I.hok rx
  have eu : X.A.in1.units = X.A.units + 1 := rfl
  classical
  refine notIn_listAt (fun y => decide (Is s.heap d y)) p1.isList (fun y hy => ?_) ?_
  · obtain ⟨j, hj, ej⟩ := List.getElem_of_mem (show y ∈ its by simpa using hy)
    have j2 : j < ds.length := by rw [al'.length]; exact hj
    have is := al'.get j j2 hj
    rw [ej] at is
    have z := eqAt (A := X.A.in1) is hx (by have := d2 _ (List.getElem_mem j2); omega) (by omega)
    have e : decide (ds[j] = d) = decide (Is s.heap d y) := decide_eq_decide.mpr ⟨fun k => k ▸ is, fun k => is.inj k⟩
    rw [← e]
    exact z
  · refine ⟨.bl _, H, I, rfl, ?_⟩
    have e : its.toArray.any (fun y => decide (Is s.heap d y)) = decide (d ∈ ds) := by
      rw [Bool.eq_iff_iff, List.any_toArray, List.any_eq_true, decide_eq_true_iff]
      constructor
      · rintro ⟨y, hy, k⟩
        obtain ⟨j, hj, ej⟩ := List.getElem_of_mem hy
        have j2 : j < ds.length := by rw [al'.length]; exact hj
        have is := al'.get j j2 hj
        rw [ej] at is
        rw [(of_decide_eq_true k).inj is]
        exact List.getElem_mem j2
      · intro m
        obtain ⟨j, hj, ej⟩ := List.getElem_of_mem m
        have j2 : j < its.length := by rw [← al'.length]; exact hj
        exact ⟨its[j], List.getElem_mem j2, decide_eq_true (ej ▸ al'.get j hj j2)⟩
    rw [e]
    exact q
theorem mt_index : MtR X "list.index" (fun x vs H Q => ∃ (l : Addr) (ts : List Str) (y : Str), x = .ref l ∧ vs = [.str y] ∧ H l = some (.lst (ts.map V.str)) ∧ y ∈ ts ∧ Q (.int (ts.idxOf y : Nat)) H) := by
  intro pins s σ H x vs v us Q I rx rv h
  obtain ⟨l, ts, y, rfl, rfl, hl, my, q⟩ := h
  cases rx
  obtain ⟨u, rfl, k, rfl⟩ := vals1 rv
  obtain ⟨z, its, n, r, _, e⟩ := I.lstM hl
  obtain ⟨ps, rfl, et⟩ := strs_toks r
  have lt := List.idxOf_lt_length_of_mem my
  have lp : ps.length = ts.length := by rw [← et, List.length_map]
  have sv : ∀ (j : Nat) (hj : j < (strValues ps).toArray.size), (strValues ps).toArray[j] = .str (ts[j]'(by simp [strValues] at hj; omega)) (ps[j]'(by simpa [strValues] using hj)).2 := fun j hj => by
    subst et
    simp [strValues]
  let f : Value → Bool := fun v => match v with | .str t _ => t == y | _ => false
  refine call_meets PySem.F.slot_list_index ⟨_, e, rfl⟩ PySem.F.entry_list_index (PySem.F.args_list_index_2 _ _) (list_indexAt l (strValues ps).toArray n _ _ (.str y k) f (ts.idxOf y) (by simp [strValues]; omega) (by
    have : ts.length ≤ sizeLine := by simpa using z
    have s2 : sizeLine < 2 ^ 62 := by decide
    omega) (by rw [sv]; show (ts[ts.idxOf y] == y) = true; rw [List.getElem_idxOf lt]; exact beq_self_eq_true _) (fun m hm h1 => ?_)) ⟨e, fun v hv => ?_, .int _, H, I.tok _, ⟨_, rfl⟩, q⟩
  · rw [sv]
    show (ts[m] == y) = false
    have := List.not_of_lt_findIdx (show m < ts.findIdx (· == y) from h1)
    simpa using this
  · obtain ⟨j, hj, ej⟩ := List.getElem_of_mem (show v ∈ strValues ps by simpa using hv)
    obtain ⟨p, hp, rfl⟩ := List.mem_map.mp (show v ∈ ps.map (fun p => Value.str p.1 p.2) from ej ▸ List.getElem_mem hj)
    exact EqAt.str_str _ _ _ _
theorem op_mul_str01 : OpR X (binaryOp .Mult) (fun x y H Q => ∃ (i : Str) (k : Int), x = .str i ∧ y = .int k ∧ (k = 0 ∨ k = 1) ∧ i.length ≤ 1000 ∧ Q (.str (if k = 0 then Str.empty else i)) H) := by
  intro pins s σ H x y v u Q I rx ry h
  obtain ⟨i, k, rfl, rfl, h1, h3, q⟩ := h
  obtain ⟨t, rfl⟩ := rx
  obtain ⟨t', rfl⟩ := ry
  have nl : Builtin.Str.tooLong (i.length * k.toNat) = false := by
    unfold Builtin.Str.tooLong
    exact decide_eq_false (Nat.not_lt.mpr (small10 (by rcases h1 with rfl | rfl <;> simp <;> omega)))
  refine PySem.P.mul_str (by rw [decide_eq_false (by omega), decide_eq_false (by omega)]; rfl) (fun hk _ c => ?_) (fun _ _ => nl) ?_
  · rcases h1 with rfl | rfl
    · first | omega | exact absurd hk (by decide) | exact absurd hk (by simp)
    · have : (1000 : Int) < 2 ^ 63 - 1 := by decide
      simp at c
      omega
  · rcases h1 with rfl | rfl
    · rw [if_pos (by decide)] at q ⊢
      exact ⟨by decide, .str _, H, I.tok _, ⟨_, rfl⟩, q⟩
    · rw [if_neg (by decide)] at q
      rw [if_neg (by decide), if_pos (by simp)]
      exact ⟨.str _, H, I, ⟨_, rfl⟩, q⟩
end
end L2
namespace Fm
open DD PySem L2
theorem ofS_app (a b : String) : Str.ofString (a ++ b) = Str.ofString a ++ Str.ofString b := by
  rw [Str.ofString_eq_toList, Str.ofString_eq_toList, Str.ofString_eq_toList]
  show _ = (⟨(a.toList.map Char.toNat).toArray ++ (b.toList.map Char.toNat).toArray⟩ : Str)
  simp
theorem num_neg {n : Int} (h : n < 0) : Str.ofString (toString n) = ("-" : Str) ++ Str.ofString (toString (-n)) := by
  rw [PyProof.Rows.toString_neg h, ofS_app, Int.zero_sub]
theorem num_full {n : Int} (h : 0 ≤ n) : Str.ofString (toString n) ≠ "" := by
  intro e
  have l := congrArg Str.length e
  rw [PyProof.Rows.ofString_length] at l
  obtain ⟨m, rfl⟩ := Int.eq_ofNat_of_zero_le h
  have z := PySem.toDigits_len_ge 10 m
  have e2 : (toString ((m : Nat) : Int)).toList = Nat.toDigits 10 m := by
    show (Nat.repr m).toList = _
    unfold Nat.repr
    simp
  rw [e2] at l
  have : (Str.ofString "").length = 0 := rfl
  omega
theorem neg_full (t : Str) : ("-" : Str) ++ t ≠ "" := by
  intro e
  have l := congrArg Str.length e
  rw [Str.length_append] at l
  have h1 : (Str.ofString "-").length = 1 := rfl
  have h2 : (Str.ofString "").length = 0 := rfl
  omega
end Fm
namespace Mine
open PySem L2
def top (i : Nat) : Stmt := PySem.Challenge.pw_realsay_k33_brackets_shown.main.body.getD i (.Pass ⟨0, 0, 0, 0⟩)
open L2 DD
theorem list_0 {α : Type} {l : List α} (h : l.length = 0) : l = [] := List.eq_nil_of_length_eq_zero h
theorem list_s {α : Type} {l : List α} {n : Nat} (h : l.length = n + 1) : ∃ a r, l = a :: r ∧ r.length = n := by
  cases l with
  | nil => cases h
  | cons a r => exact ⟨a, r, rfl, Nat.succ.inj h⟩
theorem list_1 {α : Type} {l : List α} (h : l.length = 1) : ∃ a, l = [a] := by
  obtain ⟨a, r, rfl, k⟩ := list_s h
  rw [list_0 k]
  exact ⟨a, rfl⟩
theorem list_2 {α : Type} {l : List α} (h : l.length = 2) : ∃ a b, l = [a, b] := by
  obtain ⟨a, r, rfl, k⟩ := list_s h
  obtain ⟨b, rfl⟩ := list_1 k
  exact ⟨a, b, rfl⟩
theorem list_3 {α : Type} {l : List α} (h : l.length = 3) : ∃ a b c, l = [a, b, c] := by
  obtain ⟨a, r, rfl, k⟩ := list_s h
  obtain ⟨b, c, rfl⟩ := list_2 k
  exact ⟨a, b, c, rfl⟩
abbrev pv_ (p : DD.D × Int) : DD.D × V := (p.1, .int p.2)
structure Sums (H H2 : Hp) (d : Addr) (ps : Fm.T) (t : Fm.T) : Prop where
  at_ : New H H2 d (.dT (t.map pv_))
  nk : Fm.Nk t
  tt : ∀ k, Fm.tot t k = Fm.tot ps k
  len : t.length ≤ ps.length
  pr : ∀ k ∈ t.map (·.1), Fm.IsProd k
theorem Sums.add {H H2 : Hp} {d : Addr} {ps t : Fm.T} {k : DD.D} {n : Int} (S : Sums H H2 d ps t) (hk : Fm.IsProd k) : Sums H (upd H2 d (.dT ((Fm.setI t k (Fm.tot t k + n)).map pv_))) d (ps ++ [(k, n)]) (Fm.setI t k (Fm.tot t k + n)) where
  at_ := S.at_.set (Same.refl _)
  nk := Fm.setI_nk S.nk _ _
  tt := fun x => by
    rw [Fm.tot_setI S.nk, Fm.tot_append, Fm.tot_cons, Fm.tot_nil, Int.add_zero]
    by_cases e : x = k
    · subst e
      rw [if_pos rfl, if_pos rfl, S.tt]
    · rw [if_neg e, if_neg (fun h => e h.symm), Int.add_zero, S.tt]
  len := by
    have := Fm.setI_len t k (Fm.tot t k + n)
    have := S.len
    rw [List.length_append]
    simp
    omega
  pr := fun x hx => (Fm.setI_mem hx).elim (S.pr x) fun e => e ▸ hk
theorem Sums.items {H H2 : Hp} {d : Addr} {ps t : Fm.T} (S : Sums H H2 d ps t) : DItems H2 d (t.map fun p => (p.1, .int p.2)) := .inl ⟨_, .inl S.at_.2.2, All2.of_get (by simp) fun i h1 h2 => by
  rw [List.getElem_map, List.getElem_map]
  exact ⟨rfl, by simp only [DV]⟩⟩
theorem dv_part {H : Hp} {p : Str × Int} {v : V} : DV H (ofL [.str p.1, .int p.2]) v ↔ ∃ c, v = .ref c ∧ H c = some (.tup [.str p.1, .int p.2]) := by
  rw [dv_tup]
  constructor
  · rintro ⟨a, vs, rfl, h, al⟩
    cases al with
    | cons h1 t =>
      cases t with
      | cons h2 t =>
        cases t
        rename_i x y
        obtain rfl : x = .str p.1 := by simpa only [DV] using h1
        obtain rfl : y = .int p.2 := by simpa only [DV] using h2
        exact ⟨a, rfl, h⟩
  · rintro ⟨a, rfl, h⟩
    exact ⟨a, _, rfl, h, .cons (by simp only [DV]) (.cons (by simp only [DV]) .nil)⟩
theorem at_k {xs : List V} {k : Int} {i : Nat} (e : k = (i : Int)) (h : i < xs.length) : atI xs k = some xs[i] := by
  rw [e]
  exact atI_nat (by simp [h])
theorem len_sub {α : Type} [DecidableEq α] : ∀ {l m : List α}, l.Nodup → (∀ x ∈ l, x ∈ m) → l.length ≤ m.length
  | [], _, _, _ => Nat.zero_le _
  | a :: l, m, n, h => by
    rw [List.nodup_cons] at n
    have am := h a List.mem_cons_self
    have z := len_sub (l := l) (m := m.erase a) n.2 fun x hx => (List.mem_erase_of_ne (show x ≠ a from fun e => n.1 (e ▸ hx))).mpr (h x (List.mem_cons_of_mem _ hx))
    have p := List.length_pos_of_mem am
    rw [List.length_erase_of_mem am] at z
    show l.length + 1 ≤ m.length
    omega
theorem form_len {ps F : Fm.T} (h : Fm.IsForm ps F) : F.length ≤ ps.length := by
  have n : (F.map (·.1)).Nodup := List.pairwise_map.mpr (h.1.imp fun {a b} r e => by rw [e, DD.lt_irrefl] at r; cases r)
  have z := len_sub (m := ps.map (·.1)) n fun x hx => by
    obtain ⟨p, hp, rfl⟩ := List.mem_map.mp hx
    have w := (h.2 p.1 p.2).mp hp
    exact Classical.byContradiction fun c => w.1 (by rw [w.2, Fm.tot_no c])
  rw [List.length_map, List.length_map] at z
  exact z
theorem dep_all : ∀ {ds : List DD.D} {n : Nat}, (∀ d ∈ ds, DD.dep d ≤ n) → DD.dep (DD.ofL ds) ≤ n + 1
  | [], _, _ => by simp [DD.ofL, DD.dep]
  | d :: ds, n, h => by
    have h1 := h d List.mem_cons_self
    have h2 := dep_all (ds := ds) (n := n) fun x hx => h x (List.mem_cons_of_mem _ hx)
    simp only [DD.ofL, DD.dep]
    omega
structure Joins (H H2 : Hp) (d : Addr) (l r t : List (Str × Int)) : Prop where
  at_ : New H H2 d (.dK (t.map Fm.pk))
  nd : (t.map (·.1)).Nodup
  pos : ∀ p ∈ t, 1 ≤ p.2
  nam : ∀ x ∈ t.map (·.1), x ∈ l.map (·.1) ∨ x ∈ r.map (·.1)
  len : t.length ≤ l.length + r.length
  dg : Fm.deg t = Fm.deg l + Fm.deg r
  mo : ∀ pt, Fm.mon pt t = Fm.mon pt l * Fm.mon pt r
theorem Joins.add {H H2 : Hp} {d : Addr} {l r t : List (Str × Int)} {k : Str} {n : Int} (S : Joins H H2 d l r t) (hn : 1 ≤ n) : Joins H (upd H2 d (.dK ((Fm.addS t k n).map Fm.pk))) d l (r ++ [(k, n)]) (Fm.addS t k n) where
  at_ := S.at_.set (Same.refl _)
  nd := Fm.addS_nd k n S.nd
  pos := Fm.addS_pos k hn S.pos
  nam := fun x hx => by
    rw [List.map_append]
    rcases Fm.addS_names k n hx with h | rfl
    · exact (S.nam x h).imp id fun z => List.mem_append.mpr (.inl z)
    · exact .inr (List.mem_append.mpr (.inr List.mem_cons_self))
  len := by
    have h1 := Fm.addS_len k n t
    have h2 := S.len
    rw [List.length_append]
    show _ ≤ l.length + (r.length + 1)
    omega
  dg := by
    rw [Fm.addS_deg, S.dg, Fm.deg_app]
    show _ = Fm.deg l + (Fm.deg r + (n + 0))
    omega
  mo := fun pt => by
    rw [Fm.addS_mon pt k (by omega) S.pos, S.mo, Fm.mon_app]
    show _ = Fm.mon pt l * (Fm.mon pt r * (Fm.pw (pt k) n.toNat * 1))
    rw [Int.mul_one, Int.mul_assoc]
theorem Joins.items {H H2 : Hp} {d : Addr} {l r t : List (Str × Int)} (S : Joins H H2 d l r t) : DItems H2 d (t.map fun p => (DD.D.str p.1, DD.D.int p.2)) := .inr ⟨_, .inl S.at_.2.2, All2.of_get (by simp) fun i h1 h2 => by
  rw [List.getElem_map, List.getElem_map]
  exact ⟨by simp only [DV]; rfl, by simp only [DV]⟩⟩
abbrev FormAt (H : Hp) (a : Addr) (F : Fm.T) : Prop := DV H (ofL (F.map Fm.pairD)) (.ref a)
theorem OkF_mono {nms : List Str} {c c' : Int} {b b' : Nat} {F : Fm.T} (h : Fm.OkF nms c b F) (hc : c ≤ c') (hb : b ≤ b') : Fm.OkF nms c' b' F := fun p hp => by
  obtain ⟨⟨l, e, r, z, d⟩, n⟩ := h p hp
  exact ⟨⟨l, e, r, z, Int.le_trans d hc⟩, Nat.le_trans n hb⟩
structure Drw (H : Hp) (r : Addr) (nms : List Str) (F : Fm.T) : Prop where
  at_ : FormAt H r F
  ok : Fm.OkF nms 27 (7 * 10 ^ 28) F
  len : F.length ≤ 7
  nz : ∀ p ∈ F, p.2 ≠ 0
  ri : F.Pairwise (fun a b => DD.lt a.1 b.1 = true)
theorem Drw.mono {H H' : Hp} {r : Addr} {nms : List Str} {F : Fm.T} (d : Drw H r nms F) (s : Same H H') : Drw H' r nms F := ⟨s.dv d.at_, d.ok, d.len, d.nz, d.ri⟩
theorem Drw.of {H : Hp} {r : Addr} {nms : List Str} {ps F : Fm.T} (f : Fm.IsForm ps F) (o : Fm.OkF nms 27 (10 ^ 28) ps) (n : ps.length ≤ 7) (v : FormAt H r F) : Drw H r nms F where
  at_ := v
  ok := OkF_mono (o.form f) (Int.le_refl _) (Nat.mul_le_mul_right _ n)
  len := Nat.le_trans (form_len f) n
  nz := fun p hp => ((f.2 p.1 p.2).mp hp).1
  ri := f.1
theorem Drw.neg {H H' : Hp} {r r' : Addr} {nms : List Str} {F : Fm.T} (d : Drw H r nms F) (v : FormAt H' r' (Fm.negT F)) : Drw H' r' nms (Fm.negT F) where
  at_ := v
  ok := fun p hp => by
    obtain ⟨q, hq, rfl⟩ := List.mem_map.mp hp
    exact ⟨(d.ok q hq).1, by show (-q.2).natAbs ≤ _; rw [Int.natAbs_neg]; exact (d.ok q hq).2⟩
  len := by unfold Fm.negT; rw [List.length_map]; exact d.len
  nz := fun p hp => by
    obtain ⟨q, hq, rfl⟩ := List.mem_map.mp hp
    have := d.nz q hq
    show -q.2 ≠ 0
    omega
  ri := List.pairwise_map.mpr d.ri
theorem at_last {xs : List V} (h : 0 < xs.length) : atI xs (-1) = some xs[xs.length - 1] := by
  have wi : xs.length - 1 < xs.length := by omega
  have we : xs = xs.take (xs.length - 1) ++ [xs[xs.length - 1]] := by
    have h1 : xs.take (xs.length - 1 + 1) = xs.take (xs.length - 1) ++ [xs[xs.length - 1]] := by rw [List.take_add_one, List.getElem?_eq_getElem wi]; rfl
    rw [show xs.length - 1 + 1 = xs.length by omega, List.take_length] at h1
    exact h1
  have h1 := atI_last (xs.take (xs.length - 1)) xs[xs.length - 1]
  rw [← we] at h1
  exact h1
theorem ofL_full {l : List DD.D} (h : l ≠ []) : DD.ofL l ≠ DD.ofL [] := by
  cases l with
  | nil => exact absurd rfl h
  | cons x l => exact fun e => by cases e
structure Dr (H : Hp) (r : Addr) (nms : List Str) (c : Int) (bd n : Nat) (F : Fm.T) : Prop where
  at_ : FormAt H r F
  ok : Fm.OkF nms c bd F
  len : F.length ≤ n
  nz : ∀ p ∈ F, p.2 ≠ 0
  ri : F.Pairwise (fun a b => DD.lt a.1 b.1 = true)
theorem Dr.mono {H H' : Hp} {r : Addr} {nms : List Str} {c : Int} {bd n : Nat} {F : Fm.T} (d : Dr H r nms c bd n F) (s : Same H H') : Dr H' r nms c bd n F := ⟨s.dv d.at_, d.ok, d.len, d.nz, d.ri⟩
theorem Dr.of {H : Hp} {r : Addr} {nms : List Str} {c : Int} {bd n : Nat} {ps F : Fm.T} (f : Fm.IsForm ps F) (o : Fm.OkF nms c bd ps) (h : ps.length ≤ n) (v : FormAt H r F) : Dr H r nms c (n * bd) n F where
  at_ := v
  ok := OkF_mono (o.form f) (Int.le_refl _) (Nat.mul_le_mul_right _ h)
  len := Nat.le_trans (form_len f) h
  nz := fun p hp => ((f.2 p.1 p.2).mp hp).1
  ri := f.1
theorem Dr.take {H H' : Hp} {r r' : Addr} {nms : List Str} {c : Int} {bd n : Nat} {F : Fm.T} (d : Dr H r nms c bd n F) (s : Same H H') (k : Nat) (h : ∀ xs, H r = some (.tup xs) → H' r' = some (.tup (xs.take k))) : Dr H' r' nms c bd (min k n) (F.take k) where
  at_ := by
    obtain ⟨_, xs, e, hx, al⟩ := dv_tup.mp d.at_
    cases e
    refine dv_tup.mpr ⟨r', _, rfl, h xs hx, ?_⟩
    rw [List.map_take]
    exact all2_take k (all_dv (fun _ _ z => s.dv z) al)
  ok := fun p hp => d.ok p (List.mem_of_mem_take hp)
  len := by
    have := d.len
    rw [List.length_take]
    omega
  nz := fun p hp => d.nz p (List.mem_of_mem_take hp)
  ri := d.ri.sublist (List.take_sublist _ _)
theorem eqV_str (y x : Str) : eqV (.str y) (.str x) = decide (x = y) := by
  show (y == x) = _
  rw [Bool.eq_iff_iff, beq_iff_eq, decide_eq_true_iff]
  exact eq_comm
theorem inV2 (x y z : Str) : inV (.str x) [.str y, .str z] = decide (x = y ∨ x = z) := by
  unfold inV
  simp [eqV_str]
theorem inV3 (x y z u : Str) : inV (.str x) [.str y, .str z, .str u] = decide (x = y ∨ x = z ∨ x = u) := by
  unfold inV
  simp [eqV_str]
theorem inV4 (x y z u v : Str) : inV (.str x) [.str y, .str z, .str u, .str v] = decide (x = y ∨ x = z ∨ x = u ∨ x = v) := by
  unfold inV
  simp [eqV_str]
theorem at0 {x : V} {ys : List V} : atI (x :: ys) 0 = some x := at_k (xs := x :: ys) (k := 0) (i := 0) rfl (by simp)
theorem at1 {x y : V} {ys : List V} : atI (x :: y :: ys) 1 = some y := at_k (xs := x :: y :: ys) (k := 1) (i := 1) rfl (by simp)
theorem at2 {x y z : V} {ys : List V} : atI (x :: y :: z :: ys) 2 = some z := at_k (xs := x :: y :: z :: ys) (k := 2) (i := 2) rfl (by simp)
def kvS : List (Key × V) := [(.inr "less", .str "<"), (.inr "most", .str "<="), (.inr "equal", .str "="), (.inr "unlike", .str "/=")]
structure Cons (P : Program) (w : World) (K : PySem.W.Frag) (mg : Str → Option Value) (aS aB aO : Addr) : Prop where
  c_SIGNS : mg "SIGNS" = some (.ref aS)
  c_IN_BRACKETS : mg "IN_BRACKETS" = some (.ref aB)
  c_SIGNS_OF : mg "SIGNS_OF" = some (.ref aO)
  kS : KD P w K aS kvS
  kB : ∃ b1 b2 b3 : Addr, KD P w K aB [(.inr "either", .ref b1), (.inr "both", .ref b2), (.inr "not", .ref b3)] ∧ (∀ H, SqT K H b1 [.str "either", .str "some", .str "all"]) ∧ (∀ H, SqT K H b2 [.str "both", .str "either", .str "some", .str "all"]) ∧ ∀ H, SqT K H b3 [.str "both", .str "either", .str "some", .str "all"]
  kO : ∃ o1 o2 o3 o4 : V, KD P w K aO [(.inr "less", o1), (.inr "most", o2), (.inr "equal", o3), (.inr "unlike", o4)]
def headW : DD.D → Str
  | .cons (.str x) _ => x
  | _ => Str.empty
def cmpW (x : Str) : Prop := x = "less" ∨ x = "most" ∨ x = "equal" ∨ x = "unlike"
def signW (x : Str) : Str := if x = "less" then "<" else if x = "most" then "<=" else if x = "equal" then "=" else "/="
def leafF (nm : Str) (sg : Bool) (n : Int) : Fm.T := (if n = 0 then [] else [(Fm.prodD [], n)]) ++ [(Fm.prodD [(nm, 1)], if sg then -1 else 1)]
def leafT (nm : Str) (sg : Bool) (n : Int) : Str := if n = 0 then (if sg then "-" ++ nm else nm) else Str.ofString (toString n) ++ (if sg then (" - " : Str) else (" + " : Str)) ++ nm
def Leaf (d : DD.D) (t : Str) : Prop := ∃ (x nm : Str) (sg : Bool) (n : Int), cmpW x ∧ n.natAbs.log2 < 1920 ∧ nm.length ≤ 20 ∧ d = ofL [.str x, ofL ((leafF nm sg n).map Fm.pairD)] ∧ t = leafT nm sg n ++ (" " : Str) ++ signW x ++ (" 0" : Str)
def inBr (o x : Str) : Bool := if o = "either" then decide (x = "either" ∨ x = "some" ∨ x = "all") else decide (x = "both" ∨ x = "either" ∨ x = "some" ∨ x = "all")
def brk (o : Str) (d : DD.D) (u : Str) : Str := if inBr o (headW d) then ("(" : Str) ++ u ++ (")" : Str) else u
def Sn : Nat → DD.D → Str → Prop
  | 0, _, _ => False
  | n + 1, d, t => Leaf d t ∨ (∃ s u, Sn n s u ∧ d = ofL [.str "not", s] ∧ t = ("not " : Str) ++ brk "not" s u) ∨
      (∃ ds us, ds.length ≤ 40 ∧ All2 (Sn n) ds us ∧ d = ofL [.str "both", ofL ds] ∧ t = Txt.join " and " (List.zipWith (brk "both") ds us)) ∨
      (∃ ds us, ds.length ≤ 40 ∧ All2 (Sn n) ds us ∧ d = ofL [.str "either", ofL ds] ∧ t = Txt.join " or " (List.zipWith (brk "either") ds us)) ∨
      (∃ (x nm : Str) (s : DD.D) (u : Str), (x = "some" ∨ x = "all") ∧ Sn n s u ∧ d = ofL [.str x, .str nm, s] ∧ t = x ++ (" " : Str) ++ nm ++ (": " : Str) ++ u)
theorem join_ok {sep : Str} {ts : List Str} (hs : sep.length ≤ 10) (hl : ts.length ≤ 40) (hB : ∀ y ∈ ts, y.length ≤ 70010) : JoinOk sep ts = true := by
  unfold JoinOk
  rw [Bool.not_eq_true']
  exact PySem.StrLaws.joinFits hB (Nat.le_trans (Nat.add_le_add (Nat.mul_le_mul_right 70010 hl) (Nat.mul_le_mul hl hs)) (by decide))
theorem join_one (sep t : Str) : Txt.join sep [t] = t := rfl
theorem s_assoc (a b c : Str) : a ++ b ++ c = a ++ (b ++ c) := by
  show (⟨a.cps ++ b.cps ++ c.cps⟩ : Str) = ⟨a.cps ++ (b.cps ++ c.cps)⟩
  rw [Array.append_assoc]
theorem e_app (a : Str) : Str.empty ++ a = a := by
  show (⟨#[] ++ a.cps⟩ : Str) = a
  rw [Array.empty_append]
theorem sp_m (t : Str) : t ++ (" " : Str) ++ ("-" : Str) ++ (" " : Str) = t ++ (" - " : Str) := by
  rw [s_assoc, s_assoc]
  rfl
theorem sp_p (t : Str) : t ++ (" " : Str) ++ ("+" : Str) ++ (" " : Str) = t ++ (" + " : Str) := by
  rw [s_assoc, s_assoc]
  rfl
theorem l_app (a b : Str) : (a ++ b).length = a.length + b.length := Str.length_append a b
theorem big_line {k : Nat} (h : k ≤ 16000000) : k ≤ sizeLine := Nat.le_trans h (by decide)
theorem sn_head : ∀ {n : Nat} {d : DD.D} {u : Str}, Sn n d u → ∃ rest, d = ofL (.str (headW d) :: rest)
  | n + 1, d, u, h => by
    rcases h with ⟨x, nm, sg, k, _, _, _, rfl, _⟩ | ⟨s, v, _, rfl, _⟩ | ⟨ds, us, _, _, rfl, _⟩ | ⟨ds, us, _, _, rfl, _⟩ | ⟨x, nm, s, v, _, _, rfl, _⟩ <;> exact ⟨_, rfl⟩
theorem brk_len (o : Str) (d : DD.D) (u : Str) : u.length ≤ (brk o d u).length ∧ (brk o d u).length ≤ u.length + 2 := by
  unfold brk
  split
  · rw [l_app, l_app]
    show _ ≤ 1 + _ + 1 ∧ 1 + _ + 1 ≤ _
    omega
  · omega
theorem dv_first {H : Hp} {x : Str} {rest : List DD.D} {a : Addr} (h : DV H (ofL (.str x :: rest)) (.ref a)) : ∃ ys, H a = some (.tup (.str x :: ys)) ∧ All2 (DV H) rest ys := by
  obtain ⟨_, zs, e, hz, al⟩ := dv_tup.mp h
  cases e
  cases al with
  | cons h1 h2 =>
    rename_i z zs
    obtain rfl : z = .str x := by simpa only [DV] using h1
    exact ⟨zs, hz, h2⟩
theorem join_mem {sep : Str} {ts : List Str} {y : Str} (h : y ∈ ts) : y.length ≤ (Txt.join sep ts).length := by
  show _ ≤ (Builtin.Str.glued sep ts).length
  rw [PySem.StrLaws.glued_eq_join]
  exact PySem.join_mem_le sep ts y h
theorem zw_snoc {o : Str} {ds : List DD.D} {us : List Str} {i : Nat} (h1 : i < ds.length) (h2 : i < us.length) : List.zipWith (brk o) (ds.take (i + 1)) (us.take (i + 1)) = List.zipWith (brk o) (ds.take i) (us.take i) ++ [brk o ds[i] us[i]] := by
  rw [List.take_add_one, List.take_add_one, List.getElem?_eq_getElem h1, List.getElem?_eq_getElem h2]
  show List.zipWith _ (_ ++ [_]) (_ ++ [_]) = _
  rw [List.zipWith_append (by rw [List.length_take, List.length_take]; omega)]
  rfl
theorem not_cmp {x : Str} (h : x = "both" ∨ x = "either" ∨ x = "not" ∨ x = "some" ∨ x = "all") : ¬ cmpW x := by
  rcases h with rfl | rfl | rfl | rfl | rfl <;> (unfold cmpW; decide)
theorem leafT_len {nm : Str} {sg : Bool} {n : Int} (h : n.natAbs.log2 < 1920) (ln : nm.length ≤ 20) : (leafT nm sg n).length ≤ 1960 := by
  have tl := PyProof.Rows.int_text_len_1921 h
  unfold leafT
  split
  · split
    · rw [l_app]
      show 1 + _ ≤ _
      omega
    · omega
  · rw [l_app, l_app]
    split
    · show _ + 3 + _ ≤ _
      omega
    · show _ + 3 + _ ≤ _
      omega
theorem end_text {t x : Str} (cx : cmpW x) {e : Str} (h : e = (" " : Str) ++ signW x ++ (" 0" : Str)) : t ++ e = t ++ (" " : Str) ++ signW x ++ (" 0" : Str) := by
  rw [h, s_assoc, s_assoc, s_assoc]
theorem dv_one {H : Hp} {nm : Str} {v : V} (h : DV H (Fm.prodD [(nm, 1)]) v) : ∃ kb g, v = .ref kb ∧ H kb = some (.tup [.ref g]) ∧ H g = some (.tup [.str nm, .int 1]) := by
  obtain ⟨kb, zs, rfl, hz, al⟩ := dv_tup.mp (show DV H (ofL [ofL [.str nm, .int 1]]) v from h)
  cases al with
  | cons h1 h2 =>
    cases h2
    obtain ⟨g, rfl, hg⟩ := (dv_part (p := (nm, 1))).mp h1
    exact ⟨kb, g, rfl, hz, hg⟩
theorem dv_none {H : Hp} {v : V} (h : DV H (Fm.prodD []) v) : ∃ kb, v = .ref kb ∧ H kb = some (.tup []) := by
  obtain ⟨kb, zs, rfl, hz, al⟩ := dv_tup.mp (show DV H (ofL []) v from h)
  cases al
  exact ⟨kb, rfl, hz⟩
theorem bits01 (c : Bool) : Bits 8 (if c = true then (1 : Int) else 0) := by
  cases c <;> exact bits_lt (b := 100) (by decide) (by decide) (by decide)
def lbr (b : Str) (d : DD.D) (t : Str) : Str := if headW d = "both" ∨ headW d = "either" ∨ headW d = "some" ∨ headW d = "all" then (if b = "" ∨ (b = "or" ∧ headW d = "both") then t else ("(" : Str) ++ t ++ (")" : Str)) else t
theorem lbr_and (d : DD.D) (t : Str) : lbr "and" d t = brk "both" d t := by
  unfold lbr brk inBr
  rw [if_neg (show ¬ ("both" : Str) = "either" by decide), if_neg (show ¬ (("and" : Str) = "" ∨ (("and" : Str) = "or" ∧ headW d = "both")) by rintro (h | ⟨h, _⟩) <;> exact absurd h (by decide))]
  simp only [decide_eq_true_eq]
theorem lbr_not (d : DD.D) (t : Str) : lbr "not" d t = brk "not" d t := by
  unfold lbr brk inBr
  rw [if_neg (show ¬ ("not" : Str) = "either" by decide), if_neg (show ¬ (("not" : Str) = "" ∨ (("not" : Str) = "or" ∧ headW d = "both")) by rintro (h | ⟨h, _⟩) <;> exact absurd h (by decide))]
  simp only [decide_eq_true_eq]
theorem lbr_or (d : DD.D) (t : Str) : lbr "or" d t = brk "either" d t := by
  unfold lbr brk inBr
  by_cases c : headW d = "both"
  · rw [if_pos (.inl c), if_pos (.inr ⟨rfl, c⟩), if_neg (by rw [c]; decide)]
  · rw [if_neg (show ¬ (("or" : Str) = "" ∨ (("or" : Str) = "or" ∧ headW d = "both")) from fun h => h.elim (fun z => absurd z (by decide)) fun z => c z.2)]
    by_cases c2 : headW d = "either" ∨ headW d = "some" ∨ headW d = "all"
    · rw [if_pos (.inr c2), if_pos (by rw [if_pos rfl]; exact decide_eq_true c2)]
    · rw [if_neg (fun h => h.elim c c2), if_neg (by rw [if_pos rfl]; exact fun z => c2 (of_decide_eq_true z))]
theorem neq {x y : Str} (h : x ≠ y) : ¬ (decide (V.str x = V.str y) = true) := fun z => h (V.str.inj (of_decide_eq_true z))
theorem lbr_e (d : DD.D) (t : Str) : lbr "" d t = t := by
  unfold lbr
  split
  · rw [if_pos (.inl rfl)]
  · rfl
theorem log_small {k : Nat} (h : k < 10 ^ 30) : k.log2 < 1920 := by
  by_cases z : k = 0
  · rw [z]
    decide
  · exact (Nat.log2_lt z).mpr (Nat.lt_trans h (by decide +kernel))
theorem pick2 {ns : List Str} (h : ns.length = 2) {k : Int} (h0 : 0 ≤ k) (h1 : k < 2) : ∃ x ∈ ns, atI (ns.map V.str) k = some (.str x) := by
  obtain ⟨a, b, rfl⟩ := list_2 h
  have e : k = 0 ∨ k = 1 := by omega
  rcases e with rfl | rfl
  · exact ⟨a, List.mem_cons_self, at0⟩
  · exact ⟨b, List.mem_cons_of_mem _ List.mem_cons_self, at1⟩
theorem pickW {k : Int} (h0 : 0 ≤ k) (h1 : k < 4) : ∃ x : Str, cmpW x ∧ atI [V.str "less", V.str "most", V.str "equal", V.str "unlike"] k = some (.str x) := by
  have e : k = 0 ∨ k = 1 ∨ k = 2 ∨ k = 3 := by omega
  rcases e with rfl | rfl | rfl | rfl
  · exact ⟨"less", .inl rfl, at0⟩
  · exact ⟨"most", .inr (.inl rfl), at1⟩
  · exact ⟨"equal", .inr (.inr (.inl rfl)), at2⟩
  · exact ⟨"unlike", .inr (.inr (.inr rfl)), at_k (i := 3) rfl (by decide)⟩
theorem sn_up : ∀ {n : Nat} {d : DD.D} {u : Str}, Sn n d u → Sn (n + 1) d u
  | n + 1, d, u, h => by
    rcases h with h | ⟨s, v, k, e⟩ | ⟨ds, us, l, al, e⟩ | ⟨ds, us, l, al, e⟩ | ⟨x, nm, s, v, hx, k, e⟩
    · exact .inl h
    · exact .inr (.inl ⟨s, v, sn_up k, e⟩)
    · exact .inr (.inr (.inl ⟨ds, us, l, All2.imp (fun _ _ z => sn_up z) al, e⟩))
    · exact .inr (.inr (.inr (.inl ⟨ds, us, l, All2.imp (fun _ _ z => sn_up z) al, e⟩)))
    · exact .inr (.inr (.inr (.inr ⟨x, nm, s, v, hx, sn_up k, e⟩)))
theorem sn_mono {n m : Nat} (h : n ≤ m) {d : DD.D} {u : Str} (k : Sn n d u) : Sn m d u := by
  induction h with
  | refl => exact k
  | step _ ih => exact sn_up ih
theorem leaf_dep {d : DD.D} {t : Str} (h : Leaf d t) : DD.dep d ≤ 6 := by
  obtain ⟨x, nm, sg, n, _, _, _, rfl, _⟩ := h
  unfold leafF
  split <;> simp [Fm.pairD, Fm.prodD, Fm.partD, ofL, DD.dep]
theorem sn_dep : ∀ {n : Nat} {d : DD.D} {u : Str}, Sn n d u → DD.dep d ≤ 2 * n + 5
  | n + 1, d, u, h => by
    rcases h with h | ⟨s, v, k, rfl, _⟩ | ⟨ds, us, l, al, rfl, _⟩ | ⟨ds, us, l, al, rfl, _⟩ | ⟨x, nm, s, v, hx, k, rfl, _⟩
    · have := leaf_dep h
      omega
    · have := sn_dep k
      simp only [ofL, DD.dep]
      omega
    · have z := dep_all (ds := ds) (n := 2 * n + 5) fun e he => by
        obtain ⟨i, hi, rfl⟩ := List.getElem_of_mem he
        exact sn_dep (al.get i hi (by rw [← al.length]; exact hi))
      simp only [ofL, DD.dep] at z ⊢
      omega
    · have z := dep_all (ds := ds) (n := 2 * n + 5) fun e he => by
        obtain ⟨i, hi, rfl⟩ := List.getElem_of_mem he
        exact sn_dep (al.get i hi (by rw [← al.length]; exact hi))
      simp only [ofL, DD.dep] at z ⊢
      omega
    · have := sn_dep k
      simp only [ofL, DD.dep]
      omega
def sumL (ps : List (DD.D × Str)) : Nat := (ps.map fun p => p.2.length).sum
theorem sumL_sub {a b : List (DD.D × Str)} (h : a.Sublist b) : sumL a ≤ sumL b := by
  unfold sumL
  induction h with
  | slnil => exact Nat.le_refl _
  | cons _ _ ih => rw [List.map_cons, List.sum_cons]; omega
  | cons_cons _ _ ih => rw [List.map_cons, List.map_cons, List.sum_cons, List.sum_cons]; omega
theorem sumL_mem {p : DD.D × Str} : ∀ {ps : List (DD.D × Str)}, p ∈ ps → p.2.length ≤ sumL ps
  | q :: ps, h => by
    unfold sumL
    rw [List.map_cons, List.sum_cons]
    rcases List.mem_cons.mp h with rfl | h
    · omega
    · have := sumL_mem h
      unfold sumL at this
      omega
theorem join_len (o sep : Str) (hs : sep.length ≤ 5) (ps : List (DD.D × Str)) : (Txt.join sep (List.zipWith (brk o) (ps.map (·.1)) (ps.map (·.2)))).length ≤ sumL ps + 7 * ps.length := by
  show (Builtin.Str.glued sep _).length ≤ _
  rw [PySem.size_glued]
  have h1 : ((List.zipWith (brk o) (ps.map (·.1)) (ps.map (·.2))).map (·.length)).sum ≤ sumL ps + 2 * ps.length := by
    induction ps with
    | nil => exact Nat.le_refl _
    | cons p ps ih =>
      unfold sumL at ih ⊢
      simp only [List.map_cons, List.zipWith_cons_cons, List.sum_cons, List.length_cons]
      have := (brk_len o p.1 p.2).2
      omega
  have h2 : (List.zipWith (brk o) (ps.map (·.1)) (ps.map (·.2))).length = ps.length := by simp
  rw [h2]
  have h3 : (ps.length - 1) * sep.length ≤ ps.length * 5 := Nat.mul_le_mul (Nat.sub_le _ _) hs
  omega
theorem all2_ps {R : DD.D → Str → Prop} : ∀ {ps : List (DD.D × Str)}, (∀ p ∈ ps, R p.1 p.2) → All2 R (ps.map (·.1)) (ps.map (·.2))
  | [], _ => .nil
  | p :: ps, h => .cons (h p List.mem_cons_self) (all2_ps fun q hq => h q (List.mem_cons_of_mem _ hq))
theorem cut_drop (xs : List V) (k : Nat) (h : k ≤ xs.length) : cutV xs (some (k : Int)) none = xs.drop k := by
  unfold cutV
  have e : HT.sIx xs.length 0 (some (k : Int)) = min k xs.length := HT.sIx_nat _ _ k
  rw [e, Nat.min_eq_left h]
  exact List.take_of_length_le (by rw [List.length_drop]; exact Nat.le_refl _)
theorem leaf_len {d : DD.D} {t : Str} (h : Leaf d t) : t.length ≤ 2000 := by
  obtain ⟨x, nm, sg, n, cx, hn, ln, _, rfl⟩ := h
  have h1 := leafT_len (sg := sg) hn ln
  have h2 : (signW x).length ≤ 2 := by rcases cx with rfl | rfl | rfl | rfl <;> decide
  rw [l_app, l_app, l_app]
  show _ + 1 + _ + 2 ≤ _
  omega
structure Pe where
  d : DD.D
  t : Str
  k : Nat
def Stk (H : Hp) (e : Pe) (y : V) : Prop := ∃ g b, y = .ref g ∧ H g = some (.tup [.ref b, .int e.k]) ∧ DV H e.d (.ref b)
theorem Stk.same {H H' : Hp} {e : Pe} {y : V} (s : Same H H') (h : Stk H e y) : Stk H' e y := let ⟨g, b, e1, e2, e3⟩ := h; ⟨g, b, e1, s _ _ e2, s.dv e3⟩
def OkE (e : Pe) : Prop := Sn e.k e.d e.t ∧ 1 ≤ e.k ∧ e.k ≤ 8
def pairsE (es : List Pe) : List (DD.D × Str) := es.map fun e => (e.d, e.t)
def totE (es : List Pe) : Nat := (es.map fun e => e.t.length).sum
theorem totE_app (a b : List Pe) : totE (a ++ b) = totE a + totE b := by
  unfold totE
  rw [List.map_append, List.sum_append]
theorem totE_cut (es : List Pe) (k : Nat) : totE (es.take k) + totE (es.drop k) = totE es := by
  rw [← totE_app, List.take_append_drop]
theorem totE_one (e : Pe) : totE [e] = e.t.length := Nat.add_zero _
theorem totE_mem {e : Pe} : ∀ {es : List Pe}, e ∈ es → e.t.length ≤ totE es
  | f :: es, h => by
    unfold totE
    rw [List.map_cons, List.sum_cons]
    rcases List.mem_cons.mp h with rfl | h
    · omega
    · have := totE_mem h
      unfold totE at this
      omega
theorem sumL_E (es : List Pe) : sumL (pairsE es) = totE es := by
  unfold sumL pairsE totE
  rw [List.map_map]
  rfl
theorem all2_drop {α β : Type} {R : α → β → Prop} (k : Nat) {l : List α} {m : List β} (h : All2 R l m) : All2 R (l.drop k) (m.drop k) := by
  refine All2.of_get (by rw [List.length_drop, List.length_drop, h.length]) fun i h1 h2 => ?_
  rw [List.getElem_drop, List.getElem_drop]
  exact h.get _ _ _
theorem kd_mk {P : Program} {w : World} {K : PySem.W.Frag} {a : Addr} {ep : Nat} (l : List (Int × Str × Tok × Value)) {kvs : List (Key × V)} (lk : K.lookup a = some ⟨.type "dict", none, .dict (l.map fun e => (⟨e.1, .str e.2.1 e.2.2.1, e.2.2.2⟩ : DictEntry)).toArray ep, #[]⟩)
    (hh : ∀ e ∈ l, e.1 = keyH w (.inr e.2.1)) (nd : (l.map fun e => e.2.1).Nodup) (kv : KV kvs (l.map fun e => ((.inr e.2.1 : Key), e.2.2.2))) (ns : (a == sysModules) = false) : KD P w K a kvs := by
  refine ⟨⟨_, _, ep, l.map fun e => ((.inr e.2.1 : Key), e.2.2.2), lk, ⟨rfl, rfl, rfl⟩, rfl, fun e he => ?_, ?_, ?_, kv⟩, ns⟩
  · obtain ⟨x, hx, rfl⟩ := List.mem_map.mp (List.mem_toArray.mp he)
    exact ⟨.inr x.2.1, mixKind_str P w _ _, hh x hx⟩
  · show Pairs (mixKind P w) (l.map fun e => (⟨e.1, .str e.2.1 e.2.2.1, e.2.2.2⟩ : DictEntry)).toArray.toList _
    rw [List.toList_toArray]
    clear lk hh nd kv
    induction l with
    | nil => exact .nil
    | cons x l ih => exact .cons (mixKind_str P w _ _) rfl ih
  · rw [List.map_map]
    exact List.pairwise_map.mpr ((List.pairwise_map.mp nd).imp fun ne e => ne (Sum.inr.inj e))
theorem sq_mk {K : PySem.W.Frag} {b : Addr} {oc : Option Addr} {sl : Array (Option Value)} {n : Nat} (its : List Value) {xs : List V} (lk : K.lookup b = some ⟨.type "tuple", oc, .seq its.toArray n, sl⟩) (z : its.length ≤ 1000) (r : Vals xs its) (H : Hp) : SqT K H b xs :=
  .inr ⟨_, its.toArray, n, lk, rfl, rfl, by rw [List.size_toArray]; exact small10 z, by simpa using r⟩
theorem cons_mk {P : Program} {w : World} {K : PySem.W.Frag} {h : Heap} {mg : Str → Option Value} {aS aB aO b1 b2 b3 : Addr} {hS0 hS1 hS2 hS3 hB0 hB1 hB2 hO0 hO1 hO2 hO3 : Int} {tS0 tS1 tS2 tS3 uS0 uS1 uS2 uS3 tB0 tB1 tB2 tO0 tO1 tO2 tO3 r0 r1 r2 r3 r4 r5 r6 r7 r8 r9 r10 : Tok} {w0 w1 w2 w3 : Addr} {epS epB epO n1 n2 n3 : Nat} {o1 o2 o3 : Option Addr} {s1 s2 s3 : Array (Option Value)} (X : K.In h) (G : h.Ns mainGlobals mg)
    (xS : PySem.W.nsIn K mainGlobals "SIGNS" = some (some (.ref aS))) (xB : PySem.W.nsIn K mainGlobals "IN_BRACKETS" = some (some (.ref aB))) (xO : PySem.W.nsIn K mainGlobals "SIGNS_OF" = some (some (.ref aO)))
    (lS : K.lookup aS = some ⟨.type "dict", none, .dict #[⟨hS0, .str "less" tS0, .str "<" uS0⟩, ⟨hS1, .str "most" tS1, .str "<=" uS1⟩, ⟨hS2, .str "equal" tS2, .str "=" uS2⟩, ⟨hS3, .str "unlike" tS3, .str "/=" uS3⟩] epS, #[]⟩)
    (lB : K.lookup aB = some ⟨.type "dict", none, .dict #[⟨hB0, .str "either" tB0, .ref b1⟩, ⟨hB1, .str "both" tB1, .ref b2⟩, ⟨hB2, .str "not" tB2, .ref b3⟩] epB, #[]⟩)
    (lO : K.lookup aO = some ⟨.type "dict", none, .dict #[⟨hO0, .str "less" tO0, .ref w0⟩, ⟨hO1, .str "most" tO1, .ref w1⟩, ⟨hO2, .str "equal" tO2, .ref w2⟩, ⟨hO3, .str "unlike" tO3, .ref w3⟩] epO, #[]⟩)
    (l1 : K.lookup b1 = some ⟨.type "tuple", o1, .seq #[.str "either" r0, .str "some" r1, .str "all" r2] n1, s1⟩) (l2 : K.lookup b2 = some ⟨.type "tuple", o2, .seq #[.str "both" r3, .str "either" r4, .str "some" r5, .str "all" r6] n2, s2⟩) (l3 : K.lookup b3 = some ⟨.type "tuple", o3, .seq #[.str "both" r7, .str "either" r8, .str "some" r9, .str "all" r10] n3, s3⟩)
    (eS : hS0 = keyH w (.inr "less") ∧ hS1 = keyH w (.inr "most") ∧ hS2 = keyH w (.inr "equal") ∧ hS3 = keyH w (.inr "unlike")) (eB : hB0 = keyH w (.inr "either") ∧ hB1 = keyH w (.inr "both") ∧ hB2 = keyH w (.inr "not")) (eO : hO0 = keyH w (.inr "less") ∧ hO1 = keyH w (.inr "most") ∧ hO2 = keyH w (.inr "equal") ∧ hO3 = keyH w (.inr "unlike"))
    (nS : (aS == sysModules) = false) (nB : (aB == sysModules) = false) (nO : (aO == sysModules) = false) : Cons P w K mg aS aB aO where
  c_SIGNS := PySem.W.mg_of X G xS
  c_IN_BRACKETS := PySem.W.mg_of X G xB
  c_SIGNS_OF := PySem.W.mg_of X G xO
  kS := kd_mk [(hS0, "less", tS0, .str "<" uS0), (hS1, "most", tS1, .str "<=" uS1), (hS2, "equal", tS2, .str "=" uS2), (hS3, "unlike", tS3, .str "/=" uS3)] lS (by obtain ⟨e1, e2, e3, e4⟩ := eS; simp [e1, e2, e3, e4]) (by show (["less", "most", "equal", "unlike"] : List Str).Nodup; decide) (.cons ⟨rfl, _, rfl⟩ (.cons ⟨rfl, _, rfl⟩ (.cons ⟨rfl, _, rfl⟩ (.cons ⟨rfl, _, rfl⟩ .nil)))) nS
  kB := ⟨b1, b2, b3, kd_mk [(hB0, "either", tB0, .ref b1), (hB1, "both", tB1, .ref b2), (hB2, "not", tB2, .ref b3)] lB (by obtain ⟨e1, e2, e3⟩ := eB; simp [e1, e2, e3]) (by show (["either", "both", "not"] : List Str).Nodup; decide) (.cons ⟨rfl, rfl⟩ (.cons ⟨rfl, rfl⟩ (.cons ⟨rfl, rfl⟩ .nil))) nB, sq_mk [.str "either" r0, .str "some" r1, .str "all" r2] l1 (by show 3 ≤ 1000; decide) (.cons ⟨_, rfl⟩ (.cons ⟨_, rfl⟩ (.cons ⟨_, rfl⟩ .nil))), sq_mk [.str "both" r3, .str "either" r4, .str "some" r5, .str "all" r6] l2 (by show 4 ≤ 1000; decide) (.cons ⟨_, rfl⟩ (.cons ⟨_, rfl⟩ (.cons ⟨_, rfl⟩ (.cons ⟨_, rfl⟩ .nil)))), sq_mk [.str "both" r7, .str "either" r8, .str "some" r9, .str "all" r10] l3 (by show 4 ≤ 1000; decide) (.cons ⟨_, rfl⟩ (.cons ⟨_, rfl⟩ (.cons ⟨_, rfl⟩ (.cons ⟨_, rfl⟩ .nil))))⟩
  kO := ⟨.ref w0, .ref w1, .ref w2, .ref w3, kd_mk [(hO0, "less", tO0, .ref w0), (hO1, "most", tO1, .ref w1), (hO2, "equal", tO2, .ref w2), (hO3, "unlike", tO3, .ref w3)] lO (by obtain ⟨e1, e2, e3, e4⟩ := eO; simp [e1, e2, e3, e4]) (by show (["less", "most", "equal", "unlike"] : List Str).Nodup; decide) (.cons ⟨rfl, rfl⟩ (.cons ⟨rfl, rfl⟩ (.cons ⟨rfl, rfl⟩ (.cons ⟨rfl, rfl⟩ .nil)))) nO⟩
abbrev st__law_cell : Stmt := top 15
inductive Isp__law_cell (K : PySem.W.Frag) (vs : List V) (H : Hp) (Q : VK) (E_ : XK) : Prop
  | mk (a : Addr) (ns : List Int) (k : Int) (h0 : vs = [.ref a, .int k]) (h1 : SqL K H a (ns.map V.int)) (h2 : 0 ≤ k) (h3 : ∀ z : Int, 0 ≤ z → Q (.int z) H) : Isp__law_cell K vs H Q E_
def sp__law_cell (K : PySem.W.Frag) : Sp := fun vs H Q E_ => Isp__law_cell K vs H Q E_
abbrev st__law_folded : Stmt := top 19
inductive Isp__law_folded (K : PySem.W.Frag) (vs : List V) (H : Hp) (Q : VK) (E_ : XK) : Prop
  | mk (o : Str) (l : Addr) (ys : List V) (ps : List (DD.D × Str)) (n : Nat) (h0 : vs = [.str o, .ref l]) (h1 : (o = "both" ∨ o = "either")) (h2 : SqL K H l ys) (h3 : All2 (DV H) (ps.map (·.1)) ys) (h4 : (∀ p ∈ ps, Sn n p.1 p.2)) (h5 : n ≤ 20) (h6 : ps ≠ []) (h7 : ps.length ≤ 40) (h8 : ∀ (a : Addr) (d : DD.D) (t : Str) (H' : Hp), Same H H' → DV H' d (.ref a) → Sn (n + 1) d t → t.length ≤ sumL ps + 7 * ps.length → Q (.ref a) H') : Isp__law_folded K vs H Q E_
def sp__law_folded (K : PySem.W.Frag) : Sp := fun vs H Q E_ => Isp__law_folded K vs H Q E_
abbrev st__law_leaf : Stmt := top 18
inductive Isp__law_leaf (K : PySem.W.Frag) (vs : List V) (H : Hp) (Q : VK) (E_ : XK) : Prop
  | mk (c : Int) (l : Addr) (ns : List Str) (h0 : vs = [.int c, .ref l]) (h1 : 0 ≤ c) (h2 : H l = some (.lst (ns.map V.str))) (h3 : ns.length = 2) (h4 : (∀ x ∈ ns, x.length ≤ 20)) (h5 : ∀ (a : Addr) (d : DD.D) (t : Str) (H' : Hp), Same H H' → DV H' d (.ref a) → Leaf d t → Q (.ref a) H') : Isp__law_leaf K vs H Q E_
def sp__law_leaf (K : PySem.W.Frag) : Sp := fun vs H Q E_ => Isp__law_leaf K vs H Q E_
abbrev st__law_any_names : Stmt := top 16
theorem abc_ix {k : Int} (h0 : 0 ≤ k) (h : k < 26) : atI Fm.abc.cps.toList k = some (97 + k.toNat) := by
  have z := Fm.abc_at ⟨k.toNat, by omega⟩
  have e : k = ((k.toNat : Nat) : Int) := by omega
  rw [e]
  exact atI_nat z
theorem abc_small : Fm.abc.length ≤ sizeLine := by rw [Fm.abc_len]; exact small10 (by decide)
inductive Isp__law_any_names (vs : List V) (H : Hp) (Q : VK) (E_ : XK) : Prop
  | mk (r : Int) (k : Nat) (h0 : vs = [.int r, .int k]) (h1 : k ≤ 10) (h2 : ∀ (l : Addr) (ns : List Str) (H' : Hp), Same H H' → H' l = some (.lst (ns.map V.str)) → ns.length = k → (∀ x ∈ ns, x.length ≤ 9) → Q (.ref l) H') : Isp__law_any_names  vs H Q E_
def sp__law_any_names : Sp := fun vs H Q E_ => Isp__law_any_names  vs H Q E_
abbrev st__law_names : Stmt := top 17
inductive Isp__law_names (K : PySem.W.Frag) (vs : List V) (H : Hp) (Q : VK) (E_ : XK) : Prop
  | mk (n : Int) (h0 : vs = [.int n]) (h1 : 0 ≤ n) (h2 : ∀ (l : Addr) (ns : List Str) (H' : Hp), Same H H' → H' l = some (.lst (ns.map V.str)) → ns.length = 2 → (∀ x ∈ ns, x.length ≤ 20) → Q (.ref l) H') : Isp__law_names K vs H Q E_
def sp__law_names (K : PySem.W.Frag) : Sp := fun vs H Q E_ => Isp__law_names K vs H Q E_
abbrev st__law_step : Stmt := top 20
inductive Isp__law_step (K : PySem.W.Frag) (vs : List V) (H : Hp) (Q : VK) (E_ : XK) : Prop
  | mk (l ln : Addr) (c : Int) (ys : List V) (es : List Pe) (ns : List Str) (h0 : vs = [.ref l, .int c, .ref ln]) (h1 : 0 ≤ c) (h2 : H l = some (.lst ys)) (h3 : All2 (Stk H) es ys) (h4 : (∀ e ∈ es, OkE e)) (h5 : es ≠ []) (h6 : es.length ≤ 38) (h7 : H ln = some (.lst (ns.map V.str))) (h8 : ns.length = 2) (h9 : (∀ x ∈ ns, x.length ≤ 20)) (h10 : ∀ (l' : Addr) (ys' : List V) (es' : List Pe) (H' : Hp), Same H H' → H' l' = some (.lst ys') → All2 (Stk H') es' ys' → (∀ e ∈ es', OkE e) → es' ≠ [] → es'.length ≤ es.length + 1 → totE es' ≤ totE es + 2100 → Q (.ref l') H') : Isp__law_step K vs H Q E_
def sp__law_step (K : PySem.W.Frag) : Sp := fun vs H Q E_ => Isp__law_step K vs H Q E_
abbrev st__law_built : Stmt := top 21
inductive Isp__law_built (K : PySem.W.Frag) (vs : List V) (H : Hp) (Q : VK) (E_ : XK) : Prop
  | mk (a : Addr) (ns : List Int) (h0 : vs = [.ref a, .int 32]) (h1 : SqL K H a (ns.map V.int)) (h2 : ∀ (b : Addr) (d : DD.D) (t : Str) (H' : Hp), Same H H' → DV H' d (.ref b) → Sn 10 d t → t.length ≤ 70000 → Q (.ref b) H') : Isp__law_built K vs H Q E_
def sp__law_built (K : PySem.W.Frag) : Sp := fun vs H Q E_ => Isp__law_built K vs H Q E_
abbrev st__law_compare : Stmt := top 22
inductive Isp__law_compare (K : PySem.W.Frag) (vs : List V) (H : Hp) (Q : VK) (E_ : XK) : Prop
  | mk (a : Addr) (d : DD.D) (t : Str) (h0 : vs = [.ref a]) (h1 : DV H d (.ref a)) (h2 : Leaf d t) (h3 : ∀ H', Same H H' → Q (.str t) H') : Isp__law_compare K vs H Q E_
def sp__law_compare (K : PySem.W.Frag) : Sp := fun vs H Q E_ => Isp__law_compare K vs H Q E_
abbrev st__law_text : Stmt := top 23
inductive Isp__law_text (K : PySem.W.Frag) (n : Nat) (vs : List V) (H : Hp) (Q : VK) (E_ : XK) : Prop
  | mk (a : Addr) (b : Str) (d : DD.D) (t : Str) (h0 : vs = [.ref a, .str b]) (h1 : DV H d (.ref a)) (h2 : Sn n d t) (h3 : t.length ≤ 70000) (h4 : b.length ≤ 10) (h5 : ∀ H', Same H H' → Q (.str (lbr b d t)) H') : Isp__law_text K n vs H Q E_
def sp__law_text (K : PySem.W.Frag) (n : Nat) : Sp := fun vs H Q E_ => Isp__law_text K n vs H Q E_
abbrev st_binds : Stmt := top 3
inductive Isp_binds (K : PySem.W.Frag) (vs : List V) (H : Hp) (Q : VK) (E_ : XK) : Prop
  | mk (a : Addr) (x : Str) (ys : List V) (h0 : vs = [.ref a]) (h1 : SqT K H a (.str x :: ys)) (h2 : (∀ H', Same H H' → (x = "some" ∨ x = "all") → Q (.bl true) H')) (h3 : (∀ H', Same H H' → ¬ (x = "some" ∨ x = "all") → Q (.bl false) H')) : Isp_binds K vs H Q E_
def sp_binds (K : PySem.W.Frag) : Sp := fun vs H Q E_ => Isp_binds K vs H Q E_
abbrev st_is_compare : Stmt := top 2
inductive Isp_is_compare (K : PySem.W.Frag) (vs : List V) (H : Hp) (Q : VK) (E_ : XK) : Prop
  | mk (a : Addr) (x : Str) (ys : List V) (h0 : vs = [.ref a]) (h1 : SqT K H a (.str x :: ys)) (h2 : (cmpW x → Q (.bl true) H)) (h3 : (¬ cmpW x → Q (.bl false) H)) : Isp_is_compare K vs H Q E_
def sp_is_compare (K : PySem.W.Frag) : Sp := fun vs H Q E_ => Isp_is_compare K vs H Q E_
abbrev st_joins : Stmt := top 4
inductive Isp_joins (K : PySem.W.Frag) (vs : List V) (H : Hp) (Q : VK) (E_ : XK) : Prop
  | mk (a : Addr) (x : Str) (ys : List V) (h0 : vs = [.ref a]) (h1 : SqT K H a (.str x :: ys)) (h2 : (∀ H', Same H H' → (x = "both" ∨ x = "either") → Q (.bl true) H')) (h3 : (∀ H', Same H H' → ¬ (x = "both" ∨ x = "either") → Q (.bl false) H')) : Isp_joins K vs H Q E_
def sp_joins (K : PySem.W.Frag) : Sp := fun vs H Q E_ => Isp_joins K vs H Q E_
abbrev st_shown_power : Stmt := top 13
inductive Isp_shown_power (vs : List V) (H : Hp) (Q : VK) (E_ : XK) : Prop
  | mk (nm : Str) (h0 : vs = [.str nm, .int 1]) (h1 : Q (.str nm) H) : Isp_shown_power  vs H Q E_
def sp_shown_power : Sp := fun vs H Q E_ => Isp_shown_power  vs H Q E_
abbrev st_shown_amount : Stmt := top 12
inductive Isp_shown_amount (K : PySem.W.Frag) (vs : List V) (H : Hp) (Q : VK) (E_ : XK) : Prop
  | mk (a : Addr) (l : List (Str × Int)) (n : Int) (t : Str) (h0 : vs = [.ref a, .int n]) (h1 : DV H (Fm.prodD l) (.ref a)) (h2 : n.natAbs.log2 < 1920) (h3 : ((l = [] ∧ t = Str.ofString (toString n)) ∨ (l = [(t, 1)] ∧ n = 1 ∧ t.length ≤ 20))) (h4 : ∀ H', Same H H' → Q (.str t) H') : Isp_shown_amount K vs H Q E_
def sp_shown_amount (K : PySem.W.Frag) : Sp := fun vs H Q E_ => Isp_shown_amount K vs H Q E_
abbrev st_shown_form : Stmt := top 11
inductive Isp_shown_form (K : PySem.W.Frag) (vs : List V) (H : Hp) (Q : VK) (E_ : XK) : Prop
  | mk (a : Addr) (nm : Str) (sg : Bool) (n : Int) (h0 : vs = [.ref a]) (h1 : FormAt H a (leafF nm sg n)) (h2 : n.natAbs.log2 < 1920) (h3 : nm.length ≤ 20) (h4 : ∀ H', Same H H' → Q (.str (leafT nm sg n)) H') : Isp_shown_form K vs H Q E_
def sp_shown_form (K : PySem.W.Frag) : Sp := fun vs H Q E_ => Isp_shown_form K vs H Q E_
abbrev st_shown_compare : Stmt := top 10
inductive Isp_shown_compare (K : PySem.W.Frag) (vs : List V) (H : Hp) (Q : VK) (E_ : XK) : Prop
  | mk (a : Addr) (x nm : Str) (sg : Bool) (n : Int) (h0 : vs = [.str x, .ref a]) (h1 : FormAt H a (leafF nm sg n)) (h2 : n.natAbs.log2 < 1920) (h3 : nm.length ≤ 20) (h4 : cmpW x) (h5 : ∀ H', Same H H' → Q (.str (leafT nm sg n ++ (" " : Str) ++ signW x ++ (" 0" : Str))) H') : Isp_shown_compare K vs H Q E_
def sp_shown_compare (K : PySem.W.Frag) : Sp := fun vs H Q E_ => Isp_shown_compare K vs H Q E_
abbrev st_shown : Stmt := top 8
inductive Isp_shown (K : PySem.W.Frag) (n : Nat) (vs : List V) (H : Hp) (Q : VK) (E_ : XK) : Prop
  | mk (a : Addr) (d : DD.D) (t : Str) (h0 : vs = [.ref a]) (h1 : DV H d (.ref a)) (h2 : Sn n d t) (h3 : t.length ≤ 70000) (h4 : ∀ H', Same H H' → Q (.str t) H') : Isp_shown K n vs H Q E_
def sp_shown (K : PySem.W.Frag) (n : Nat) : Sp := fun vs H Q E_ => Isp_shown K n vs H Q E_
inductive Isp_shown_part (K : PySem.W.Frag) (n : Nat) (vs : List V) (H : Hp) (Q : VK) (E_ : XK) : Prop
  | mk (o : Str) (a : Addr) (d : DD.D) (u : Str) (h0 : vs = [.str o, .ref a]) (h1 : (o = "either" ∨ o = "both" ∨ o = "not")) (h2 : DV H d (.ref a)) (h3 : Sn n d u) (h4 : u.length ≤ 70000) (h5 : ∀ H', Same H H' → Q (.str (brk o d u)) H') : Isp_shown_part K n vs H Q E_
def sp_shown_part (K : PySem.W.Frag) (n : Nat) : Sp := fun vs H Q E_ => Isp_shown_part K n vs H Q E_
abbrev st_shown_part : Stmt := top 9
abbrev st_law : Stmt := top 24
section
variable {P : Program} {w : World} {K : PySem.W.Frag} {mg : Str → Option Value} {base : Heap}
theorem sc__law_cell : FnScope ["_law_script", "_law_k"] ["_law_script", "_law_k"] (defScope st__law_cell) := ⟨rfl, rfl, rfl, by decide +kernel, rfl, by decide +kernel, by decide +kernel⟩
set_option maxHeartbeats 4000000 in
theorem ok__law_cell (h : Has K mg "_law_cell" st__law_cell ["_law_script", "_law_k"]) (B : Bl mg){aS : Addr} : Ok P w K mg base 1 "_law_cell" ["_law_script", "_law_k"] (sp__law_cell K) := by
  refine h.fn sc__law_cell (fun vs H Q E h => ?_) (fun f cdv A outer s H vs Q E hr h => ?_)
  · obtain ⟨a, ns, k, rfl, _⟩ := h
    rfl
  · have hu16 := hu16_of hr
    have hu9 := hu9_of hr
    obtain ⟨a, ns, k, rfl, hS, h0, q⟩ := h
    refine ⟨_, (pss_cons (ps_if (pt_cmpR (op_lt) (pv 1) (pe_callB (call_len_seq) rfl B.len_ bt_len (pa_cons (pv 0) pa_nil)) (nomark _)) (pss_one (ps_ret (pe_op (op_mod) (pe_ix ix_list (pv 0) (pv 1) (fun _ _ => rfl)) (pe_powc (c := 1000000000000000000000000000000000000000000000000000000000000) (by decide +kernel))))) pss_nil)
      (pss_one (ps_ret pe_int))), ?_⟩
    refine ⟨_, rfl, _, rfl, a, _, rfl, .inl hS, _, _, rfl, rfl, _, rfl, ?_⟩
    refine ite2 (fun c => ?_) (fun c => ?_)
    · have c1 : k < ((ns.map V.int).length : Int) := of_decide_eq_true c
      rw [List.length_map] at c1
      obtain ⟨v, hv⟩ := item_at (ns := ns) h0 c1
      refine ⟨_, rfl, _, rfl, a, _, _, _, rfl, rfl, hS, hv, _, _, rfl, rfl, (by show (0 : Int) < 1000000000000000000000000000000000000000000000000000000000000; decide +kernel), ?_⟩
      exact q _ (Int.emod_nonneg _ (by decide +kernel))
    · exact q 0 (by decide)
theorem sc__law_folded : FnScope ["_law_word", "_law_parts", "_law_kept", "_law_part"] ["_law_word", "_law_parts"] (defScope st__law_folded) := ⟨rfl, rfl, rfl, by decide +kernel, rfl, by decide +kernel, by decide +kernel⟩
set_option maxHeartbeats 4000000 in
theorem ok__law_folded (h : Has K mg "_law_folded" st__law_folded ["_law_word", "_law_parts"]) (B : Bl mg){aS : Addr} : Ok P w K mg base 1 "_law_folded" ["_law_word", "_law_parts"] (sp__law_folded K) := by
  refine h.fn sc__law_folded (fun vs H Q E h => ?_) (fun f cdv A outer s H vs Q E hr h => ?_)
  · obtain ⟨o, l, ys, ps, n, rfl, _⟩ := h
    rfl
  · have hu16 := hu16_of hr
    have hu9 := hu9_of hr
    obtain ⟨o, l, ys, ps, n, rfl, ho, hS, al, sn, n20, ne, l40, q⟩ := h
    have len : ps.length = ys.length := by rw [← al.length, List.length_map]
    have isref : ∀ {d : DD.D} {u : Str} {v : V} {H' : Hp}, Sn n d u → DV H' d v → ∃ b, v = .ref b := fun {d u v H'} s h => by
      obtain ⟨rest, e⟩ := sn_head s
      obtain ⟨b, _, eb, _⟩ := dv_tup.mp (show DV H' (ofL (.str (headW d) :: rest)) v from e ▸ h)
      exact ⟨b, eb⟩
    refine ⟨_, (pss_cons (ps_set (i := 2) sc__law_folded.nd rfl (Or.inl rfl) (pe_lst pa_nil))
      (pss_cons (ps_for PassesOwn.never rfl (pi_list (pv 1)) (pg_name (i := 3) sc__law_folded.nd rfl (Or.inl rfl)) (pss_one (ps_if (pt_cmpR (op_notin_l hr.units) (pv 3) (pv 2) (by with_unfolding_all rfl)) (pss_one (ps_expr (pe_bm PySem.F.plainAttrs_list PySem.F.slot_list_append PySem.F.type_list_append mt_append (pv 2) (pa_cons (pv 3) pa_nil)))) pss_nil)))
      (pss_cons (ps_if (pt_cmpR (op_eq) (pe_callB (call_len_seq) rfl B.len_ bt_len (pa_cons (pv 2) pa_nil)) pe_int (nomark _)) (pss_one (ps_ret (pe_ix ix_list (pv 2) pe_int (fun _ _ => rfl)))) pss_nil)
      (pss_one (ps_ret (pe_tup (pa_cons (pv 0) (pa_cons (pe_callTy (call_tuple_of) rfl B.tuple_ bt_tuple (pa_cons (pv 2) pa_nil)) pa_nil)))))))), ?_⟩
    refine ⟨Nat.zero_le _, fun kl hk => ?_⟩
    refine ⟨_, rfl, l, rfl, ⟨_, (same_new hk _).seq hS⟩, for_list (xs := ys) (fun i σ H2 => ∃ (x : Option V) (ws : List V) (qs : List (DD.D × Str)), σ = [some (.str o), some (.ref l), some (.ref kl), x] ∧ New H H2 kl (.lst ws) ∧ All2 (DV H2) (qs.map (·.1)) ws ∧ qs.Sublist (ps.take i) ∧ (0 < i → qs ≠ [])) ?_ ?_ ?_ ?_⟩
    · exact ⟨_, [], [], rfl, New.mk hk, .nil, List.nil_sublist _, fun h => absurd h (by decide)⟩
    · rintro i σ H2 _ ⟨x, ws, qs, rfl, N, _⟩
      exact N.1.seq hS
    · rintro i y σ H2 hy ⟨x, ws, qs, rfl, N, aq, sb, nz⟩
      obtain ⟨hi, rfl⟩ := List.getElem?_eq_some_iff.mp hy
      have hi2 : i < ps.length := by omega
      have z := al.get i (by rw [List.length_map]; exact hi2) hi
      rw [List.getElem_map] at z
      have si := sn _ (List.getElem_mem hi2)
      have lq : qs.length ≤ 40 := Nat.le_trans sb.length_le (Nat.le_trans (List.length_take_le _ _) (by omega))
      have lw := aq.length
      rw [List.length_map] at lw
      have dq : ∀ e ∈ qs.map (·.1), DD.dep e ≤ 60 := fun e he => by
        obtain ⟨p, hp, rfl⟩ := List.mem_map.mp he
        have := sn_dep (sn p (List.mem_of_mem_take (sb.mem hp)))
        omega
      have tk : ps.take (i + 1) = ps.take i ++ [ps[i]] := by rw [List.take_add_one, List.getElem?_eq_getElem hi2]; rfl
      refine ⟨_, rfl, _, rfl, kl, ws, _, _, rfl, SqL.of N.2.2, aq, N.1.dv z, by have := sn_dep si; omega, dq, _, rfl, ?_⟩
      refine ite2 (fun c => ?_) (fun c => ?_)
      · refine ⟨_, rfl, .inl ⟨rfl, _, SqL.of N.2.2⟩, _, rfl, kl, ws, _, rfl, rfl, N.2.2, small1000 (by omega), ?_⟩
        refine ⟨_, ws ++ [ys[i]], qs ++ [ps[i]], rfl, N.set (Same.refl _), ?_, by rw [tk]; exact sb.append (List.Sublist.refl _), fun _ => by simp⟩
        rw [List.map_append]
        exact All2.snoc (all_dv (fun e w z => dv_upd (o := .lst ws) N.2.2 (fun _ h => by cases h) z) aq) (dv_upd (o := .lst ws) N.2.2 (fun _ h => by cases h) (N.1.dv z))
      · refine ⟨_, ws, qs, rfl, N, aq, by rw [tk]; exact sb.trans (List.sublist_append_left _ _), fun _ e => ?_⟩
        subst e
        exact c rfl
    · rintro σ H2 ⟨x, ws, qs, rfl, N, aq, sb, nz⟩
      rw [← len, List.take_length] at sb
      have nq : qs ≠ [] := nz (by rw [← len]; exact List.length_pos_iff.mpr ne)
      have lw := aq.length
      rw [List.length_map] at lw
      have lq := sb.length_le
      have sl := sumL_sub sb
      have snq : ∀ p ∈ qs, Sn n p.1 p.2 := fun p hp => sn p (sb.mem hp)
      refine ⟨_, rfl, kl, ws, rfl, .inl (SqL.of N.2.2), rfl, _, rfl, ?_⟩
      refine ite2 (fun c => ?_) (fun c => ?_)
      · have c1 : ws.length = 1 := by
          have := V.int.inj (of_decide_eq_true c)
          omega
        obtain ⟨p, rfl⟩ := list_1 (lw.trans c1)
        obtain ⟨w', rfl⟩ := list_1 c1
        cases aq with
        | cons h1 _ =>
          obtain ⟨b, rfl⟩ := isref (snq p List.mem_cons_self) h1
          refine ⟨_, rfl, kl, _, _, _, rfl, rfl, SqL.of N.2.2, at0, q b p.1 p.2 _ N.1 h1 (sn_up (snq p List.mem_cons_self)) ?_⟩
          have := sumL_mem (sb.mem List.mem_cons_self)
          omega
      · refine ⟨_, rfl, _, rfl, kl, ws, rfl, .inl ⟨SqL.of N.2.2, fun pt ht => ⟨small10 (by show 2 ≤ 1000; decide), fun pr hr => ?_⟩⟩⟩
        have st := same_new ht (.tup ws)
        have sr := same_new hr (.tup [.str o, .ref pt])
        have n1 : pt ≠ pr := fun z => by rw [← z, upd_same] at hr; cases hr
        have dvr : DV (upd (upd H2 pt (.tup ws)) pr (.tup [.str o, .ref pt])) (ofL [.str o, ofL (qs.map (·.1))]) (.ref pr) := dv_tup.mpr ⟨pr, [.str o, .ref pt], rfl, upd_same, .cons (by simp only [DV]) (.cons (dv_tup.mpr ⟨pt, ws, rfl, by rw [upd_ne n1, upd_same], all_dv (fun _ _ z => (st.trans sr).dv z) aq⟩) .nil)⟩
        have ql : (qs.map (·.1)).length ≤ 40 := by rw [List.length_map]; omega
        rcases ho with rfl | rfl
        · refine q pr _ _ _ (N.1.trans (st.trans sr)) dvr (.inr (.inr (.inl ⟨_, _, ql, all2_ps snq, rfl, rfl⟩))) ?_
          have := join_len "both" " and " (by decide) qs
          omega
        · refine q pr _ _ _ (N.1.trans (st.trans sr)) dvr (.inr (.inr (.inr (.inl ⟨_, _, ql, all2_ps snq, rfl, rfl⟩)))) ?_
          have := join_len "either" " or " (by decide) qs
          omega
theorem sc__law_leaf : FnScope ["_law_cell_here", "_law_names_here", "_law_product", "_law_size", "_law_number", "_law_pairs"] ["_law_cell_here", "_law_names_here"] (defScope st__law_leaf) := ⟨rfl, rfl, rfl, by decide +kernel, rfl, by decide +kernel, by decide +kernel⟩
set_option maxHeartbeats 4000000 in
theorem ok__law_leaf (h : Has K mg "_law_leaf" st__law_leaf ["_law_cell_here", "_law_names_here"]) (B : Bl mg){aS : Addr} : Ok P w K mg base 1 "_law_leaf" ["_law_cell_here", "_law_names_here"] (sp__law_leaf K) := by
  refine h.fn sc__law_leaf (fun vs H Q E h => ?_) (fun f cdv A outer s H vs Q E hr h => ?_)
  · obtain ⟨c, l, ns, rfl, _⟩ := h
    rfl
  · have hu16 := hu16_of hr
    have hu9 := hu9_of hr
    obtain ⟨c, l, ns, rfl, c0, hl, nl, n20, q⟩ := h
    refine ⟨_, (pss_cons (ps_set (i := 2) sc__law_leaf.nd rfl (Or.inl rfl) (pe_tup (pa_cons (pe_tup (pa_cons (pe_ix ix_list (pv 1) (pe_op (op_mod) (pv 0) pe_int) (fun _ _ => rfl)) (pa_cons pe_int pa_nil))) pa_nil)))
      (pss_cons (ps_set (i := 3) sc__law_leaf.nd rfl (Or.inl rfl) (pe_ix ix_list (pe_lst (pa_cons (pe_op (op_mod) (pe_op (op_fdivB) (pv 0) pe_int) pe_int) (pa_cons (pe_op (op_mod) (pe_op (op_fdivB) (pv 0) pe_int) (pe_powc (c := 1000000000000000000000000000000) (by decide +kernel))) pa_nil))) (pe_op (op_mod) (pe_op (op_fdivB) (pv 0) pe_int) pe_int) (fun _ _ => rfl)))
      (pss_cons (ps_set (i := 4) sc__law_leaf.nd rfl (Or.inl rfl) (pe_op (op_mulB) (pv 3) (pe_op (op_sub) pe_int (pe_op (op_mulB) pe_int (pe_op (op_mod) (pe_op (op_fdivB) (pv 0) pe_int) pe_int)))))
      (pss_cons (ps_set (i := 5) sc__law_leaf.nd rfl (Or.inl rfl) (pe_lst (pa_cons (pe_tup (pa_cons (pv 2) (pa_cons (pe_op (op_sub) pe_int (pe_op (op_mulB) pe_int (pe_op (op_mod) (pe_op (op_fdivB) (pv 0) pe_int) pe_int))) pa_nil))) pa_nil)))
      (pss_cons (ps_if (pt_cmpR (op_ne) (pv 4) pe_int (nomark _)) (pss_one (ps_set (i := 5) sc__law_leaf.nd rfl (Or.inl rfl) (pe_op (op_cat) (pe_lst (pa_cons (pe_tup (pa_cons (pe_tup pa_nil) (pa_cons (pv 4) pa_nil))) pa_nil)) (pv 5)))) pss_nil)
      (pss_one (ps_ret (pe_tup (pa_cons (pe_ix ix_list (pe_lst (pa_cons pe_str (pa_cons pe_str (pa_cons pe_str (pa_cons pe_str pa_nil))))) (pe_op (op_mod) (pe_op (op_fdivB) (pv 0) pe_int) pe_int) (fun _ _ => rfl)) (pa_cons (pe_callTy (call_tuple_of) rfl B.tuple_ bt_tuple (pa_cons (pv 5) pa_nil)) pa_nil)))))))))), ?_⟩
    have dv : ∀ k : Int, 0 < k → k < 10 ^ 40 → (0 < k ∧ Bits 9000 k) := fun k h1 h2 => ⟨h1, bits_of (Nat.lt_trans (show k.natAbs < 10 ^ 40 by omega) (by decide +kernel))⟩
    obtain ⟨nm, mn, en⟩ := pick2 nl (Int.emod_nonneg c (b := 2) (by decide)) (Int.emod_lt_of_pos c (b := 2) (by decide))
    have ln := n20 nm mn
    obtain ⟨x, cx, ex⟩ := pickW (Int.emod_nonneg (c / 16) (b := 4) (by decide)) (Int.emod_lt_of_pos (c / 16) (b := 4) (by decide))
    refine ⟨_, rfl, _, rfl, _, _, rfl, rfl, (by show (0 : Int) < 2; decide), l, _, _, _, rfl, rfl, SqL.of hl, en, small10 (by show 2 ≤ 1000; decide), fun p1 h1 => ⟨small10 (by show 1 ≤ 1000; decide), fun p2 h2 => ?_⟩⟩
    have v2 : DV (upd (upd H p1 (.tup [.str nm, .int 1])) p2 (.tup [.ref p1])) (Fm.prodD [(nm, 1)]) (.ref p2) := dv_tup.mpr ⟨p2, [.ref p1], rfl, upd_same, .cons ((dv_part (p := (nm, 1))).mpr ⟨p1, rfl, by rw [upd_ne (fun z => by rw [← z, upd_same] at h2; cases h2), upd_same]⟩) .nil⟩
    have s2 : Same H (upd (upd H p1 (.tup [.str nm, .int 1])) p2 (.tup [.ref p1])) := (same_new h1 _).trans (same_new h2 _)
    generalize upd (upd H p1 (.tup [.str nm, .int 1])) p2 (.tup [.ref p1]) = H2 at v2 s2 ⊢
    refine ⟨_, rfl, _, _, rfl, rfl, dv 64 (by decide) (by decide), _, _, rfl, rfl, (by show (0 : Int) < 4; decide), _, rfl, _, _, rfl, rfl, dv 64 (by decide) (by decide), _, _, rfl, rfl, (by show (0 : Int) < 1000000000000000000000000000000; decide), small10 (by show 2 ≤ 1000; decide), fun p3 h3 => ?_⟩
    have pk : ∃ sz : Int, 0 ≤ sz ∧ sz < 1000000000000000000000000000000 ∧ atI [V.int (c / 64 % 4), V.int (c / 64 % 1000000000000000000000000000000)] (c / 2 % 2) = some (.int sz) := by
      have e : c / 2 % 2 = 0 ∨ c / 2 % 2 = 1 := by omega
      rcases e with e | e
      · rw [e]
        exact ⟨_, by omega, by omega, at0⟩
      · rw [e]
        exact ⟨_, by omega, by omega, at1⟩
    obtain ⟨sz, z0, z1, ez⟩ := pk
    refine ⟨_, rfl, _, _, rfl, rfl, dv 2 (by decide) (by decide), _, _, rfl, rfl, (by show (0 : Int) < 2; decide), p3, _, _, _, rfl, rfl, SqL.of upd_same, ez, ?_⟩
    have s3 := s2.trans (same_new h3 (.lst [V.int (c / 64 % 4), V.int (c / 64 % 1000000000000000000000000000000)]))
    have v3 := (same_new h3 (.lst [V.int (c / 64 % 4), V.int (c / 64 % 1000000000000000000000000000000)])).dv v2
    generalize upd H2 p3 (.lst [V.int (c / 64 % 4), V.int (c / 64 % 1000000000000000000000000000000)]) = H3 at s3 v3 ⊢
    have b1 : ∀ k : Int, 0 ≤ k → k < 2 → Bits 8 k := fun k h1 h2 => bits_lt (b := 100) (by decide) (by omega) (by omega)
    have b2 : Bits 8 (2 : Int) := bits_lt (b := 100) (by decide) (by decide) (by decide)
    have bz : Bits 110 sz := bits_lt (b := 1000000000000000000000000000000) (by decide) (by omega) (by omega)
    have r4 : c / 4 % 2 = 0 ∨ c / 4 % 2 = 1 := by omega
    have r8 : c / 8 % 2 = 0 ∨ c / 8 % 2 = 1 := by omega
    refine ⟨_, rfl, _, rfl, _, _, rfl, rfl, dv 4 (by decide) (by decide), _, _, rfl, rfl, (by show (0 : Int) < 2; decide), _, _, rfl, rfl, mulOk b2 (b1 _ (by omega) (by omega)) (by decide), _, _, rfl, rfl, _, _, rfl, rfl, mulOk bz (bits_lt (b := 100) (m := 8) (by decide) (by omega) (by omega)) (by decide), ?_⟩
    refine ⟨_, rfl, _, rfl, _, _, rfl, rfl, dv 8 (by decide) (by decide), _, _, rfl, rfl, (by show (0 : Int) < 2; decide), _, _, rfl, rfl, mulOk b2 (b1 _ (by omega) (by omega)) (by decide), _, _, rfl, rfl, small10 (by show 2 ≤ 1000; decide), fun p4 h4 => ⟨small10 (by show 1 ≤ 1000; decide), fun p5 h5 => ?_⟩⟩
    have n45 : p4 ≠ p5 := fun z => by rw [← z, upd_same] at h5; cases h5
    have s5 : Same H (upd (upd H3 p4 (.tup [.ref p2, .int (1 - 2 * (c / 8 % 2))])) p5 (.lst [.ref p4])) := s3.trans ((same_new h4 _).trans (same_new h5 _))
    obtain ⟨sg, esg⟩ : ∃ sg : Bool, (1 - 2 * (c / 8 % 2) : Int) = if sg then -1 else 1 := by
      rcases r8 with r | r
      · exact ⟨false, by rw [r]; rfl⟩
      · exact ⟨true, by rw [r]; rfl⟩
    have v5 : DV (upd (upd H3 p4 (.tup [.ref p2, .int (1 - 2 * (c / 8 % 2))])) p5 (.lst [.ref p4])) (Fm.pairD (Fm.prodD [(nm, 1)], if sg then -1 else 1)) (.ref p4) := dv_pair.mpr ⟨p4, .ref p2, rfl, by rw [upd_ne n45, upd_same, esg], ((same_new h4 _).trans (same_new h5 _)).dv v3⟩
    have u5 : upd (upd H3 p4 (.tup [.ref p2, .int (1 - 2 * (c / 8 % 2))])) p5 (.lst [.ref p4]) p5 = some (.lst [.ref p4]) := upd_same
    generalize upd (upd H3 p4 (.tup [.ref p2, .int (1 - 2 * (c / 8 % 2))])) p5 (.lst [.ref p4]) = H5 at s5 v5 u5 ⊢
    obtain ⟨n, en2⟩ : ∃ n : Int, n = sz * (1 - 2 * (c / 4 % 2)) := ⟨_, rfl⟩
    have ln2 : n.natAbs.log2 < 1920 := by
      refine log_small ?_
      have e : n.natAbs = sz.natAbs := by
        rw [en2]
        rcases r4 with r | r <;> rw [r] <;> omega
      rw [e]
      have : (10 : Nat) ^ 30 = 1000000000000000000000000000000 := by decide
      omega
    rw [← en2]
    have fin : ∀ (pp : Addr) (zs : List V) (H6 : Hp), Same H H6 → H6 pp = some (.lst zs) → All2 (DV H6) ((leafF nm sg n).map Fm.pairD) zs → (tTup (tCons (tOp (rIxL K) (tLst (tCons (tC (V.str (Str.ofString "less"))) (tCons (tC (V.str (Str.ofString "most"))) (tCons (tC (V.str (Str.ofString "equal"))) (tCons (tC (V.str (Str.ofString "unlike"))) tNil))))) (tOp (rI (fun x j => 0 < j) fun i j => V.int (i % j)) (tOp (rI (fun x j => 0 < j ∧ Bits 9000 j) fun i j => V.int (i / j)) (tVar 0) (tC (V.int 16))) (tC (V.int 4)))) (tCons (tCB (fun xs H_1 Q => ∃ p ys, xs = [V.ref p] ∧ ((SqL K H_1 p ys ∧ ∀ (l : Addr), H_1 l = none → Q (V.ref l) (upd H_1 l (HO.tup ys))) ∨ SqT K H_1 p ys ∧ Q (V.ref p) H_1)) (tCons (tVar 5) tNil)) tNil))) [some (.int c), some (.ref l), some (.ref p2), some (.int sz), some (.int n), some (.ref pp)] H6 Q := fun pp zs H6 s6 hp al => by
      refine ⟨small10 (by show 4 ≤ 1000; decide), fun pw hw => ?_⟩
      have sw := same_new hw (.lst [V.str "less", V.str "most", V.str "equal", V.str "unlike"])
      refine ⟨_, rfl, _, _, rfl, rfl, dv 16 (by decide) (by decide), _, _, rfl, rfl, (by show (0 : Int) < 4; decide), pw, _, _, _, rfl, rfl, SqL.of upd_same, ex, _, rfl, pp, zs, rfl, .inl ⟨SqL.of (sw _ _ hp), fun pt ht => ⟨small10 (by show 2 ≤ 1000; decide), fun pr hr => ?_⟩⟩⟩
      have st := same_new ht (.tup zs)
      have sr := same_new hr (.tup [.str x, .ref pt])
      have n1 : pt ≠ pr := fun z => by rw [← z, upd_same] at hr; cases hr
      refine q pr (ofL [.str x, ofL ((leafF nm sg n).map Fm.pairD)]) _ _ (s6.trans (sw.trans (st.trans sr))) (dv_tup.mpr ⟨pr, [.str x, .ref pt], rfl, upd_same, .cons (by simp only [DV]) (.cons (dv_tup.mpr ⟨pt, zs, rfl, by rw [upd_ne n1, upd_same], all_dv (fun _ _ z => (sw.trans (st.trans sr)).dv z) al⟩) .nil)⟩) ⟨x, nm, sg, n, cx, ln2, ln, rfl, rfl⟩
    refine ⟨_, rfl, rfl, _, rfl, ?_⟩
    refine ite2 (fun cn => ?_) (fun cn => ?_)
    · have c0' : n ≠ 0 := fun z => by rw [z] at cn; exact absurd cn (by decide)
      refine ⟨Nat.zero_le _, fun p6 h6 => ⟨_, rfl, small10 (by show 2 ≤ 1000; decide), fun p7 h7 => ⟨small10 (by show 1 ≤ 1000; decide), fun p8 h8 => ?_⟩⟩⟩
      have t6 := same_new h6 (.tup [])
      have t7 := same_new h7 (.tup [.ref p6, .int n])
      have t8 := same_new h8 (.lst [.ref p7])
      refine ⟨_, rfl, p8, p5, _, _, rfl, rfl, upd_same, t8 _ _ (t7 _ _ (t6 _ _ u5)), small10 (by show 2 ≤ 1000; decide), fun p9 h9 => ?_⟩
      have t9 := same_new h9 (.lst ([V.ref p7] ++ [V.ref p4]))
      refine fin p9 [.ref p7, .ref p4] _ (s5.trans (t6.trans (t7.trans (t8.trans t9)))) upd_same ?_
      unfold leafF
      rw [if_neg c0']
      refine .cons (dv_pair.mpr ⟨p7, .ref p6, rfl, t9 _ _ (t8 _ _ upd_same), (t7.trans (t8.trans t9)).dv (dv_tup.mpr ⟨p6, [], rfl, upd_same, .nil⟩)⟩) (.cons ((t6.trans (t7.trans (t8.trans t9))).dv v5) .nil)
    · have c0' : n = 0 := Classical.byContradiction fun z => cn (by simpa using z)
      refine fin p5 [.ref p4] _ s5 u5 ?_
      unfold leafF
      rw [if_pos c0']
      exact .cons v5 .nil
theorem sc__law_any_names : FnScope ["_law_rest", "_law_many", "_law_letters", "_law_found", "_law_k", "_law_size", "_law_word", "_law_j"] ["_law_rest", "_law_many"] (defScope st__law_any_names) := ⟨rfl, rfl, rfl, by decide +kernel, rfl, by decide +kernel, by decide +kernel⟩
set_option maxHeartbeats 4000000 in
theorem ok__law_any_names (h : Has K mg "_law_any_names" st__law_any_names ["_law_rest", "_law_many"]) (B : Bl mg){aS : Addr} : Ok P w K mg base 1 "_law_any_names" ["_law_rest", "_law_many"] sp__law_any_names := by
  refine h.fn sc__law_any_names (fun vs H Q E h => ?_) (fun f cdv A outer s H vs Q E hr h => ?_)
  · obtain ⟨r, k, rfl, _⟩ := h
    rfl
  · have hu16 := hu16_of hr
    have hu9 := hu9_of hr
    obtain ⟨r, k, rfl, k10, q⟩ := h
    refine ⟨_, (pss_cons (ps_set (i := 2) sc__law_any_names.nd rfl (Or.inl rfl) pe_str)
      (pss_cons (ps_set (i := 3) sc__law_any_names.nd rfl (Or.inl rfl) (pe_lst pa_nil))
      (pss_cons (ps_for PassesOwn.never rfl (pi_range1 rfl B.range_ (pa_cons (pv 1) pa_nil)) (pg_name (i := 4) sc__law_any_names.nd rfl (Or.inl rfl)) (pss_cons (ps_set (i := 5) sc__law_any_names.nd rfl (Or.inl rfl) (pe_op (op_add) pe_int (pe_op (op_mod) (pv 0) pe_int)))
      (pss_cons (ps_set (i := 0) sc__law_any_names.nd rfl (Or.inl rfl) (pe_op (op_fdivB) (pv 0) pe_int))
      (pss_cons (ps_set (i := 6) sc__law_any_names.nd rfl (Or.inl rfl) pe_str)
      (pss_cons (ps_for PassesOwn.never rfl (pi_range1 rfl B.range_ (pa_cons (pv 5) pa_nil)) (pg_name (i := 7) sc__law_any_names.nd rfl (Or.inl rfl)) (pss_cons (ps_set (i := 6) sc__law_any_names.nd rfl (Or.inl rfl) (pe_op (op_add_str) (pv 6) (pe_ix ix_str (pv 2) (pe_op (op_mod) (pv 0) pe_int) (fun _ _ => rfl))))
      (pss_one (ps_set (i := 0) sc__law_any_names.nd rfl (Or.inl rfl) (pe_op (op_fdivB) (pv 0) pe_int)))))
      (pss_cons (ps_if (pt_cmpR (op_in_seq) (pv 6) (pe_lst (pa_cons pe_str (pa_cons pe_str (pa_cons pe_str (pa_cons pe_str (pa_cons pe_str (pa_cons pe_str (pa_cons pe_str pa_nil)))))))) (by with_unfolding_all rfl)) (pss_one (ps_set (i := 6) sc__law_any_names.nd rfl (Or.inl rfl) (pe_op (op_add_str) (pv 6) pe_str))) pss_nil)
      (pss_one (ps_expr (pe_bm PySem.F.plainAttrs_list PySem.F.slot_list_append PySem.F.type_list_append mt_append (pv 3) (pa_cons (pv 6) pa_nil))))))))))
      (pss_one (ps_ret (pv 3)))))), ?_⟩
    refine ⟨Nat.zero_le _, fun l hl => ?_⟩
    refine ⟨_, rfl, (k : Int), rfl, by omega, by omega, for_range (fun i σ H2 => ∃ (m : Int) (x4 x5 x6 x7 : Option V) (ns : List Str), σ = [some (.int m), some (.int k), some (.str Fm.abc), some (.ref l), x4, x5, x6, x7] ∧ New H H2 l (.lst (ns.map V.str)) ∧ ns.length = i ∧ ∀ x ∈ ns, x.length ≤ 9) ?_ ?_ ?_⟩
    · exact ⟨r, _, _, _, _, [], rfl, New.mk hl, rfl, by simp⟩
    · rintro i σ H2 hi ⟨m, x4, x5, x6, x7, ns, rfl, N, nl, n9⟩
      have c0 : 0 ≤ m % 8 := Int.emod_nonneg _ (by decide)
      have c1 : m % 8 < 8 := Int.emod_lt_of_pos _ (by decide)
      refine ⟨_, rfl, _, _, rfl, rfl, (by show (0 : Int) < 8; decide), _, _, rfl, rfl, ?_⟩
      refine ⟨_, rfl, _, _, rfl, rfl, ⟨by decide, bits_of (by decide +kernel)⟩, ?_⟩
      refine ⟨_, rfl, _, rfl, by omega, by omega, for_range (fun j σ H3 => H3 = H2 ∧ ∃ (m2 : Int) (x4 x7 : Option V) (y : Str), σ = [some (.int m2), some (.int k), some (.str Fm.abc), some (.ref l), x4, some (.int (1 + m % 8)), some (.str y), x7] ∧ y.length ≤ j) ?_ ?_ ?_⟩
      · exact ⟨rfl, _, _, _, "", rfl, Nat.le_refl _⟩
      · rintro j σ H3 hj ⟨rfl, m2, x4, x7, y, rfl, ly⟩
        have r0 : 0 ≤ m2 % 26 := Int.emod_nonneg _ (by decide)
        have r1 : m2 % 26 < 26 := Int.emod_lt_of_pos _ (by decide)
        have hj8 : j < 8 := by omega
        refine ⟨_, rfl, _, rfl, _, rfl, _, _, rfl, rfl, (by show (0 : Int) < 26; decide), _, _, _, rfl, rfl, abc_small, abc_ix r0 r1, _, _, rfl, rfl, big_line (by show _ + 1 ≤ _; omega), ?_⟩
        refine ⟨_, rfl, _, _, rfl, rfl, ⟨by decide, bits_of (by decide +kernel)⟩, ?_⟩
        exact ⟨rfl, _, _, _, _, rfl, by rw [l_app]; show _ + 1 ≤ _; omega⟩
      · rintro σ H3 ⟨rfl, m2, x4, x7, y, rfl, ly⟩
        have ly8 : y.length ≤ 8 := by omega
        refine ⟨_, rfl, small10 (by show 7 ≤ 1000; decide), fun p hp => ?_⟩
        refine ⟨p, _, rfl, .inl (SqL.of upd_same), rfl, rfl, _, rfl, ?_⟩
        have fin : ∀ z : Str, z.length ≤ 9 → (tDrop (tBM K "list" rAppend (tVar 3) (tCons (tVar 6) tNil))) { nx := fun σ H2 => ∃ (m : Int) (x4 x5 x6 x7 : Option V) (ns : List Str), σ = [some (V.int m), some (V.int ↑k), some (V.str Fm.abc), some (V.ref l), x4, x5, x6, x7] ∧ New H H2 l (HO.lst (List.map V.str ns)) ∧ ns.length = i + 1 ∧ ∀ (x : Str), x ∈ ns → x.length ≤ 9, rt := Q } [some (.int m2), some (.int k), some (.str Fm.abc), some (.ref l), x4, some (.int (1 + m % 8)), some (.str z), x7] (upd H3 p (.lst [.str "some", .str "all", .str "and", .str "or", .str "not", .str "yes", .str "no"])) := fun z lz => by
          have sp := same_new hp (.lst [.str "some", .str "all", .str "and", .str "or", .str "not", .str "yes", .str "no"])
          refine ⟨_, rfl, .inl ⟨rfl, _, SqL.of (sp _ _ N.2.2)⟩, _, rfl, l, _, _, rfl, rfl, sp _ _ N.2.2, small1000 (by rw [List.length_map]; omega), ?_⟩
          refine ⟨m2, _, _, _, _, ns ++ [z], rfl, by rw [List.map_append]; exact N.set sp, by rw [List.length_append, nl]; rfl, fun x hx => ?_⟩
          rcases List.mem_append.mp hx with h1 | h1
          · exact n9 x h1
          · rw [List.mem_singleton.mp h1]
            exact lz
        refine ite2 (fun _ => ?_) (fun _ => ?_)
        · refine ⟨_, rfl, _, _, rfl, rfl, big_line (by show _ + 1 ≤ _; omega), ?_⟩
          exact fin _ (by rw [l_app]; show _ + 1 ≤ _; omega)
        · exact fin _ (by omega)
    · rintro σ H2 ⟨m, x4, x5, x6, x7, ns, rfl, N, nl, n9⟩
      exact ⟨_, rfl, q l ns _ N.1 N.2.2 (by omega) n9⟩
theorem sc__law_names : FnScope ["_law_cell_here", "_law_found", "_law_first"] ["_law_cell_here"] (defScope st__law_names) := ⟨rfl, rfl, rfl, by decide +kernel, rfl, by decide +kernel, by decide +kernel⟩
set_option maxHeartbeats 4000000 in
theorem ok__law_names (h : Has K mg "_law_names" st__law_names ["_law_cell_here"]) (B : Bl mg){aS : Addr} (F_law_any_names : Ok P w K mg base 1 "_law_any_names" ["_law_rest", "_law_many"] sp__law_any_names) : Ok P w K mg base 2 "_law_names" ["_law_cell_here"] (sp__law_names K) := by
  refine h.fn sc__law_names (fun vs H Q E h => ?_) (fun f cdv A outer s H vs Q E hr h => ?_)
  · obtain ⟨n, rfl, _⟩ := h
    rfl
  · have hu16 := hu16_of hr
    have hu9 := hu9_of hr
    obtain ⟨n, rfl, n0, q⟩ := h
    refine ⟨_, (pss_cons (ps_set (i := 1) sc__law_names.nd rfl (Or.inl rfl) (pe_callN F_law_any_names (hr.mono (by decide)) rfl (pa_cons (pe_op (op_fdivB) (pv 0) pe_int) (pa_cons pe_int pa_nil))))
      (pss_cons (ps_if (pt_cmpR (op_eq) (pe_op (op_mod) (pv 0) pe_int) pe_int (nomark _)) (pss_one (ps_ret (pv 1))) pss_nil)
      (pss_cons (ps_set (i := 2) sc__law_names.nd rfl (Or.inl rfl) (pe_ix ix_list (pv 1) pe_int (fun _ _ => rfl)))
      (pss_cons (ps_if (pt_cmpR (op_eq) (pe_op (op_mod) (pe_op (op_fdivB) (pv 0) pe_int) pe_int) pe_int (nomark _)) (pss_cons (ps_set (i := 2) sc__law_names.nd rfl (Or.inl rfl) (pe_op (op_add_str) (pe_ix ix_list (pe_lst (pa_cons pe_str (pa_cons pe_str (pa_cons pe_str (pa_cons pe_str (pa_cons pe_str (pa_cons pe_str (pa_cons pe_str pa_nil)))))))) (pe_op (op_mod) (pe_op (op_fdivB) (pv 0) pe_int) pe_int) (fun _ _ => rfl)) (pe_slice sl_str (pe_ix ix_list (pv 1) pe_int (fun _ _ => rfl)) po_none (po_some pe_int))))
      (pss_one (ps_set (i := 2) sc__law_names.nd rfl (Or.inl rfl) (pe_op (op_add_str) (pv 2) (pe_op (op_mul_str01) pe_str (pe_callTy (call_intB) rfl B.int_ bt_int (pa_cons (pe_cmpR (op_eq) (pv 2) pe_str (nomark _)) pa_nil))))))) pss_nil)
      (pss_one (ps_ret (pe_lst (pa_cons (pv 2) (pa_cons (pe_slice sl_str (pe_op (op_add_str) (pv 2) pe_str) po_none (po_some pe_int)) pa_nil))))))))), ?_⟩
    refine ⟨_, rfl, _, _, rfl, rfl, ⟨by decide, bits_of (by decide +kernel)⟩, _, 2, rfl, by decide, fun l ns H1 s1 hl nl n9 => ?_⟩
    obtain ⟨f0, f1, rfl⟩ := list_2 nl
    have l0 := n9 f0 List.mem_cons_self
    have l1 := n9 f1 (List.mem_cons_of_mem _ List.mem_cons_self)
    refine ⟨_, rfl, _, _, rfl, rfl, (by show (0 : Int) < 2; decide), rfl, _, rfl, ?_⟩
    refine ite2 (fun _ => ?_) (fun _ => ?_)
    · exact ⟨_, rfl, q l _ H1 s1 hl rfl fun x hx => Nat.le_trans (n9 x hx) (by decide)⟩
    refine ⟨_, rfl, l, _, _, _, rfl, rfl, SqL.of hl, at0, ?_⟩
    have fin : ∀ (z : Str) (H2 : Hp), z.length ≤ 15 → Same H H2 → (tLst (tCons (tVar 2) (tCons (tSl (fun x lo hi H Q => ∃ z, x = V.str z ∧ z.length ≤ sizeLine ∧ Q (V.str (Txt.slice z lo hi)) H) (tOp (fun x y H Q => ∃ i j, x = V.str i ∧ y = V.str j ∧ i.length + j.length ≤ sizeLine ∧ Q (V.str (i ++ j)) H) (tVar 2) (tC (V.str (Str.ofString "a")))) tNoPart (tPart (tC (V.int 8)))) tNil))) [some (.int n), some (.ref l), some (.str z)] H2 Q := fun z H2 lz s2 => by
      refine ⟨_, rfl, _, rfl, _, _, rfl, rfl, big_line (by show _ + 1 ≤ _; omega), ?_⟩
      refine ⟨_, rfl, _, rfl, big_line (by rw [l_app]; show _ + 1 ≤ _; omega), small10 (by show 2 ≤ 1000; decide), fun p hp => ?_⟩
      refine q p [z, _] _ (s2.trans (same_new hp _)) upd_same rfl fun x hx => ?_
      rcases List.mem_cons.mp hx with rfl | hx
      · omega
      · rw [List.mem_singleton.mp hx]
        have := PySem.Txt.slice_le (z ++ Str.ofString "a") none (some 8)
        rw [l_app] at this
        have h1 : (Str.ofString "a").length = 1 := rfl
        omega
    refine ⟨_, rfl, _, _, rfl, rfl, ⟨by decide, bits_of (by decide +kernel)⟩, _, _, rfl, rfl, (by show (0 : Int) < 5; decide), rfl, _, rfl, ?_⟩
    refine ite2 (fun _ => ?_) (fun _ => ?_)
    · refine ⟨small10 (by show 7 ≤ 1000; decide), fun p hp => ?_⟩
      have sp := same_new hp (.lst [.str "some", .str "all", .str "and", .str "or", .str "not", .str "yes", .str "no"])
      have r0 : 0 ≤ n / 10 % 7 := Int.emod_nonneg _ (by decide)
      have r1 : n / 10 % 7 < 7 := Int.emod_lt_of_pos _ (by decide)
      have wd : ∃ y : Str, atI [V.str "some", V.str "all", V.str "and", V.str "or", V.str "not", V.str "yes", V.str "no"] (n / 10 % 7) = some (.str y) ∧ y.length ≤ 4 := by
        have hj : (n / 10 % 7).toNat < 7 := by omega
        have e := at_k (xs := [V.str "some", V.str "all", V.str "and", V.str "or", V.str "not", V.str "yes", V.str "no"]) (k := n / 10 % 7) (i := (n / 10 % 7).toNat) (by omega) hj
        rw [e]
        generalize (n / 10 % 7).toNat = j at hj
        match j, hj with
        | 0, _ => exact ⟨_, rfl, by decide⟩
        | 1, _ => exact ⟨_, rfl, by decide⟩
        | 2, _ => exact ⟨_, rfl, by decide⟩
        | 3, _ => exact ⟨_, rfl, by decide⟩
        | 4, _ => exact ⟨_, rfl, by decide⟩
        | 5, _ => exact ⟨_, rfl, by decide⟩
        | 6, _ => exact ⟨_, rfl, by decide⟩
      obtain ⟨y, ey, ly⟩ := wd
      refine ⟨_, rfl, _, _, rfl, rfl, ⟨by decide, bits_of (by decide +kernel)⟩, _, _, rfl, rfl, (by show (0 : Int) < 7; decide), p, _, _, _, rfl, rfl, SqL.of upd_same, ey, ?_⟩
      have sll := PySem.Txt.slice_le f1 none (some 4)
      refine ⟨_, rfl, l, _, _, _, rfl, rfl, SqL.of (sp _ _ hl), at1, _, rfl, _, rfl, big_line (by omega), _, _, rfl, rfl, big_line (by omega), ?_⟩
      have lF : (y ++ Txt.slice f1 none (some 4)).length ≤ 13 := by rw [l_app]; omega
      refine ⟨_, rfl, _, rfl, rfl, _, rfl, _, _, rfl, rfl, ?_, by decide, ?_⟩
      · split
        · exact .inr rfl
        · exact .inl rfl
      · have lq : (if (if decide (V.str (y ++ Txt.slice f1 none (some 4)) = V.str (Str.ofString "not")) = true then (1 : Int) else 0) = 0 then Str.empty else Str.ofString "q").length ≤ 1 := by
          split
          · decide
          · decide
        refine ⟨_, _, rfl, rfl, big_line (by omega), ?_⟩
        exact fin _ _ (by rw [l_app]; omega) (s1.trans sp)
    · exact fin _ _ (by omega) s1
theorem sc__law_step : FnScope ["_law_built_here", "_law_cell_here", "_law_names_here", "_law_way", "_law_rest", "_law_many", "_law_taken", "_law_deep", "_law_sentence"] ["_law_built_here", "_law_cell_here", "_law_names_here"] (defScope st__law_step) := ⟨rfl, rfl, rfl, by decide +kernel, rfl, by decide +kernel, by decide +kernel⟩
set_option maxHeartbeats 4000000 in
theorem ok__law_step (h : Has K mg "_law_step" st__law_step ["_law_built_here", "_law_cell_here", "_law_names_here"]) (B : Bl mg){aS : Addr} (F_law_folded : Ok P w K mg base 1 "_law_folded" ["_law_word", "_law_parts"] (sp__law_folded K)) (F_law_leaf : Ok P w K mg base 1 "_law_leaf" ["_law_cell_here", "_law_names_here"] (sp__law_leaf K)) : Ok P w K mg base 2 "_law_step" ["_law_built_here", "_law_cell_here", "_law_names_here"] (sp__law_step K) := by
  refine h.fn sc__law_step (fun vs H Q E h => ?_) (fun f cdv A outer s H vs Q E hr h => ?_)
  · obtain ⟨l, ln, c, ys, es, ns, rfl, _⟩ := h
    rfl
  · have hu16 := hu16_of hr
    have hu9 := hu9_of hr
    obtain ⟨l, ln, c, ys, es, ns, rfl, c0, hl, al, ok, ne, l38, hn, nl, n20, q⟩ := h
    refine ⟨_, (pss_cons (ps_set (i := 3) sc__law_step.nd rfl (Or.inl rfl) (pe_op (op_mod) (pv 1) pe_int))
      (pss_cons (ps_set (i := 4) sc__law_step.nd rfl (Or.inl rfl) (pe_op (op_fdivB) (pv 1) pe_int))
      (pss_cons (ps_set (i := 5) sc__law_step.nd rfl (Or.inl rfl) pe_int)
      (pss_cons (ps_if (pt_cmpR (op_gt) (pv 3) pe_int (nomark _)) (pss_one (ps_set (i := 5) sc__law_step.nd rfl (Or.inl rfl) (pe_op (op_add) pe_int (pe_op (op_mod) (pe_op (op_fdivB) (pv 4) pe_int) pe_int)))) pss_nil)
      (pss_cons (ps_set (i := 6) sc__law_step.nd rfl (Or.inl rfl) (pe_slice sl_list (pv 0) (po_some (pe_callB (call_max2 rfl) rfl B.max_ bt_max (pa_cons pe_int (pa_cons (pe_op (op_sub) (pe_callB (call_len_seq) rfl B.len_ bt_len (pa_cons (pv 0) pa_nil)) (pv 5)) pa_nil)))) po_none))
      (pss_cons (ps_set (i := 7) sc__law_step.nd rfl (Or.inl rfl) (pe_callB (call_max_list rfl) rfl B.max_ bt_max (pa_cons (pe_comp ["_law_one", "_law_depth"] [none, none] rfl (pi_list (pv 6)) (fun _ _ _ _ _ _ => (pg_tupK (K := K) (n := 2) rfl rfl (pgs_cons (pg_name (i := 0) (nd_ (l := ["_law_one", "_law_depth"]) (by decide +kernel)) rfl (Or.inl rfl)) (pgs_cons (pg_name (i := 1) (nd_ (l := ["_law_one", "_law_depth"]) (by decide +kernel)) rfl (Or.inl rfl)) pgs_nil)))) (fun _ _ _ _ _ _ => pf_nil) (fun _ _ _ _ _ _ => (pv 1))) pa_nil)))
      (pss_cons (ps_if (PW.pt (pw_or (pt_cmpR (op_lt) (pv 3) pe_int (nomark _)) (pw_or1 (pt_cmpR (op_gt) (pv 7) pe_int (nomark _))))) (pss_one (ps_ret (pe_op (op_cat) (pv 0) (pe_lst (pa_cons (pe_tup (pa_cons (pe_callN F_law_leaf (hr.mono (by decide)) rfl (pa_cons (pv 4) (pa_cons (pv 2) pa_nil))) (pa_cons pe_int pa_nil))) pa_nil))))) pss_nil)
      (pss_cons (ps_set (i := 8) sc__law_step.nd rfl (Or.inl rfl) (pe_ix ix_tup (pe_ix ix_list (pv 6) (pe_un un_neg pe_int) (fun _ _ => rfl)) pe_int (fun _ _ => rfl)))
      (pss_cons (ps_if (pt_cmpR (op_lt) (pv 3) pe_int (nomark _)) (pss_one (ps_set (i := 8) sc__law_step.nd rfl (Or.inl rfl) (pe_tup (pa_cons pe_str (pa_cons (pv 8) pa_nil))))) (pss_one (ps_if (pt_cmpR (op_lt) (pv 3) pe_int (nomark _)) (pss_one (ps_set (i := 8) sc__law_step.nd rfl (Or.inl rfl) (pe_tup (pa_cons (pe_ix ix_list (pe_lst (pa_cons pe_str (pa_cons pe_str pa_nil))) (pe_op (op_sub) (pv 3) pe_int) (fun _ _ => rfl)) (pa_cons (pe_ix ix_list (pv 2) (pe_op (op_mod) (pv 4) pe_int) (fun _ _ => rfl)) (pa_cons (pv 8) pa_nil)))))) (pss_one (ps_set (i := 8) sc__law_step.nd rfl (Or.inl rfl) (pe_callN F_law_folded (hr.mono (by decide)) rfl (pa_cons (pe_ix ix_list (pe_lst (pa_cons pe_str (pa_cons pe_str pa_nil))) (pe_op (op_mod) (pv 4) pe_int) (fun _ _ => rfl)) (pa_cons (pe_comp ["_law_one", "_law_depth"] [none, none] rfl (pi_list (pv 6)) (fun _ _ _ _ _ _ => (pg_tupK (K := K) (n := 2) rfl rfl (pgs_cons (pg_name (i := 0) (nd_ (l := ["_law_one", "_law_depth"]) (by decide +kernel)) rfl (Or.inl rfl)) (pgs_cons (pg_name (i := 1) (nd_ (l := ["_law_one", "_law_depth"]) (by decide +kernel)) rfl (Or.inl rfl)) pgs_nil)))) (fun _ _ _ _ _ _ => pf_nil) (fun _ _ _ _ _ _ => (pv 0))) pa_nil))))))))
      (pss_one (ps_ret (pe_op (op_cat) (pe_slice sl_list (pv 0) po_none (po_some (pe_op (op_sub) (pe_callB (call_len_seq) rfl B.len_ bt_len (pa_cons (pv 0) pa_nil)) (pe_callB (call_len_seq) rfl B.len_ bt_len (pa_cons (pv 6) pa_nil))))) (pe_lst (pa_cons (pe_tup (pa_cons (pv 8) (pa_cons (pe_op (op_add) (pv 7) pe_int) pa_nil))) pa_nil)))))))))))))), ?_⟩
    refine ⟨_, rfl, _, _, rfl, rfl, (by show (0 : Int) < 12; decide), ?_⟩
    refine ⟨_, rfl, _, _, rfl, rfl, ⟨by decide, bits_of (by decide +kernel)⟩, ?_⟩
    refine ⟨_, rfl, _, _, rfl, rfl, _, rfl, ?_⟩
    refine ite2 (fun _ => ?_) (fun _ => ?_)
    · refine ⟨_, rfl, _, _, rfl, rfl, ⟨by decide, bits_of (by decide +kernel)⟩, _, _, rfl, rfl, (by show (0 : Int) < 3; decide), _, _, rfl, rfl, ?_⟩
      have hm1 : 1 ≤ 2 + c / 12 / 2 % 3 := by omega
      have hm4 : 2 + c / 12 / 2 % 3 ≤ 4 := by omega
      generalize 2 + c / 12 / 2 % 3 = mv at hm1 hm4 ⊢
      refine ⟨_, rfl, _, rfl, l, _, rfl, .inl (SqL.of hl), _, rfl, _, _, rfl, rfl, _, _, rfl, _, rfl, l, _, rfl, SqL.of hl, fun pt hpt => ?_⟩
      have ly : es.length = ys.length := al.length
      have e0 : 0 < es.length := List.length_pos_iff.mpr ne
      obtain ⟨kk, ekk⟩ : ∃ kk : Nat, kk = ys.length - mv.toNat := ⟨_, rfl⟩
      have est : (if (ys.length : Int) - mv > 0 then (ys.length : Int) - mv else 0) = ((kk : Nat) : Int) := by rw [ekk]; split <;> omega
      rw [est, cut_drop ys kk (by omega)]
      have sD := same_new hpt (.lst (ys.drop kk))
      have hpD : upd H pt (.lst (ys.drop kk)) pt = some (.lst (ys.drop kk)) := upd_same
      have alD := All2.imp (fun _ _ z => Stk.same sD z) (all2_drop kk al)
      have okD : ∀ e ∈ es.drop kk, OkE e := fun e he => ok e (List.mem_of_mem_drop he)
      have lD : (es.drop kk).length = (ys.drop kk).length := by rw [List.length_drop, List.length_drop, ly]
      have pD : 0 < (es.drop kk).length := by rw [List.length_drop]; omega
      have fD : (es.drop kk).length ≤ 4 := by rw [List.length_drop]; omega
      have tD := totE_cut es kk
      generalize upd H pt (.lst (ys.drop kk)) = HD at sD hpD alD ⊢
      refine ⟨_, rfl, pt, rfl, ⟨_, SqL.of hpD⟩, fun D hD => comp_listY (xs := ys.drop kk) (fun i τ H4 => ∃ x1 x2 : Option V, τ = [x1, x2] ∧ New HD H4 D (.lst ((((es.drop kk).take i).map fun e => (e.k : Int)).map V.int))) ⟨_, _, rfl, New.mk hD⟩ (fun i τ H4 _ ⟨_, _, _, N⟩ => SqL.of (N.1 _ _ hpD)) ?_ ?_⟩
      · rintro i x τ H4 hx ⟨x1, x2, rfl, N⟩
        obtain ⟨hi, rfl⟩ := List.getElem?_eq_some_iff.mp hx
        have hi2 : i < (es.drop kk).length := by omega
        obtain ⟨g, b, eg, hg, _⟩ := alD.get i hi2 hi
        rw [eg]
        refine ⟨g, _, rfl, SqT.of (N.1 _ _ hg), rfl, _, _, rfl, _, _, rfl, rfl, ?_⟩
        refine ⟨_, rfl, _, N.2.2, small1000 (by rw [List.length_map, List.length_map, List.length_take]; omega), _, _, rfl, ?_⟩
        rw [List.take_add_one, List.getElem?_eq_getElem hi2, List.map_append, List.map_append]
        exact N.set (Same.refl _)
      rintro τ H4 ⟨x1, x2, rfl, N⟩
      rw [← lD, List.take_length] at N
      refine ⟨D, _, rfl, N.2.2, by rw [List.length_map]; exact pD, fun M hM hmax => ?_⟩
      obtain ⟨eX, meX, eM0⟩ := List.mem_map.mp hM
      obtain ⟨Mn, eMn⟩ : ∃ Mn : Nat, Mn = eX.k := ⟨_, rfl⟩
      have eM : M = (Mn : Int) := by rw [eMn, eM0]
      have le : ∀ e ∈ es.drop kk, e.k ≤ Mn := fun e he => by
        have := hmax _ (List.mem_map_of_mem he)
        omega
      refine ⟨_, rfl, _, _, rfl, rfl, _, rfl, ?_⟩
      refine ite2 (fun _ => ?_) (fun w5 => ?_)
      · refine iteP rfl ?_
        refine ⟨_, rfl, _, rfl, _, rfl, c / 12, ln, ns, rfl, Int.ediv_nonneg c0 (by decide), (sD.trans N.1) _ _ hn, nl, n20, fun a d t H' s' dv lf => ⟨small10 (by show 2 ≤ 1000; decide), fun g hg => ⟨small10 (by show 1 ≤ 1000; decide), fun l2 h2 => ?_⟩⟩⟩
        have s4 := sD.trans N.1
        have sg := same_new hg (.tup [.ref a, .int 1])
        have s2 := same_new h2 (.lst [.ref g])
        refine ⟨l, l2, _, _, rfl, rfl, s2 _ _ (sg _ _ (s' _ _ (s4 _ _ hl))), upd_same, small1000 (by rw [← al.length]; omega), fun l3 h3 => ?_⟩
        have s3 := same_new h3 (.lst (ys ++ [.ref g]))
        refine q l3 _ (es ++ [⟨d, t, 1⟩]) _ (s4.trans (s'.trans (sg.trans (s2.trans s3)))) upd_same (All2.snoc (All2.imp (fun _ _ z => z.same (s4.trans (s'.trans (sg.trans (s2.trans s3))))) al) ⟨g, a, rfl, s3 _ _ (s2 _ _ upd_same), (sg.trans (s2.trans s3)).dv dv⟩) (fun e he => ?_) (by simp) (by rw [List.length_append]; exact Nat.le_refl _) ?_
        · rcases List.mem_append.mp he with he | he
          · exact ok e he
          · rw [List.mem_singleton.mp he]
            exact ⟨.inl lf, Nat.le_refl _, by show 1 ≤ 8; decide⟩
        · rw [totE_app, totE_one]
          have := leaf_len lf
          show _ + t.length ≤ _
          omega
      refine ⟨_, rfl, _, _, rfl, rfl, _, rfl, ?_⟩
      refine ite2 (fun _ => ?_) (fun d7 => ?_)
      · skip
        refine ⟨_, rfl, _, rfl, _, rfl, c / 12, ln, ns, rfl, Int.ediv_nonneg c0 (by decide), (sD.trans N.1) _ _ hn, nl, n20, fun a d t H' s' dv lf => ⟨small10 (by show 2 ≤ 1000; decide), fun g hg => ⟨small10 (by show 1 ≤ 1000; decide), fun l2 h2 => ?_⟩⟩⟩
        have s4 := sD.trans N.1
        have sg := same_new hg (.tup [.ref a, .int 1])
        have s2 := same_new h2 (.lst [.ref g])
        refine ⟨l, l2, _, _, rfl, rfl, s2 _ _ (sg _ _ (s' _ _ (s4 _ _ hl))), upd_same, small1000 (by rw [← al.length]; omega), fun l3 h3 => ?_⟩
        have s3 := same_new h3 (.lst (ys ++ [.ref g]))
        refine q l3 _ (es ++ [⟨d, t, 1⟩]) _ (s4.trans (s'.trans (sg.trans (s2.trans s3)))) upd_same (All2.snoc (All2.imp (fun _ _ z => z.same (s4.trans (s'.trans (sg.trans (s2.trans s3))))) al) ⟨g, a, rfl, s3 _ _ (s2 _ _ upd_same), (sg.trans (s2.trans s3)).dv dv⟩) (fun e he => ?_) (by simp) (by rw [List.length_append]; exact Nat.le_refl _) ?_
        · rcases List.mem_append.mp he with he | he
          · exact ok e he
          · rw [List.mem_singleton.mp he]
            exact ⟨.inl lf, Nat.le_refl _, by show 1 ≤ 8; decide⟩
        · rw [totE_app, totE_one]
          have := leaf_len lf
          show _ + t.length ≤ _
          omega
      have d7 : Mn ≤ 7 := by
        have z : ¬ (7 < M) := fun z => d7 (decide_eq_true z)
        omega
      have hj : (es.drop kk).length - 1 < (es.drop kk).length := by omega
      have hj2 : (es.drop kk).length - 1 < (ys.drop kk).length := by omega
      obtain ⟨eL, eeL⟩ : ∃ eL, eL = (es.drop kk)[(es.drop kk).length - 1] := ⟨_, rfl⟩
      obtain ⟨gL, bL, egL, hgL, dvL⟩ := alD.get _ hj hj2
      rw [← eeL] at hgL dvL
      have mL : eL ∈ es.drop kk := eeL ▸ List.getElem_mem hj
      have snL := (okD eL mL).1
      have kL := le eL mL
      have tL := totE_mem mL
      have atL : atI (ys.drop kk) (-1) = some (.ref gL) := by
        rw [at_last (by omega), ← egL]
        congr 2
        omega
      have s4 := sD.trans N.1
      refine ⟨_, rfl, _, rfl, pt, _, _, _, rfl, rfl, SqL.of (N.1 _ _ hpD), atL, gL, _, _, _, rfl, rfl, SqT.of (N.1 _ _ hgL), at0, ?_⟩
      have dvL4 := N.1.dv dvL
      refine ⟨_, rfl, _, _, rfl, rfl, _, rfl, ?_⟩
      refine ite2 (fun _ => ?_) (fun w7 => ?_)
      · refine ⟨_, rfl, small10 (by show 2 ≤ 1000; decide), fun bN hbN => ?_⟩
        have sb := same_new hbN (.tup [.str "not", .ref bL])
        have sX := s4.trans sb
        have hpX := sb _ _ (N.1 _ _ hpD)
        obtain ⟨dN, edN⟩ : ∃ dN, dN = ofL [.str "not", eL.d] := ⟨_, rfl⟩
        obtain ⟨tN, etN⟩ : ∃ tN, tN = ("not " : Str) ++ brk "not" eL.d eL.t := ⟨_, rfl⟩
        have vN : DV (upd H4 bN (.tup [.str "not", .ref bL])) dN (.ref bN) := by
          rw [edN]
          exact dv_tup.mpr ⟨bN, _, rfl, upd_same, .cons (by simp only [DV]) (.cons (sb.dv dvL4) .nil)⟩
        have snN : Sn (Mn + 1) dN tN := .inr (.inl ⟨_, _, sn_mono kL snL, edN, etN⟩)
        have lN : tN.length ≤ totE (es.drop kk) + 2000 := by
          rw [etN, l_app]
          have := (brk_len "not" eL.d eL.t).2
          show 4 + _ ≤ _
          omega
        refine ⟨_, rfl, _, rfl, l, _, rfl, .inl (SqL.of (sX _ _ hl)), _, rfl, pt, _, rfl, .inl (SqL.of hpX), _, _, rfl, rfl, _, rfl, l, _, rfl, SqL.of (sX _ _ hl), fun lp hlp => ?_⟩
        have ecut : cutV ys none (some ((ys.length : Int) - ((ys.drop kk).length : Int))) = ys.take kk := by
          have e : (ys.length : Int) - ((ys.drop kk).length : Int) = ((kk : Nat) : Int) := by rw [List.length_drop]; omega
          rw [e, cut_take]
        rw [ecut]
        have tp := same_new hlp (.lst (ys.take kk))
        refine ⟨_, rfl, _, rfl, _, _, rfl, rfl, small10 (by show 2 ≤ 1000; decide), fun g hg => ⟨small10 (by show 1 ≤ 1000; decide), fun l2 h2 => ?_⟩⟩
        have tg := same_new hg (.tup [.ref bN, .int (M + 1)])
        have t2 := same_new h2 (.lst [.ref g])
        refine ⟨lp, l2, _, _, rfl, rfl, t2 _ _ (tg _ _ upd_same), upd_same, small1000 (by rw [List.length_take]; omega), fun l3 h3 => ?_⟩
        have t3 := same_new h3 (.lst (ys.take kk ++ [.ref g]))
        have sZ := tp.trans (tg.trans (t2.trans t3))
        refine q l3 _ (es.take kk ++ [⟨dN, tN, Mn + 1⟩]) _ (sX.trans sZ) upd_same (All2.snoc (All2.imp (fun _ _ z => z.same (sX.trans sZ)) (all2_take kk al)) ⟨g, bN, rfl, ?_, sZ.dv vN⟩) (fun e he => ?_) (by simp) (by rw [List.length_append, List.length_take]; show _ + 1 ≤ _; omega) ?_
        · rw [t3 _ _ (t2 _ _ upd_same), eM]
          rfl
        · rcases List.mem_append.mp he with he | he
          · exact ok e (List.mem_of_mem_take he)
          · rw [List.mem_singleton.mp he]
            exact ⟨snN, Nat.succ_le_succ (Nat.zero_le _), by show Mn + 1 ≤ 8; omega⟩
        · rw [totE_app, totE_one]
          have := totE_cut es kk
          show _ + tN.length ≤ _
          omega
      refine ⟨_, rfl, _, _, rfl, rfl, _, rfl, ?_⟩
      refine ite2 (fun w9 => ?_) (fun w9 => ?_)
      · have w7' : 7 ≤ c % 12 := by
          have z : ¬ (c % 12 < 7) := fun z => w7 (decide_eq_true z)
          omega
        have w9' : c % 12 < 9 := of_decide_eq_true w9
        obtain ⟨xN, hxN, exN⟩ : ∃ xN : Str, (xN = "some" ∨ xN = "all") ∧ atI [V.str "some", V.str "all"] (c % 12 - 7) = some (.str xN) := by
          have e : c % 12 - 7 = 0 ∨ c % 12 - 7 = 1 := by omega
          rcases e with e | e <;> rw [e]
          · exact ⟨_, .inl rfl, at0⟩
          · exact ⟨_, .inr rfl, at1⟩
        obtain ⟨nm, mnm, enm⟩ := pick2 nl (Int.emod_nonneg (c / 12) (b := 2) (by decide)) (Int.emod_lt_of_pos (c / 12) (b := 2) (by decide))
        have lnm := n20 nm mnm
        refine ⟨small10 (by show 2 ≤ 1000; decide), fun lw hlw => ?_⟩
        have sw := same_new hlw (.lst [V.str "some", V.str "all"])
        refine ⟨_, rfl, _, _, rfl, rfl, lw, _, _, _, rfl, rfl, SqL.of upd_same, exN, _, rfl, _, rfl, _, _, rfl, rfl, (by show (0 : Int) < 2; decide), ln, _, _, _, rfl, rfl, SqL.of (sw _ _ (s4 _ _ hn)), enm, _, rfl, small10 (by show 3 ≤ 1000; decide), fun bN hbN => ?_⟩
        have sb := same_new hbN (.tup [.str xN, .str nm, .ref bL])
        have sX := s4.trans (sw.trans sb)
        have hpX := sb _ _ (sw _ _ (N.1 _ _ hpD))
        obtain ⟨dN, edN⟩ : ∃ dN, dN = ofL [.str xN, .str nm, eL.d] := ⟨_, rfl⟩
        obtain ⟨tN, etN⟩ : ∃ tN, tN = xN ++ (" " : Str) ++ nm ++ (": " : Str) ++ eL.t := ⟨_, rfl⟩
        have vN : DV (upd (upd H4 lw (.lst [V.str "some", V.str "all"])) bN (.tup [.str xN, .str nm, .ref bL])) dN (.ref bN) := by
          rw [edN]
          exact dv_tup.mpr ⟨bN, _, rfl, upd_same, .cons (by simp only [DV]) (.cons (by simp only [DV]) (.cons ((sw.trans sb).dv dvL4) .nil))⟩
        have snN : Sn (Mn + 1) dN tN := .inr (.inr (.inr (.inr ⟨_, _, _, _, hxN, sn_mono kL snL, edN, etN⟩)))
        have lN : tN.length ≤ totE (es.drop kk) + 2000 := by
          rw [etN, l_app, l_app, l_app, l_app]
          have : xN.length ≤ 4 := by rcases hxN with rfl | rfl <;> decide
          show _ + 1 + _ + 2 + _ ≤ _
          omega
        refine ⟨_, rfl, _, rfl, l, _, rfl, .inl (SqL.of (sX _ _ hl)), _, rfl, pt, _, rfl, .inl (SqL.of hpX), _, _, rfl, rfl, _, rfl, l, _, rfl, SqL.of (sX _ _ hl), fun lp hlp => ?_⟩
        have ecut : cutV ys none (some ((ys.length : Int) - ((ys.drop kk).length : Int))) = ys.take kk := by
          have e : (ys.length : Int) - ((ys.drop kk).length : Int) = ((kk : Nat) : Int) := by rw [List.length_drop]; omega
          rw [e, cut_take]
        rw [ecut]
        have tp := same_new hlp (.lst (ys.take kk))
        refine ⟨_, rfl, _, rfl, _, _, rfl, rfl, small10 (by show 2 ≤ 1000; decide), fun g hg => ⟨small10 (by show 1 ≤ 1000; decide), fun l2 h2 => ?_⟩⟩
        have tg := same_new hg (.tup [.ref bN, .int (M + 1)])
        have t2 := same_new h2 (.lst [.ref g])
        refine ⟨lp, l2, _, _, rfl, rfl, t2 _ _ (tg _ _ upd_same), upd_same, small1000 (by rw [List.length_take]; omega), fun l3 h3 => ?_⟩
        have t3 := same_new h3 (.lst (ys.take kk ++ [.ref g]))
        have sZ := tp.trans (tg.trans (t2.trans t3))
        refine q l3 _ (es.take kk ++ [⟨dN, tN, Mn + 1⟩]) _ (sX.trans sZ) upd_same (All2.snoc (All2.imp (fun _ _ z => z.same (sX.trans sZ)) (all2_take kk al)) ⟨g, bN, rfl, ?_, sZ.dv vN⟩) (fun e he => ?_) (by simp) (by rw [List.length_append, List.length_take]; show _ + 1 ≤ _; omega) ?_
        · rw [t3 _ _ (t2 _ _ upd_same), eM]
          rfl
        · rcases List.mem_append.mp he with he | he
          · exact ok e (List.mem_of_mem_take he)
          · rw [List.mem_singleton.mp he]
            exact ⟨snN, Nat.succ_le_succ (Nat.zero_le _), by show Mn + 1 ≤ 8; omega⟩
        · rw [totE_app, totE_one]
          have := totE_cut es kk
          show _ + tN.length ≤ _
          omega
      · obtain ⟨oN, hoN, eoN⟩ : ∃ oN : Str, (oN = "both" ∨ oN = "either") ∧ atI [V.str "both", V.str "either"] (c / 12 % 2) = some (.str oN) := by
          have e : c / 12 % 2 = 0 ∨ c / 12 % 2 = 1 := by omega
          rcases e with e | e <;> rw [e]
          · exact ⟨_, .inl rfl, at0⟩
          · exact ⟨_, .inr rfl, at1⟩
        refine ⟨small10 (by show 2 ≤ 1000; decide), fun lw hlw => ?_⟩
        have sw := same_new hlw (.lst [V.str "both", V.str "either"])
        refine ⟨_, rfl, _, _, rfl, rfl, (by show (0 : Int) < 2; decide), lw, _, _, _, rfl, rfl, SqL.of upd_same, eoN, ?_⟩
        refine ⟨_, rfl, pt, rfl, ⟨_, SqL.of (sw _ _ (N.1 _ _ hpD))⟩, fun D2 hD2 => comp_listY (xs := ys.drop kk) (fun i τ H5 => ∃ (x1 x2 : Option V) (ws : List V), τ = [x1, x2] ∧ New (upd H4 lw (.lst [V.str "both", V.str "either"])) H5 D2 (.lst ws) ∧ All2 (DV H5) ((pairsE ((es.drop kk).take i)).map (·.1)) ws) ⟨_, _, [], rfl, New.mk hD2, .nil⟩ (fun i τ H5 _ ⟨_, _, _, _, N2, _⟩ => SqL.of (N2.1 _ _ (sw _ _ (N.1 _ _ hpD)))) ?_ ?_⟩
        · rintro i x τ H5 hx ⟨x1, x2, ws, rfl, N2, aw⟩
          obtain ⟨hi, rfl⟩ := List.getElem?_eq_some_iff.mp hx
          have hi2 : i < (es.drop kk).length := by omega
          obtain ⟨g, b, eg, hg, db⟩ := alD.get i hi2 hi
          have lw2 := aw.length
          unfold pairsE at lw2
          rw [List.length_map, List.length_map, List.length_take] at lw2
          rw [eg]
          refine ⟨g, _, rfl, SqT.of (N2.1 _ _ (sw _ _ (N.1 _ _ hg))), rfl, _, _, rfl, _, _, rfl, rfl, ?_⟩
          refine ⟨_, rfl, ws, N2.2.2, small1000 (by omega), _, _, ws ++ [.ref b], rfl, N2.set (Same.refl _), ?_⟩
          unfold pairsE at aw ⊢
          rw [List.take_add_one, List.getElem?_eq_getElem hi2, List.map_append, List.map_append]
          exact All2.snoc (all_dv (fun e w z => dv_upd (o := .lst ws) N2.2.2 (fun _ h => by cases h) z) aw) (dv_upd (o := .lst ws) N2.2.2 (fun _ h => by cases h) ((N.1.trans (sw.trans N2.1)).dv db))
        rintro τ H5 ⟨x1, x2, ws, rfl, N2, aw⟩
        rw [← lD, List.take_length] at aw
        refine ⟨oN, D2, ws, pairsE (es.drop kk), Mn, rfl, hoN, SqL.of N2.2.2, aw, fun p hp => ?_, by omega, ?_, by unfold pairsE; rw [List.length_map]; omega, fun bN dN tN HX sX' vN snN lN' => ?_⟩
        · obtain ⟨e, he, rfl⟩ := List.mem_map.mp hp
          exact sn_mono (le e he) (okD e he).1
        · intro z
          have := congrArg List.length z
          unfold pairsE at this
          rw [List.length_map, List.length_nil] at this
          omega
        have sX := s4.trans (sw.trans (N2.1.trans sX'))
        have hpX := sX' _ _ (N2.1 _ _ (sw _ _ (N.1 _ _ hpD)))
        have lN : tN.length ≤ totE (es.drop kk) + 2000 := by
          rw [sumL_E] at lN'
          unfold pairsE at lN'
          rw [List.length_map] at lN'
          omega
        refine ⟨_, rfl, _, rfl, l, _, rfl, .inl (SqL.of (sX _ _ hl)), _, rfl, pt, _, rfl, .inl (SqL.of hpX), _, _, rfl, rfl, _, rfl, l, _, rfl, SqL.of (sX _ _ hl), fun lp hlp => ?_⟩
        have ecut : cutV ys none (some ((ys.length : Int) - ((ys.drop kk).length : Int))) = ys.take kk := by
          have e : (ys.length : Int) - ((ys.drop kk).length : Int) = ((kk : Nat) : Int) := by rw [List.length_drop]; omega
          rw [e, cut_take]
        rw [ecut]
        have tp := same_new hlp (.lst (ys.take kk))
        refine ⟨_, rfl, _, rfl, _, _, rfl, rfl, small10 (by show 2 ≤ 1000; decide), fun g hg => ⟨small10 (by show 1 ≤ 1000; decide), fun l2 h2 => ?_⟩⟩
        have tg := same_new hg (.tup [.ref bN, .int (M + 1)])
        have t2 := same_new h2 (.lst [.ref g])
        refine ⟨lp, l2, _, _, rfl, rfl, t2 _ _ (tg _ _ upd_same), upd_same, small1000 (by rw [List.length_take]; omega), fun l3 h3 => ?_⟩
        have t3 := same_new h3 (.lst (ys.take kk ++ [.ref g]))
        have sZ := tp.trans (tg.trans (t2.trans t3))
        refine q l3 _ (es.take kk ++ [⟨dN, tN, Mn + 1⟩]) _ (sX.trans sZ) upd_same (All2.snoc (All2.imp (fun _ _ z => z.same (sX.trans sZ)) (all2_take kk al)) ⟨g, bN, rfl, ?_, sZ.dv vN⟩) (fun e he => ?_) (by simp) (by rw [List.length_append, List.length_take]; show _ + 1 ≤ _; omega) ?_
        · rw [t3 _ _ (t2 _ _ upd_same), eM]
          rfl
        · rcases List.mem_append.mp he with he | he
          · exact ok e (List.mem_of_mem_take he)
          · rw [List.mem_singleton.mp he]
            exact ⟨snN, Nat.succ_le_succ (Nat.zero_le _), by show Mn + 1 ≤ 8; omega⟩
        · rw [totE_app, totE_one]
          have := totE_cut es kk
          show _ + tN.length ≤ _
          omega
    · have hm1 : (1 : Int) ≤ 1 := by decide
      have hm4 : (1 : Int) ≤ 4 := by decide
      refine ⟨_, rfl, _, rfl, l, _, rfl, .inl (SqL.of hl), _, rfl, _, _, rfl, rfl, _, _, rfl, _, rfl, l, _, rfl, SqL.of hl, fun pt hpt => ?_⟩
      have ly : es.length = ys.length := al.length
      have e0 : 0 < es.length := List.length_pos_iff.mpr ne
      obtain ⟨kk, ekk⟩ : ∃ kk : Nat, kk = ys.length - (1 : Int).toNat := ⟨_, rfl⟩
      have est : (if (ys.length : Int) - (1 : Int) > 0 then (ys.length : Int) - (1 : Int) else 0) = ((kk : Nat) : Int) := by rw [ekk]; split <;> omega
      rw [est, cut_drop ys kk (by omega)]
      have sD := same_new hpt (.lst (ys.drop kk))
      have hpD : upd H pt (.lst (ys.drop kk)) pt = some (.lst (ys.drop kk)) := upd_same
      have alD := All2.imp (fun _ _ z => Stk.same sD z) (all2_drop kk al)
      have okD : ∀ e ∈ es.drop kk, OkE e := fun e he => ok e (List.mem_of_mem_drop he)
      have lD : (es.drop kk).length = (ys.drop kk).length := by rw [List.length_drop, List.length_drop, ly]
      have pD : 0 < (es.drop kk).length := by rw [List.length_drop]; omega
      have fD : (es.drop kk).length ≤ 4 := by rw [List.length_drop]; omega
      have tD := totE_cut es kk
      generalize upd H pt (.lst (ys.drop kk)) = HD at sD hpD alD ⊢
      refine ⟨_, rfl, pt, rfl, ⟨_, SqL.of hpD⟩, fun D hD => comp_listY (xs := ys.drop kk) (fun i τ H4 => ∃ x1 x2 : Option V, τ = [x1, x2] ∧ New HD H4 D (.lst ((((es.drop kk).take i).map fun e => (e.k : Int)).map V.int))) ⟨_, _, rfl, New.mk hD⟩ (fun i τ H4 _ ⟨_, _, _, N⟩ => SqL.of (N.1 _ _ hpD)) ?_ ?_⟩
      · rintro i x τ H4 hx ⟨x1, x2, rfl, N⟩
        obtain ⟨hi, rfl⟩ := List.getElem?_eq_some_iff.mp hx
        have hi2 : i < (es.drop kk).length := by omega
        obtain ⟨g, b, eg, hg, _⟩ := alD.get i hi2 hi
        rw [eg]
        refine ⟨g, _, rfl, SqT.of (N.1 _ _ hg), rfl, _, _, rfl, _, _, rfl, rfl, ?_⟩
        refine ⟨_, rfl, _, N.2.2, small1000 (by rw [List.length_map, List.length_map, List.length_take]; omega), _, _, rfl, ?_⟩
        rw [List.take_add_one, List.getElem?_eq_getElem hi2, List.map_append, List.map_append]
        exact N.set (Same.refl _)
      rintro τ H4 ⟨x1, x2, rfl, N⟩
      rw [← lD, List.take_length] at N
      refine ⟨D, _, rfl, N.2.2, by rw [List.length_map]; exact pD, fun M hM hmax => ?_⟩
      obtain ⟨eX, meX, eM0⟩ := List.mem_map.mp hM
      obtain ⟨Mn, eMn⟩ : ∃ Mn : Nat, Mn = eX.k := ⟨_, rfl⟩
      have eM : M = (Mn : Int) := by rw [eMn, eM0]
      have le : ∀ e ∈ es.drop kk, e.k ≤ Mn := fun e he => by
        have := hmax _ (List.mem_map_of_mem he)
        omega
      refine ⟨_, rfl, _, _, rfl, rfl, _, rfl, ?_⟩
      refine ite2 (fun _ => ?_) (fun w5 => ?_)
      · refine iteP rfl ?_
        refine ⟨_, rfl, _, rfl, _, rfl, c / 12, ln, ns, rfl, Int.ediv_nonneg c0 (by decide), (sD.trans N.1) _ _ hn, nl, n20, fun a d t H' s' dv lf => ⟨small10 (by show 2 ≤ 1000; decide), fun g hg => ⟨small10 (by show 1 ≤ 1000; decide), fun l2 h2 => ?_⟩⟩⟩
        have s4 := sD.trans N.1
        have sg := same_new hg (.tup [.ref a, .int 1])
        have s2 := same_new h2 (.lst [.ref g])
        refine ⟨l, l2, _, _, rfl, rfl, s2 _ _ (sg _ _ (s' _ _ (s4 _ _ hl))), upd_same, small1000 (by rw [← al.length]; omega), fun l3 h3 => ?_⟩
        have s3 := same_new h3 (.lst (ys ++ [.ref g]))
        refine q l3 _ (es ++ [⟨d, t, 1⟩]) _ (s4.trans (s'.trans (sg.trans (s2.trans s3)))) upd_same (All2.snoc (All2.imp (fun _ _ z => z.same (s4.trans (s'.trans (sg.trans (s2.trans s3))))) al) ⟨g, a, rfl, s3 _ _ (s2 _ _ upd_same), (sg.trans (s2.trans s3)).dv dv⟩) (fun e he => ?_) (by simp) (by rw [List.length_append]; exact Nat.le_refl _) ?_
        · rcases List.mem_append.mp he with he | he
          · exact ok e he
          · rw [List.mem_singleton.mp he]
            exact ⟨.inl lf, Nat.le_refl _, by show 1 ≤ 8; decide⟩
        · rw [totE_app, totE_one]
          have := leaf_len lf
          show _ + t.length ≤ _
          omega
      refine ⟨_, rfl, _, _, rfl, rfl, _, rfl, ?_⟩
      refine ite2 (fun _ => ?_) (fun d7 => ?_)
      · skip
        refine ⟨_, rfl, _, rfl, _, rfl, c / 12, ln, ns, rfl, Int.ediv_nonneg c0 (by decide), (sD.trans N.1) _ _ hn, nl, n20, fun a d t H' s' dv lf => ⟨small10 (by show 2 ≤ 1000; decide), fun g hg => ⟨small10 (by show 1 ≤ 1000; decide), fun l2 h2 => ?_⟩⟩⟩
        have s4 := sD.trans N.1
        have sg := same_new hg (.tup [.ref a, .int 1])
        have s2 := same_new h2 (.lst [.ref g])
        refine ⟨l, l2, _, _, rfl, rfl, s2 _ _ (sg _ _ (s' _ _ (s4 _ _ hl))), upd_same, small1000 (by rw [← al.length]; omega), fun l3 h3 => ?_⟩
        have s3 := same_new h3 (.lst (ys ++ [.ref g]))
        refine q l3 _ (es ++ [⟨d, t, 1⟩]) _ (s4.trans (s'.trans (sg.trans (s2.trans s3)))) upd_same (All2.snoc (All2.imp (fun _ _ z => z.same (s4.trans (s'.trans (sg.trans (s2.trans s3))))) al) ⟨g, a, rfl, s3 _ _ (s2 _ _ upd_same), (sg.trans (s2.trans s3)).dv dv⟩) (fun e he => ?_) (by simp) (by rw [List.length_append]; exact Nat.le_refl _) ?_
        · rcases List.mem_append.mp he with he | he
          · exact ok e he
          · rw [List.mem_singleton.mp he]
            exact ⟨.inl lf, Nat.le_refl _, by show 1 ≤ 8; decide⟩
        · rw [totE_app, totE_one]
          have := leaf_len lf
          show _ + t.length ≤ _
          omega
      have d7 : Mn ≤ 7 := by
        have z : ¬ (7 < M) := fun z => d7 (decide_eq_true z)
        omega
      have hj : (es.drop kk).length - 1 < (es.drop kk).length := by omega
      have hj2 : (es.drop kk).length - 1 < (ys.drop kk).length := by omega
      obtain ⟨eL, eeL⟩ : ∃ eL, eL = (es.drop kk)[(es.drop kk).length - 1] := ⟨_, rfl⟩
      obtain ⟨gL, bL, egL, hgL, dvL⟩ := alD.get _ hj hj2
      rw [← eeL] at hgL dvL
      have mL : eL ∈ es.drop kk := eeL ▸ List.getElem_mem hj
      have snL := (okD eL mL).1
      have kL := le eL mL
      have tL := totE_mem mL
      have atL : atI (ys.drop kk) (-1) = some (.ref gL) := by
        rw [at_last (by omega), ← egL]
        congr 2
        omega
      have s4 := sD.trans N.1
      refine ⟨_, rfl, _, rfl, pt, _, _, _, rfl, rfl, SqL.of (N.1 _ _ hpD), atL, gL, _, _, _, rfl, rfl, SqT.of (N.1 _ _ hgL), at0, ?_⟩
      have dvL4 := N.1.dv dvL
      refine ⟨_, rfl, _, _, rfl, rfl, _, rfl, ?_⟩
      refine ite2 (fun _ => ?_) (fun w7 => ?_)
      · refine ⟨_, rfl, small10 (by show 2 ≤ 1000; decide), fun bN hbN => ?_⟩
        have sb := same_new hbN (.tup [.str "not", .ref bL])
        have sX := s4.trans sb
        have hpX := sb _ _ (N.1 _ _ hpD)
        obtain ⟨dN, edN⟩ : ∃ dN, dN = ofL [.str "not", eL.d] := ⟨_, rfl⟩
        obtain ⟨tN, etN⟩ : ∃ tN, tN = ("not " : Str) ++ brk "not" eL.d eL.t := ⟨_, rfl⟩
        have vN : DV (upd H4 bN (.tup [.str "not", .ref bL])) dN (.ref bN) := by
          rw [edN]
          exact dv_tup.mpr ⟨bN, _, rfl, upd_same, .cons (by simp only [DV]) (.cons (sb.dv dvL4) .nil)⟩
        have snN : Sn (Mn + 1) dN tN := .inr (.inl ⟨_, _, sn_mono kL snL, edN, etN⟩)
        have lN : tN.length ≤ totE (es.drop kk) + 2000 := by
          rw [etN, l_app]
          have := (brk_len "not" eL.d eL.t).2
          show 4 + _ ≤ _
          omega
        refine ⟨_, rfl, _, rfl, l, _, rfl, .inl (SqL.of (sX _ _ hl)), _, rfl, pt, _, rfl, .inl (SqL.of hpX), _, _, rfl, rfl, _, rfl, l, _, rfl, SqL.of (sX _ _ hl), fun lp hlp => ?_⟩
        have ecut : cutV ys none (some ((ys.length : Int) - ((ys.drop kk).length : Int))) = ys.take kk := by
          have e : (ys.length : Int) - ((ys.drop kk).length : Int) = ((kk : Nat) : Int) := by rw [List.length_drop]; omega
          rw [e, cut_take]
        rw [ecut]
        have tp := same_new hlp (.lst (ys.take kk))
        refine ⟨_, rfl, _, rfl, _, _, rfl, rfl, small10 (by show 2 ≤ 1000; decide), fun g hg => ⟨small10 (by show 1 ≤ 1000; decide), fun l2 h2 => ?_⟩⟩
        have tg := same_new hg (.tup [.ref bN, .int (M + 1)])
        have t2 := same_new h2 (.lst [.ref g])
        refine ⟨lp, l2, _, _, rfl, rfl, t2 _ _ (tg _ _ upd_same), upd_same, small1000 (by rw [List.length_take]; omega), fun l3 h3 => ?_⟩
        have t3 := same_new h3 (.lst (ys.take kk ++ [.ref g]))
        have sZ := tp.trans (tg.trans (t2.trans t3))
        refine q l3 _ (es.take kk ++ [⟨dN, tN, Mn + 1⟩]) _ (sX.trans sZ) upd_same (All2.snoc (All2.imp (fun _ _ z => z.same (sX.trans sZ)) (all2_take kk al)) ⟨g, bN, rfl, ?_, sZ.dv vN⟩) (fun e he => ?_) (by simp) (by rw [List.length_append, List.length_take]; show _ + 1 ≤ _; omega) ?_
        · rw [t3 _ _ (t2 _ _ upd_same), eM]
          rfl
        · rcases List.mem_append.mp he with he | he
          · exact ok e (List.mem_of_mem_take he)
          · rw [List.mem_singleton.mp he]
            exact ⟨snN, Nat.succ_le_succ (Nat.zero_le _), by show Mn + 1 ≤ 8; omega⟩
        · rw [totE_app, totE_one]
          have := totE_cut es kk
          show _ + tN.length ≤ _
          omega
      refine ⟨_, rfl, _, _, rfl, rfl, _, rfl, ?_⟩
      refine ite2 (fun w9 => ?_) (fun w9 => ?_)
      · have w7' : 7 ≤ c % 12 := by
          have z : ¬ (c % 12 < 7) := fun z => w7 (decide_eq_true z)
          omega
        have w9' : c % 12 < 9 := of_decide_eq_true w9
        obtain ⟨xN, hxN, exN⟩ : ∃ xN : Str, (xN = "some" ∨ xN = "all") ∧ atI [V.str "some", V.str "all"] (c % 12 - 7) = some (.str xN) := by
          have e : c % 12 - 7 = 0 ∨ c % 12 - 7 = 1 := by omega
          rcases e with e | e <;> rw [e]
          · exact ⟨_, .inl rfl, at0⟩
          · exact ⟨_, .inr rfl, at1⟩
        obtain ⟨nm, mnm, enm⟩ := pick2 nl (Int.emod_nonneg (c / 12) (b := 2) (by decide)) (Int.emod_lt_of_pos (c / 12) (b := 2) (by decide))
        have lnm := n20 nm mnm
        refine ⟨small10 (by show 2 ≤ 1000; decide), fun lw hlw => ?_⟩
        have sw := same_new hlw (.lst [V.str "some", V.str "all"])
        refine ⟨_, rfl, _, _, rfl, rfl, lw, _, _, _, rfl, rfl, SqL.of upd_same, exN, _, rfl, _, rfl, _, _, rfl, rfl, (by show (0 : Int) < 2; decide), ln, _, _, _, rfl, rfl, SqL.of (sw _ _ (s4 _ _ hn)), enm, _, rfl, small10 (by show 3 ≤ 1000; decide), fun bN hbN => ?_⟩
        have sb := same_new hbN (.tup [.str xN, .str nm, .ref bL])
        have sX := s4.trans (sw.trans sb)
        have hpX := sb _ _ (sw _ _ (N.1 _ _ hpD))
        obtain ⟨dN, edN⟩ : ∃ dN, dN = ofL [.str xN, .str nm, eL.d] := ⟨_, rfl⟩
        obtain ⟨tN, etN⟩ : ∃ tN, tN = xN ++ (" " : Str) ++ nm ++ (": " : Str) ++ eL.t := ⟨_, rfl⟩
        have vN : DV (upd (upd H4 lw (.lst [V.str "some", V.str "all"])) bN (.tup [.str xN, .str nm, .ref bL])) dN (.ref bN) := by
          rw [edN]
          exact dv_tup.mpr ⟨bN, _, rfl, upd_same, .cons (by simp only [DV]) (.cons (by simp only [DV]) (.cons ((sw.trans sb).dv dvL4) .nil))⟩
        have snN : Sn (Mn + 1) dN tN := .inr (.inr (.inr (.inr ⟨_, _, _, _, hxN, sn_mono kL snL, edN, etN⟩)))
        have lN : tN.length ≤ totE (es.drop kk) + 2000 := by
          rw [etN, l_app, l_app, l_app, l_app]
          have : xN.length ≤ 4 := by rcases hxN with rfl | rfl <;> decide
          show _ + 1 + _ + 2 + _ ≤ _
          omega
        refine ⟨_, rfl, _, rfl, l, _, rfl, .inl (SqL.of (sX _ _ hl)), _, rfl, pt, _, rfl, .inl (SqL.of hpX), _, _, rfl, rfl, _, rfl, l, _, rfl, SqL.of (sX _ _ hl), fun lp hlp => ?_⟩
        have ecut : cutV ys none (some ((ys.length : Int) - ((ys.drop kk).length : Int))) = ys.take kk := by
          have e : (ys.length : Int) - ((ys.drop kk).length : Int) = ((kk : Nat) : Int) := by rw [List.length_drop]; omega
          rw [e, cut_take]
        rw [ecut]
        have tp := same_new hlp (.lst (ys.take kk))
        refine ⟨_, rfl, _, rfl, _, _, rfl, rfl, small10 (by show 2 ≤ 1000; decide), fun g hg => ⟨small10 (by show 1 ≤ 1000; decide), fun l2 h2 => ?_⟩⟩
        have tg := same_new hg (.tup [.ref bN, .int (M + 1)])
        have t2 := same_new h2 (.lst [.ref g])
        refine ⟨lp, l2, _, _, rfl, rfl, t2 _ _ (tg _ _ upd_same), upd_same, small1000 (by rw [List.length_take]; omega), fun l3 h3 => ?_⟩
        have t3 := same_new h3 (.lst (ys.take kk ++ [.ref g]))
        have sZ := tp.trans (tg.trans (t2.trans t3))
        refine q l3 _ (es.take kk ++ [⟨dN, tN, Mn + 1⟩]) _ (sX.trans sZ) upd_same (All2.snoc (All2.imp (fun _ _ z => z.same (sX.trans sZ)) (all2_take kk al)) ⟨g, bN, rfl, ?_, sZ.dv vN⟩) (fun e he => ?_) (by simp) (by rw [List.length_append, List.length_take]; show _ + 1 ≤ _; omega) ?_
        · rw [t3 _ _ (t2 _ _ upd_same), eM]
          rfl
        · rcases List.mem_append.mp he with he | he
          · exact ok e (List.mem_of_mem_take he)
          · rw [List.mem_singleton.mp he]
            exact ⟨snN, Nat.succ_le_succ (Nat.zero_le _), by show Mn + 1 ≤ 8; omega⟩
        · rw [totE_app, totE_one]
          have := totE_cut es kk
          show _ + tN.length ≤ _
          omega
      · obtain ⟨oN, hoN, eoN⟩ : ∃ oN : Str, (oN = "both" ∨ oN = "either") ∧ atI [V.str "both", V.str "either"] (c / 12 % 2) = some (.str oN) := by
          have e : c / 12 % 2 = 0 ∨ c / 12 % 2 = 1 := by omega
          rcases e with e | e <;> rw [e]
          · exact ⟨_, .inl rfl, at0⟩
          · exact ⟨_, .inr rfl, at1⟩
        refine ⟨small10 (by show 2 ≤ 1000; decide), fun lw hlw => ?_⟩
        have sw := same_new hlw (.lst [V.str "both", V.str "either"])
        refine ⟨_, rfl, _, _, rfl, rfl, (by show (0 : Int) < 2; decide), lw, _, _, _, rfl, rfl, SqL.of upd_same, eoN, ?_⟩
        refine ⟨_, rfl, pt, rfl, ⟨_, SqL.of (sw _ _ (N.1 _ _ hpD))⟩, fun D2 hD2 => comp_listY (xs := ys.drop kk) (fun i τ H5 => ∃ (x1 x2 : Option V) (ws : List V), τ = [x1, x2] ∧ New (upd H4 lw (.lst [V.str "both", V.str "either"])) H5 D2 (.lst ws) ∧ All2 (DV H5) ((pairsE ((es.drop kk).take i)).map (·.1)) ws) ⟨_, _, [], rfl, New.mk hD2, .nil⟩ (fun i τ H5 _ ⟨_, _, _, _, N2, _⟩ => SqL.of (N2.1 _ _ (sw _ _ (N.1 _ _ hpD)))) ?_ ?_⟩
        · rintro i x τ H5 hx ⟨x1, x2, ws, rfl, N2, aw⟩
          obtain ⟨hi, rfl⟩ := List.getElem?_eq_some_iff.mp hx
          have hi2 : i < (es.drop kk).length := by omega
          obtain ⟨g, b, eg, hg, db⟩ := alD.get i hi2 hi
          have lw2 := aw.length
          unfold pairsE at lw2
          rw [List.length_map, List.length_map, List.length_take] at lw2
          rw [eg]
          refine ⟨g, _, rfl, SqT.of (N2.1 _ _ (sw _ _ (N.1 _ _ hg))), rfl, _, _, rfl, _, _, rfl, rfl, ?_⟩
          refine ⟨_, rfl, ws, N2.2.2, small1000 (by omega), _, _, ws ++ [.ref b], rfl, N2.set (Same.refl _), ?_⟩
          unfold pairsE at aw ⊢
          rw [List.take_add_one, List.getElem?_eq_getElem hi2, List.map_append, List.map_append]
          exact All2.snoc (all_dv (fun e w z => dv_upd (o := .lst ws) N2.2.2 (fun _ h => by cases h) z) aw) (dv_upd (o := .lst ws) N2.2.2 (fun _ h => by cases h) ((N.1.trans (sw.trans N2.1)).dv db))
        rintro τ H5 ⟨x1, x2, ws, rfl, N2, aw⟩
        rw [← lD, List.take_length] at aw
        refine ⟨oN, D2, ws, pairsE (es.drop kk), Mn, rfl, hoN, SqL.of N2.2.2, aw, fun p hp => ?_, by omega, ?_, by unfold pairsE; rw [List.length_map]; omega, fun bN dN tN HX sX' vN snN lN' => ?_⟩
        · obtain ⟨e, he, rfl⟩ := List.mem_map.mp hp
          exact sn_mono (le e he) (okD e he).1
        · intro z
          have := congrArg List.length z
          unfold pairsE at this
          rw [List.length_map, List.length_nil] at this
          omega
        have sX := s4.trans (sw.trans (N2.1.trans sX'))
        have hpX := sX' _ _ (N2.1 _ _ (sw _ _ (N.1 _ _ hpD)))
        have lN : tN.length ≤ totE (es.drop kk) + 2000 := by
          rw [sumL_E] at lN'
          unfold pairsE at lN'
          rw [List.length_map] at lN'
          omega
        refine ⟨_, rfl, _, rfl, l, _, rfl, .inl (SqL.of (sX _ _ hl)), _, rfl, pt, _, rfl, .inl (SqL.of hpX), _, _, rfl, rfl, _, rfl, l, _, rfl, SqL.of (sX _ _ hl), fun lp hlp => ?_⟩
        have ecut : cutV ys none (some ((ys.length : Int) - ((ys.drop kk).length : Int))) = ys.take kk := by
          have e : (ys.length : Int) - ((ys.drop kk).length : Int) = ((kk : Nat) : Int) := by rw [List.length_drop]; omega
          rw [e, cut_take]
        rw [ecut]
        have tp := same_new hlp (.lst (ys.take kk))
        refine ⟨_, rfl, _, rfl, _, _, rfl, rfl, small10 (by show 2 ≤ 1000; decide), fun g hg => ⟨small10 (by show 1 ≤ 1000; decide), fun l2 h2 => ?_⟩⟩
        have tg := same_new hg (.tup [.ref bN, .int (M + 1)])
        have t2 := same_new h2 (.lst [.ref g])
        refine ⟨lp, l2, _, _, rfl, rfl, t2 _ _ (tg _ _ upd_same), upd_same, small1000 (by rw [List.length_take]; omega), fun l3 h3 => ?_⟩
        have t3 := same_new h3 (.lst (ys.take kk ++ [.ref g]))
        have sZ := tp.trans (tg.trans (t2.trans t3))
        refine q l3 _ (es.take kk ++ [⟨dN, tN, Mn + 1⟩]) _ (sX.trans sZ) upd_same (All2.snoc (All2.imp (fun _ _ z => z.same (sX.trans sZ)) (all2_take kk al)) ⟨g, bN, rfl, ?_, sZ.dv vN⟩) (fun e he => ?_) (by simp) (by rw [List.length_append, List.length_take]; show _ + 1 ≤ _; omega) ?_
        · rw [t3 _ _ (t2 _ _ upd_same), eM]
          rfl
        · rcases List.mem_append.mp he with he | he
          · exact ok e (List.mem_of_mem_take he)
          · rw [List.mem_singleton.mp he]
            exact ⟨snN, Nat.succ_le_succ (Nat.zero_le _), by show Mn + 1 ≤ 8; omega⟩
        · rw [totE_app, totE_one]
          have := totE_cut es kk
          show _ + tN.length ≤ _
          omega
theorem sc__law_built : FnScope ["_law_script", "_law_most", "_law_names_here", "_law_built_here", "_law_cell_here", "_law_word"] ["_law_script", "_law_most"] (defScope st__law_built) := ⟨rfl, rfl, rfl, by decide +kernel, rfl, by decide +kernel, by decide +kernel⟩
set_option maxHeartbeats 4000000 in
theorem ok__law_built (h : Has K mg "_law_built" st__law_built ["_law_script", "_law_most"]) (B : Bl mg){aS : Addr} (F_law_cell : Ok P w K mg base 1 "_law_cell" ["_law_script", "_law_k"] (sp__law_cell K)) (F_law_folded : Ok P w K mg base 1 "_law_folded" ["_law_word", "_law_parts"] (sp__law_folded K)) (F_law_leaf : Ok P w K mg base 1 "_law_leaf" ["_law_cell_here", "_law_names_here"] (sp__law_leaf K)) (F_law_names : Ok P w K mg base 2 "_law_names" ["_law_cell_here"] (sp__law_names K)) (F_law_step : Ok P w K mg base 2 "_law_step" ["_law_built_here", "_law_cell_here", "_law_names_here"] (sp__law_step K)) : Ok P w K mg base 3 "_law_built" ["_law_script", "_law_most"] (sp__law_built K) := by
  refine h.fn sc__law_built (fun vs H Q E h => ?_) (fun f cdv A outer s H vs Q E hr h => ?_)
  · obtain ⟨a, ns, rfl, _⟩ := h
    rfl
  · have hu16 := hu16_of hr
    have hu9 := hu9_of hr
    obtain ⟨a, ns, rfl, hS, q⟩ := h
    refine ⟨_, (pss_cons (ps_set (i := 2) sc__law_built.nd rfl (Or.inl rfl) (pe_callN F_law_names (hr.mono (by decide)) rfl (pa_cons (pe_callN F_law_cell (hr.mono (by decide)) rfl (pa_cons (pv 0) (pa_cons pe_int pa_nil))) pa_nil)))
      (pss_cons (ps_set (i := 3) sc__law_built.nd rfl (Or.inl rfl) (pe_lst (pa_cons (pe_tup (pa_cons (pe_callN F_law_leaf (hr.mono (by decide)) rfl (pa_cons (pe_callN F_law_cell (hr.mono (by decide)) rfl (pa_cons (pv 0) (pa_cons pe_int pa_nil))) (pa_cons (pv 2) pa_nil))) (pa_cons pe_int pa_nil))) pa_nil)))
      (pss_cons (ps_for PassesOwn.never rfl (pi_list (pe_slice sl_list (pv 0) (po_some pe_int) (po_some (pv 1)))) (pg_name (i := 4) sc__law_built.nd rfl (Or.inl rfl)) (pss_one (ps_set (i := 3) sc__law_built.nd rfl (Or.inl rfl) (pe_callN F_law_step (hr.mono (by decide)) rfl (pa_cons (pv 3) (pa_cons (pe_op (op_mod) (pv 4) (pe_powc (c := 1000000000000000000000000000000000000000000000000000000000000) (by decide +kernel))) (pa_cons (pv 2) pa_nil)))))))
      (pss_cons (ps_set (i := 5) sc__law_built.nd rfl (Or.inl rfl) (pe_ix ix_list (pe_lst (pa_cons pe_str (pa_cons pe_str pa_nil))) (pe_op (op_mod) (pe_op (op_fdivB) (pe_callN F_law_cell (hr.mono (by decide)) rfl (pa_cons (pv 0) (pa_cons pe_int pa_nil))) pe_int) pe_int) (fun _ _ => rfl)))
      (pss_one (ps_ret (pe_callN F_law_folded (hr.mono (by decide)) rfl (pa_cons (pv 5) (pa_cons (pe_comp ["_law_one", "_law_depth"] [none, none] rfl (pi_list (pv 3)) (fun _ _ _ _ _ _ => (pg_tupK (K := K) (n := 2) rfl rfl (pgs_cons (pg_name (i := 0) (nd_ (l := ["_law_one", "_law_depth"]) (by decide +kernel)) rfl (Or.inl rfl)) (pgs_cons (pg_name (i := 1) (nd_ (l := ["_law_one", "_law_depth"]) (by decide +kernel)) rfl (Or.inl rfl)) pgs_nil)))) (fun _ _ _ _ _ _ => pf_nil) (fun _ _ _ _ _ _ => (pv 0))) pa_nil))))))))), ?_⟩
    have cv : (cutV (ns.map V.int) (some ((2 : Nat) : Int)) (some ((32 : Nat) : Int))).length ≤ 30 := by
      unfold cutV
      have e1 : HT.sIx (ns.map V.int).length 0 (some ((2 : Nat) : Int)) = min 2 (ns.map V.int).length := HT.sIx_nat _ _ 2
      have e2 : HT.sIx (ns.map V.int).length (ns.map V.int).length (some ((32 : Nat) : Int)) = min 32 (ns.map V.int).length := HT.sIx_nat _ _ 32
      rw [List.length_take, e1, e2]
      omega
    have cint : ∀ x ∈ cutV (ns.map V.int) (some ((2 : Nat) : Int)) (some ((32 : Nat) : Int)), ∃ n : Int, x = .int n := fun x hx => by
      unfold cutV at hx
      obtain ⟨n, _, e⟩ := List.mem_map.mp (List.mem_of_mem_drop (List.mem_of_mem_take hx))
      exact ⟨n, e.symm⟩
    obtain ⟨cut, ecut⟩ : ∃ cut, cut = cutV (ns.map V.int) (some ((2 : Nat) : Int)) (some ((32 : Nat) : Int)) := ⟨_, rfl⟩
    rw [← ecut] at cv cint
    refine ⟨_, rfl, a, ns, _, rfl, hS, by decide, fun z0 hz0 => ?_⟩
    refine ⟨z0, rfl, hz0, fun ln nms H1 s1 hn nl n20 => ?_⟩
    refine ⟨_, rfl, a, ns, _, rfl, s1.seq hS, by decide, fun z1 hz1 => ⟨_, rfl, z1, ln, nms, rfl, hz1, hn, nl, n20, fun b0 d0 t0 H2 s2 v0 lf => ⟨small10 (by show 2 ≤ 1000; decide), fun g hg => ⟨small10 (by show 1 ≤ 1000; decide), fun l0 hl0 => ?_⟩⟩⟩⟩
    have sg := same_new hg (.tup [.ref b0, .int 1])
    have sl := same_new hl0 (.lst [.ref g])
    have S3 := s1.trans (s2.trans (sg.trans sl))
    have hn3 := sl _ _ (sg _ _ (s2 _ _ hn))
    have st0 : Stk (upd (upd H2 g (.tup [.ref b0, .int 1])) l0 (.lst [.ref g])) ⟨d0, t0, 1⟩ (.ref g) := ⟨g, b0, rfl, sl _ _ upd_same, (sg.trans sl).dv v0⟩
    have hl3 : upd (upd H2 g (.tup [.ref b0, .int 1])) l0 (.lst [.ref g]) l0 = some (.lst [.ref g]) := upd_same
    generalize upd (upd H2 g (.tup [.ref b0, .int 1])) l0 (.lst [.ref g]) = H3 at S3 hn3 st0 hl3 ⊢
    have t0l := leaf_len lf
    refine ⟨_, rfl, _, rfl, _, rfl, _, rfl, a, _, rfl, S3.seq hS, fun cl hcl => ?_⟩
    have ec : cutV (ns.map V.int) (some 2) (some 32) = cut := ecut.symm
    rw [ec]
    have sc := same_new hcl (.lst cut)
    have hc4 : upd H3 cl (.lst cut) cl = some (.lst cut) := upd_same
    have S4 := S3.trans sc
    have hn4 := sc _ _ hn3
    have hl4 := sc _ _ hl3
    have st4 := st0.same sc
    generalize upd H3 cl (.lst cut) = H4 at S4 hn4 hl4 st4 hc4 ⊢
    refine ⟨cl, rfl, ⟨_, SqL.of hc4⟩, for_list (xs := cut) (fun i σ H5 => ∃ (lb : Addr) (x4 x5 : Option V) (ys : List V) (es : List Pe), σ = [some (.ref a), some (.int 32), some (.ref ln), some (.ref lb), x4, x5] ∧ Same H4 H5 ∧ H5 lb = some (.lst ys) ∧ All2 (Stk H5) es ys ∧ (∀ e ∈ es, OkE e) ∧ es ≠ [] ∧ es.length ≤ i + 1 ∧ totE es ≤ 2000 + 2100 * i) ?_ ?_ ?_ ?_⟩
    · exact ⟨l0, _, _, [.ref g], [⟨d0, t0, 1⟩], rfl, .refl _, hl4, .cons st4 .nil, fun e he => by rw [List.mem_singleton.mp he]; exact ⟨.inl lf, Nat.le_refl _, by show 1 ≤ 8; decide⟩, by simp, Nat.le_refl _, by rw [totE_one]; exact t0l⟩
    · rintro i σ H5 _ ⟨lb, x4, x5, ys, es, rfl, s5, _⟩
      exact SqL.of (s5 _ _ hc4)
    · rintro i x σ H5 hx ⟨lb, x4, x5, ys, es, rfl, s5, hb, al, ok, ne, le, te⟩
      obtain ⟨hi, rfl⟩ := List.getElem?_eq_some_iff.mp hx
      obtain ⟨n, en⟩ := cint _ (List.getElem_mem hi)
      rw [en]
      refine ⟨_, rfl, _, rfl, _, _, rfl, rfl, (by show (0 : Int) < 1000000000000000000000000000000000000000000000000000000000000; decide), _, rfl, lb, ln, _, ys, es, nms, rfl, Int.emod_nonneg _ (by decide), hb, al, ok, ne, by omega, s5 _ _ hn4, nl, n20, fun l' ys' es' H6 s6 hl' al' ok' ne' le' te' => ?_⟩
      exact ⟨l', _, _, ys', es', rfl, s5.trans s6, hl', al', ok', ne', by omega, by omega⟩
    · rintro σ H5 ⟨lb, x4, x5, ys, es, rfl, s5, hb, al, ok, ne, le, te⟩
      have l31 : es.length ≤ 31 := by omega
      have ly := al.length
      have S5 := S4.trans s5
      refine ⟨small10 (by show 2 ≤ 1000; decide), fun lw hlw => ?_⟩
      have sw := same_new hlw (.lst [V.str "both", V.str "either"])
      refine ⟨_, rfl, a, ns, _, rfl, (S5.trans sw).seq hS, by decide, fun z2 hz2 => ?_⟩
      obtain ⟨oN, hoN, eoN⟩ : ∃ oN : Str, (oN = "both" ∨ oN = "either") ∧ atI [V.str "both", V.str "either"] (z2 / 5 % 2) = some (.str oN) := by
        have e : z2 / 5 % 2 = 0 ∨ z2 / 5 % 2 = 1 := by omega
        rcases e with e | e <;> rw [e]
        · exact ⟨_, .inl rfl, at0⟩
        · exact ⟨_, .inr rfl, at1⟩
      refine ⟨_, _, rfl, rfl, ⟨by decide, bits_of (by decide +kernel)⟩, _, _, rfl, rfl, (by show (0 : Int) < 2; decide), lw, _, _, _, rfl, rfl, SqL.of upd_same, eoN, ?_⟩
      refine ⟨_, rfl, _, rfl, lb, rfl, ⟨_, SqL.of (sw _ _ hb)⟩, fun D hD => comp_listY (xs := ys) (fun i τ H6 => ∃ (x1 x2 : Option V) (ws : List V), τ = [x1, x2] ∧ New (upd H5 lw (.lst [V.str "both", V.str "either"])) H6 D (.lst ws) ∧ All2 (DV H6) ((pairsE (es.take i)).map (·.1)) ws) ⟨_, _, [], rfl, New.mk hD, .nil⟩ (fun i τ H6 _ ⟨_, _, _, _, N, _⟩ => SqL.of (N.1 _ _ (sw _ _ hb))) ?_ ?_⟩
      · rintro i x τ H6 hx ⟨x1, x2, ws, rfl, N, aw⟩
        obtain ⟨hi, rfl⟩ := List.getElem?_eq_some_iff.mp hx
        have hi2 : i < es.length := by omega
        obtain ⟨g2, b, eg, hg2, db⟩ := al.get i hi2 hi
        have lw2 := aw.length
        unfold pairsE at lw2
        rw [List.length_map, List.length_map, List.length_take] at lw2
        rw [eg]
        refine ⟨g2, _, rfl, SqT.of (N.1 _ _ (sw _ _ hg2)), rfl, _, _, rfl, _, _, rfl, rfl, ?_⟩
        refine ⟨_, rfl, ws, N.2.2, small1000 (by omega), _, _, ws ++ [.ref b], rfl, N.set (Same.refl _), ?_⟩
        unfold pairsE at aw ⊢
        rw [List.take_add_one, List.getElem?_eq_getElem hi2, List.map_append, List.map_append]
        exact All2.snoc (all_dv (fun e w z => dv_upd (o := .lst ws) N.2.2 (fun _ h => by cases h) z) aw) (dv_upd (o := .lst ws) N.2.2 (fun _ h => by cases h) ((sw.trans N.1).dv db))
      rintro τ H6 ⟨x1, x2, ws, rfl, N, aw⟩
      rw [← ly, List.take_length] at aw
      refine ⟨oN, D, ws, pairsE es, 8, rfl, hoN, SqL.of N.2.2, aw, fun p hp => ?_, by decide, ?_, by unfold pairsE; rw [List.length_map]; omega, fun bN dN tN HX sX vN snN lN => ?_⟩
      · obtain ⟨e, he, rfl⟩ := List.mem_map.mp hp
        exact sn_mono (ok e he).2.2 (ok e he).1
      · intro z
        have := congrArg List.length z
        have := List.length_pos_iff.mpr ne
        unfold pairsE at *
        rw [List.length_map, List.length_nil] at *
        omega
      · rw [sumL_E] at lN
        unfold pairsE at lN
        rw [List.length_map] at lN
        exact q bN dN tN HX (S5.trans (sw.trans (N.1.trans sX))) vN (sn_up snN) (by omega)
theorem sc__law_compare : FnScope ["_law_sentence", "_law_text_here", "_law_product", "_law_number"] ["_law_sentence"] (defScope st__law_compare) := ⟨rfl, rfl, rfl, by decide +kernel, rfl, by decide +kernel, by decide +kernel⟩
set_option maxHeartbeats 4000000 in
theorem ok__law_compare (h : Has K mg "_law_compare" st__law_compare ["_law_sentence"]) (B : Bl mg){aS : Addr} : Ok P w K mg base 1 "_law_compare" ["_law_sentence"] (sp__law_compare K) := by
  refine h.fn sc__law_compare (fun vs H Q E h => ?_) (fun f cdv A outer s H vs Q E hr h => ?_)
  · obtain ⟨a, d, t, rfl, _⟩ := h
    rfl
  · have hu16 := hu16_of hr
    have hu9 := hu9_of hr
    obtain ⟨a, d, t, rfl, ha, lf, q⟩ := h
    obtain ⟨x, nm, sg, n, cx, hn, ln, rfl, rfl⟩ := lf
    obtain ⟨ys, hz, al0⟩ := dv_first ha
    cases al0 with
    | cons hf al2 =>
      cases al2
      obtain ⟨b, xs, rfl, hx, al⟩ := dv_tup.mp hf
      have tl := PyProof.Rows.int_text_len_1921 hn
      have tL := leafT_len (sg := sg) hn ln
      refine ⟨_, (pss_cons (ps_set (i := 1) sc__law_compare.nd rfl (Or.inl rfl) pe_str)
      (pss_cons (ps_for PassesOwn.never rfl (pi_tup (pe_ix ix_tup (pv 0) pe_int (fun _ _ => rfl))) (pg_tup rfl (pgs_cons (pg_name (i := 2) sc__law_compare.nd rfl (Or.inl rfl)) (pgs_cons (pg_name (i := 3) sc__law_compare.nd rfl (Or.inl rfl)) pgs_nil))) (pss_one (ps_if (pt_cmpR (op_eq_d hu16) (pv 2) (pe_tup pa_nil) (nomark _)) (pss_one (ps_set (i := 1) sc__law_compare.nd rfl (Or.inl rfl) (pe_callTy (call_str_int) rfl B.str_ bt_str (pa_cons (pv 3) pa_nil)))) (pss_one (ps_set (i := 1) sc__law_compare.nd rfl (Or.inl rfl) (pe_op (op_add_str) (pe_op (op_add_str) (pv 1) (pe_ix ix_list (pe_lst (pa_cons pe_str (pa_cons pe_str (pa_cons pe_str (pa_cons pe_str pa_nil))))) (pe_op (op_add) (pe_op (op_mulB) pe_int (pe_callTy (call_intB) rfl B.int_ bt_int (pa_cons (pe_cmpR (op_ne) (pv 1) pe_str (nomark _)) pa_nil))) (pe_callTy (call_intB) rfl B.int_ bt_int (pa_cons (pe_cmpR (op_lt) (pv 3) pe_int (nomark _)) pa_nil))) (fun _ _ => rfl))) (pe_ix ix_tup (pe_ix ix_tup (pv 2) pe_int (fun _ _ => rfl)) pe_int (fun _ _ => rfl))))))))
      (pss_one (ps_ret (pe_op (op_add_str) (pv 1) (pe_ix ix_list (pe_lst (pa_cons pe_str (pa_cons pe_str (pa_cons pe_str (pa_cons pe_str pa_nil))))) (pe_bm PySem.F.plainAttrs_list PySem.F.slot_list_index PySem.F.type_list_index mt_index (pe_lst (pa_cons pe_str (pa_cons pe_str (pa_cons pe_str (pa_cons pe_str pa_nil))))) (pa_cons (pe_ix ix_tup (pv 0) pe_int (fun _ _ => rfl)) pa_nil)) (fun _ _ => rfl))))))), ?_⟩
      have ends : ∀ (x2 x3 : Option V) (H5 : Hp), Same H H5 → (tOp (fun x y H Q => ∃ i j, x = V.str i ∧ y = V.str j ∧ i.length + j.length ≤ sizeLine ∧ Q (V.str (i ++ j)) H) (tVar 1) (tOp (rIxL K) (tLst (tCons (tC (V.str (Str.ofString " < 0"))) (tCons (tC (V.str (Str.ofString " <= 0"))) (tCons (tC (V.str (Str.ofString " = 0"))) (tCons (tC (V.str (Str.ofString " /= 0"))) tNil))))) (tBM K "list" (fun x vs H Q => ∃ (l : Addr) (ts : List Str) (y : Str), x = V.ref l ∧ vs = [V.str y] ∧ H l = some (HO.lst (List.map V.str ts)) ∧ y ∈ ts ∧ Q (V.int ↑(List.idxOf y ts)) H) (tLst (tCons (tC (V.str (Str.ofString "less"))) (tCons (tC (V.str (Str.ofString "most"))) (tCons (tC (V.str (Str.ofString "equal"))) (tCons (tC (V.str (Str.ofString "unlike"))) tNil))))) (tCons (tOp (rIxT K) (tVar 0) (tC (V.int 0))) tNil)))) [some (.ref a), some (.str (leafT nm sg n)), x2, x3] H5 Q := fun x2 x3 H5 s5 => by
        refine ⟨_, rfl, small10 (by show 4 ≤ 1000; decide), fun l1 h1 => ⟨small10 (by show 4 ≤ 1000; decide), fun l2 h2 => ?_⟩⟩
        have n12 : l1 ≠ l2 := fun z => by rw [← z, upd_same] at h2; cases h2
        have sA := (s5.trans (same_new h1 (.lst [.str " < 0", .str " <= 0", .str " = 0", .str " /= 0"]))).trans (same_new h2 (.lst [.str "less", .str "most", .str "equal", .str "unlike"]))
        refine ⟨.inl ⟨rfl, _, SqL.of upd_same⟩, _, rfl, a, _, _, _, rfl, rfl, SqT.of (sA _ _ hz), at0, l2, ["less", "most", "equal", "unlike"], x, rfl, rfl, upd_same, by rcases cx with rfl | rfl | rfl | rfl <;> decide, ?_⟩
        have hl1 : SqL K (upd (upd H5 l1 (.lst [.str " < 0", .str " <= 0", .str " = 0", .str " /= 0"])) l2 (.lst [.str "less", .str "most", .str "equal", .str "unlike"])) l1 [.str " < 0", .str " <= 0", .str " = 0", .str " /= 0"] := SqL.of (by rw [upd_ne n12, upd_same])
        have get : ∀ (j : Nat) (e : Str), List.idxOf x ["less", "most", "equal", "unlike"] = j → ([V.str " < 0", V.str " <= 0", V.str " = 0", V.str " /= 0"] : List V)[j]? = some (.str e) → e = (" " : Str) ++ signW x ++ (" 0" : Str) → e.length ≤ 10 → rIxL K (.ref l1) (.int (List.idxOf x ["less", "most", "equal", "unlike"] : Nat)) (upd (upd H5 l1 (.lst [.str " < 0", .str " <= 0", .str " = 0", .str " /= 0"])) l2 (.lst [.str "less", .str "most", .str "equal", .str "unlike"])) (fun y H2 => ∃ i j, V.str (leafT nm sg n) = V.str i ∧ y = V.str j ∧ i.length + j.length ≤ sizeLine ∧ Q (V.str (i ++ j)) H2) := fun j e ej he es el => by
          obtain ⟨hj, he⟩ := List.getElem?_eq_some_iff.mp he
          refine ⟨l1, _, _, _, rfl, rfl, hl1, (at_k (i := j) (by rw [ej]) hj).trans (congrArg some he), _, _, rfl, rfl, big_line (by omega), ?_⟩
          rw [end_text cx es]
          exact q _ sA
        rcases cx with rfl | rfl | rfl | rfl
        · exact get 0 " < 0" (by decide) rfl (by decide) (by decide)
        · exact get 1 " <= 0" (by decide) rfl (by decide) (by decide)
        · exact get 2 " = 0" (by decide) rfl (by decide) (by decide)
        · exact get 3 " /= 0" (by decide) rfl (by decide) (by decide)
      unfold leafF at al
      by_cases c0 : n = 0
      · rw [if_pos c0, List.nil_append] at al
        cases al with
        | cons h1 h2 =>
          cases h2
          obtain ⟨g, y, rfl, hg, hy⟩ := dv_pair.mp h1
          obtain ⟨kb, gq, rfl, hkb, hgq⟩ := dv_one hy
          have e : leafT nm sg n = if sg then ("-" : Str) ++ nm else nm := by unfold leafT; rw [if_pos c0]
          refine ⟨_, rfl, a, _, _, _, rfl, rfl, SqT.of hz, at1, b, rfl, ⟨_, SqT.of hx⟩, for_tup (xs := [.ref g]) (fun i σ H2 => ∃ x2 x3 : Option V, σ = [some (.ref a), some (.str (if i = 0 then "" else leafT nm sg n)), x2, x3] ∧ Same H H2) ⟨_, _, rfl, .refl _⟩ (fun i σ H2 _ ⟨_, _, _, s2⟩ => SqT.of (s2 _ _ hx)) (fun i x' σ H2 hx2 ⟨x2, x3, es, s2⟩ => ?_) fun σ H2 ⟨x2, x3, es, s2⟩ => ?_⟩
          · subst es
            rcases i with _ | i
            · cases hx2
              refine ⟨g, _, rfl, SqT.of (s2 _ _ hg), rfl, _, _, rfl, _, _, rfl, rfl, ?_⟩
              refine ⟨_, rfl, Nat.zero_le _, fun o ho => ?_⟩
              have so := same_new ho (.tup [])
              refine ⟨_, _, ⟨⟨_, rfl⟩, ⟨_, rfl⟩, (s2.trans so).dv hy, dv_tup.mpr ⟨o, [], rfl, upd_same, .nil⟩, by simp [Fm.prodD, Fm.partD, ofL, DD.dep], by decide⟩, _, rfl, ?_⟩
              rw [decide_eq_false (show Fm.prodD [(nm, 1)] ≠ ofL [] from ofL_full (by simp))]
              refine iteF ?_
              refine ⟨_, rfl, small10 (by show 4 ≤ 1000; decide), fun l hl => ?_⟩
              have sl := (s2.trans so).trans (same_new hl (.lst [.str "", .str "-", .str " + ", .str " - "]))
              refine ⟨_, rfl, rfl, _, rfl, _, _, rfl, rfl, mulOk (m := 8) (n := 8) (bits_lt (b := 100) (by decide) (by decide) (by decide)) (bits01 _) (by decide), ?_⟩
              refine ⟨_, rfl, _, _, rfl, rfl, _, rfl, _, _, rfl, rfl, ?_⟩
              have fin : ∀ (j : Nat) (e2 : Str), ([V.str "", V.str "-", V.str " + ", V.str " - "] : List V)[j]? = some (.str e2) → e2.length ≤ 3 → ∀ k : Int, k = j → e2 ++ nm = leafT nm sg n → rIxL K (.ref l) (.int k) (upd (upd H2 o (.tup [])) l (.lst [.str "", .str "-", .str " + ", .str " - "])) (fun y H2 => ∃ i j, V.str "" = V.str i ∧ y = V.str j ∧ i.length + j.length ≤ sizeLine ∧ (tOp (rIxT K) (tOp (rIxT K) (tVar 2) (tC (V.int 0))) (tC (V.int 0))) [some (.ref a), some (.str ""), some (.ref kb), some (.int (if sg = true then -1 else 1))] H2 fun y H3 => ∃ i' j', V.str (i ++ j) = V.str i' ∧ y = V.str j' ∧ i'.length + j'.length ≤ sizeLine ∧ ∃ x2 x3 : Option V, [some (.ref a), some (.str (i' ++ j')), some (.ref kb), some (.int (if sg = true then -1 else 1))] = [some (.ref a), some (.str (leafT nm sg n)), x2, x3] ∧ Same H H3) := fun j e2 he el k ek et => by
                obtain ⟨hj, he⟩ := List.getElem?_eq_some_iff.mp he
                refine ⟨l, _, _, _, rfl, rfl, SqL.of upd_same, (at_k (i := j) ek hj).trans (congrArg some he), _, _, rfl, rfl, big_line (by show 0 + _ ≤ _; omega), ?_⟩
                refine ⟨_, rfl, kb, _, _, _, rfl, rfl, SqT.of (sl _ _ hkb), at0, gq, _, _, _, rfl, rfl, SqT.of (sl _ _ hgq), at0, _, _, rfl, rfl, big_line (by rw [l_app]; show 0 + _ + _ ≤ _; omega), ?_⟩
                rw [show ("" : Str) ++ e2 = e2 from e_app e2, et]
                exact ⟨_, _, rfl, sl⟩
              have ix : ∀ c : Bool, (2 * (if (!decide (V.str "" = V.str "")) = true then (1 : Int) else 0) + if c = true then 1 else 0) = ((if c then 1 else 0 : Nat) : Int) := fun c => by
                rw [decide_eq_true (show V.str "" = V.str "" from rfl)]
                cases c <;> rfl
              cases sg
              · exact fin 0 "" rfl (by decide) _ (ix false) (by rw [e]; exact e_app nm)
              · exact fin 1 "-" rfl (by decide) _ (ix true) (by rw [e]; rfl)
            · exact absurd hx2 (by simp)
          · subst es
            exact ends _ _ _ s2
      · rw [if_neg c0] at al
        cases al with
        | cons h0 al =>
          cases al with
          | cons h1 h2 =>
            cases h2
            obtain ⟨g0, y0, rfl, hg0, hy0⟩ := dv_pair.mp h0
            obtain ⟨kb0, rfl, hkb0⟩ := dv_none hy0
            obtain ⟨g, y, rfl, hg, hy⟩ := dv_pair.mp h1
            obtain ⟨kb, gq, rfl, hkb, hgq⟩ := dv_one hy
            have e : leafT nm sg n = Str.ofString (toString n) ++ (if sg then (" - " : Str) else " + ") ++ nm := by unfold leafT; rw [if_neg c0]
            obtain ⟨num, en⟩ : ∃ num, num = Str.ofString (toString n) := ⟨_, rfl⟩
            have nf : num ≠ "" := by
              rw [en]
              by_cases c : n < 0
              · rw [Fm.num_neg c]
                exact Fm.neg_full _
              · exact Fm.num_full (by omega)
            rw [← en] at e tl
            refine ⟨_, rfl, a, _, _, _, rfl, rfl, SqT.of hz, at1, b, rfl, ⟨_, SqT.of hx⟩, for_tup (xs := [.ref g0, .ref g]) (fun i σ H2 => ∃ x2 x3 : Option V, σ = [some (.ref a), some (.str (if i = 0 then "" else if i = 1 then num else leafT nm sg n)), x2, x3] ∧ Same H H2) ⟨_, _, rfl, .refl _⟩ (fun i σ H2 _ ⟨_, _, _, s2⟩ => SqT.of (s2 _ _ hx)) (fun i x' σ H2 hx2 ⟨x2, x3, es, s2⟩ => ?_) fun σ H2 ⟨x2, x3, es, s2⟩ => ?_⟩
            · subst es
              rcases i with _ | _ | i
              · cases hx2
                refine ⟨g0, _, rfl, SqT.of (s2 _ _ hg0), rfl, _, _, rfl, _, _, rfl, rfl, ?_⟩
                refine ⟨_, rfl, Nat.zero_le _, fun o ho => ?_⟩
                have so := same_new ho (.tup [])
                refine ⟨_, _, ⟨⟨_, rfl⟩, ⟨_, rfl⟩, (s2.trans so).dv hy0, dv_tup.mpr ⟨o, [], rfl, upd_same, .nil⟩, by show DD.dep (Fm.prodD []) ≤ 8; decide, by decide⟩, _, rfl, ?_⟩
                refine iteP rfl ?_
                refine ⟨_, rfl, n, rfl, hn, ?_⟩
                rw [← en]
                exact ⟨_, _, rfl, s2.trans so⟩
              · cases hx2
                refine ⟨g, _, rfl, SqT.of (s2 _ _ hg), rfl, _, _, rfl, _, _, rfl, rfl, ?_⟩
                refine ⟨_, rfl, Nat.zero_le _, fun o ho => ?_⟩
                have so := same_new ho (.tup [])
                refine ⟨_, _, ⟨⟨_, rfl⟩, ⟨_, rfl⟩, (s2.trans so).dv hy, dv_tup.mpr ⟨o, [], rfl, upd_same, .nil⟩, by simp [Fm.prodD, Fm.partD, ofL, DD.dep], by decide⟩, _, rfl, ?_⟩
                rw [decide_eq_false (show Fm.prodD [(nm, 1)] ≠ ofL [] from ofL_full (by simp))]
                refine iteF ?_
                refine ⟨_, rfl, small10 (by show 4 ≤ 1000; decide), fun l hl => ?_⟩
                have sl := (s2.trans so).trans (same_new hl (.lst [.str "", .str "-", .str " + ", .str " - "]))
                refine ⟨_, rfl, rfl, _, rfl, _, _, rfl, rfl, mulOk (m := 8) (n := 8) (bits_lt (b := 100) (by decide) (by decide) (by decide)) (bits01 _) (by decide), ?_⟩
                refine ⟨_, rfl, _, _, rfl, rfl, _, rfl, _, _, rfl, rfl, ?_⟩
                have fin : ∀ (j : Nat) (e2 : Str), ([V.str "", V.str "-", V.str " + ", V.str " - "] : List V)[j]? = some (.str e2) → e2.length ≤ 3 → ∀ k : Int, k = j → num ++ e2 ++ nm = leafT nm sg n → rIxL K (.ref l) (.int k) (upd (upd H2 o (.tup [])) l (.lst [.str "", .str "-", .str " + ", .str " - "])) (fun y H2 => ∃ i j, V.str num = V.str i ∧ y = V.str j ∧ i.length + j.length ≤ sizeLine ∧ (tOp (rIxT K) (tOp (rIxT K) (tVar 2) (tC (V.int 0))) (tC (V.int 0))) [some (.ref a), some (.str num), some (.ref kb), some (.int (if sg = true then -1 else 1))] H2 fun y H3 => ∃ i' j', V.str (i ++ j) = V.str i' ∧ y = V.str j' ∧ i'.length + j'.length ≤ sizeLine ∧ ∃ x2 x3 : Option V, [some (.ref a), some (.str (i' ++ j')), some (.ref kb), some (.int (if sg = true then -1 else 1))] = [some (.ref a), some (.str (leafT nm sg n)), x2, x3] ∧ Same H H3) := fun j e2 he el k ek et => by
                  obtain ⟨hj, he⟩ := List.getElem?_eq_some_iff.mp he
                  refine ⟨l, _, _, _, rfl, rfl, SqL.of upd_same, (at_k (i := j) ek hj).trans (congrArg some he), _, _, rfl, rfl, big_line (by omega), ?_⟩
                  refine ⟨_, rfl, kb, _, _, _, rfl, rfl, SqT.of (sl _ _ hkb), at0, gq, _, _, _, rfl, rfl, SqT.of (sl _ _ hgq), at0, _, _, rfl, rfl, big_line (by rw [l_app]; omega), ?_⟩
                  rw [et]
                  exact ⟨_, _, rfl, sl⟩
                have nd : decide (V.str num = V.str "") = false := decide_eq_false fun z => nf (V.str.inj z)
                have ix : ∀ c : Bool, (2 * (if (!decide (V.str num = V.str "")) = true then (1 : Int) else 0) + if c = true then 1 else 0) = ((if c then 3 else 2 : Nat) : Int) := fun c => by
                  rw [nd]
                  cases c <;> rfl
                cases sg
                · exact fin 2 " + " rfl (by decide) _ (ix false) (by rw [e]; rfl)
                · exact fin 3 " - " rfl (by decide) _ (ix true) (by rw [e]; rfl)
              · exact absurd hx2 (by simp)
            · subst es
              exact ends _ _ _ s2
theorem sc__law_text : FnScope ["_law_sentence", "_law_beside", "_law_word", "_law_text_here"] ["_law_sentence", "_law_beside"] (defScope st__law_text) := ⟨rfl, rfl, rfl, by decide +kernel, rfl, by decide +kernel, by decide +kernel⟩
set_option maxHeartbeats 4000000 in
theorem ok__law_text (h : Has K mg "_law_text" st__law_text ["_law_sentence", "_law_beside"]) (B : Bl mg) {n lv : Nat} (big : 1 ≤ lv){aS : Addr} (F_law_compare : Ok P w K mg base 1 "_law_compare" ["_law_sentence"] (sp__law_compare K)) (F_law_text : Ok P w K mg base (lv + 0) "_law_text" ["_law_sentence", "_law_beside"] (sp__law_text K n)) : Ok P w K mg base (lv + 1) "_law_text" ["_law_sentence", "_law_beside"] (sp__law_text K (n + 1)) := by
  refine h.fn sc__law_text (fun vs H Q E h => ?_) (fun f cdv A outer s H vs Q E hr h => ?_)
  · obtain ⟨a, b, d, t, rfl, _⟩ := h
    rfl
  · have hu16 := hu16_of hr
    have hu9 := hu9_of hr
    obtain ⟨a, b, d, t, rfl, ha, sn, lt, lb, q⟩ := h
    refine ⟨_, (pss_cons (ps_set (i := 2) sc__law_text.nd rfl (Or.inl rfl) (pe_ix ix_tup (pv 0) pe_int (fun _ _ => rfl)))
      (pss_cons (ps_if (pt_cmpR (op_eq) (pv 2) pe_str (nomark _)) (pss_one (ps_ret (pe_op (op_add_str) pe_str (pe_callN F_law_text (hr.mono (by omega)) rfl (pa_cons (pe_ix ix_tup (pv 0) pe_int (fun _ _ => rfl)) (pa_cons pe_str pa_nil)))))) pss_nil)
      (pss_cons (ps_if (pt_cmpR (op_eq) (pv 2) pe_str (nomark _)) (pss_one (ps_set (i := 3) sc__law_text.nd rfl (Or.inl rfl) (pe_bm PySem.F.plainAttrs_str PySem.F.slot_str_join PySem.F.type_str_join mt_join pe_str (pa_cons (pe_comp ["_law_part"] [none] rfl (pi_tup (pe_ix ix_tup (pv 0) pe_int (fun _ _ => rfl))) (fun _ _ _ _ _ _ => (pg_name (i := 0) (nd_ (l := ["_law_part"]) (by decide +kernel)) rfl (Or.inl rfl))) (fun _ _ _ _ _ _ => pf_nil) (fun _ _ _ _ _ _ => (pe_callN F_law_text (hr.mono (by omega)) rfl (pa_cons (pv 0) (pa_cons pe_str pa_nil))))) pa_nil)))) (pss_one (ps_if (pt_cmpR (op_eq) (pv 2) pe_str (nomark _)) (pss_one (ps_set (i := 3) sc__law_text.nd rfl (Or.inl rfl) (pe_bm PySem.F.plainAttrs_str PySem.F.slot_str_join PySem.F.type_str_join mt_join pe_str (pa_cons (pe_comp ["_law_part"] [none] rfl (pi_tup (pe_ix ix_tup (pv 0) pe_int (fun _ _ => rfl))) (fun _ _ _ _ _ _ => (pg_name (i := 0) (nd_ (l := ["_law_part"]) (by decide +kernel)) rfl (Or.inl rfl))) (fun _ _ _ _ _ _ => pf_nil) (fun _ _ _ _ _ _ => (pe_callN F_law_text (hr.mono (by omega)) rfl (pa_cons (pv 0) (pa_cons pe_str pa_nil))))) pa_nil)))) (pss_one (ps_if (PW.pt (pw_or (pt_cmpR (op_eq) (pv 2) pe_str (nomark _)) (pw_or1 (pt_cmpR (op_eq) (pv 2) pe_str (nomark _))))) (pss_one (ps_set (i := 3) sc__law_text.nd rfl (Or.inl rfl) (pe_op (op_add_str) (pe_op (op_add_str) (pe_op (op_add_str) (pe_op (op_add_str) (pv 2) pe_str) (pe_ix ix_tup (pv 0) pe_int (fun _ _ => rfl))) pe_str) (pe_callN F_law_text (hr.mono (by omega)) rfl (pa_cons (pe_ix ix_tup (pv 0) pe_int (fun _ _ => rfl)) (pa_cons pe_str pa_nil)))))) (pss_one (ps_ret (pe_callN F_law_compare (hr.mono (by omega)) rfl (pa_cons (pv 0) pa_nil)))))))))
      (pss_cons (ps_if (PW.pt (pw_or (pt_cmpR (op_eq) (pv 1) pe_str (nomark _)) (pw_or1 (PW.pt (pw_and (pt_cmpR (op_eq) (pv 1) pe_str (nomark _)) (pw_and1 (pt_cmpR (op_eq) (pv 2) pe_str (nomark _)))))))) (pss_one (ps_ret (pv 3))) pss_nil)
      (pss_one (ps_ret (pe_op (op_add_str) (pe_op (op_add_str) pe_str (pv 3)) pe_str))))))), ?_⟩
    rcases sn with ⟨x, nm, sg, k, cx, hk, ln, rfl, rfl⟩ | ⟨s', u, su, rfl, rfl⟩ | ⟨ds, us, l40, als, rfl, rfl⟩ | ⟨ds, us, l40, als, rfl, rfl⟩ | ⟨x, nm, s', u, hx, su, rfl, rfl⟩
    · have nx : ∀ y : Str, (y = "both" ∨ y = "either" ∨ y = "not" ∨ y = "some" ∨ y = "all") → x ≠ y := fun y hy e => not_cmp hy (e ▸ cx)
      have lw : lbr b (ofL [.str x, ofL ((leafF nm sg k).map Fm.pairD)]) (leafT nm sg k ++ (" " : Str) ++ signW x ++ (" 0" : Str)) = leafT nm sg k ++ (" " : Str) ++ signW x ++ (" 0" : Str) := by
        unfold lbr
        refine if_neg fun z => ?_
        rcases z with z | z | z | z
        · exact nx "both" (.inl rfl) z
        · exact nx "either" (.inr (.inl rfl)) z
        · exact nx "some" (.inr (.inr (.inr (.inl rfl)))) z
        · exact nx "all" (.inr (.inr (.inr (.inr rfl)))) z
      rw [lw] at q
      obtain ⟨ys, hz, al⟩ := dv_first ha
      refine ⟨_, rfl, a, _, _, _, rfl, rfl, SqT.of hz, at0, ?_⟩
      refine ⟨_, rfl, rfl, _, rfl, ?_⟩
      refine ite2 (fun c => absurd c (neq (nx "not" (.inr (.inr (.inl rfl)))))) (fun _ => ?_)
      refine ⟨_, rfl, rfl, _, rfl, ?_⟩
      refine ite2 (fun c => absurd c (neq (nx "both" (.inl rfl)))) (fun _ => ?_)
      refine ⟨_, rfl, rfl, _, rfl, ?_⟩
      refine ite2 (fun c => absurd c (neq (nx "either" (.inr (.inl rfl))))) (fun _ => ?_)
      refine ⟨_, rfl, rfl, _, rfl, ?_⟩
      refine ite2 (fun c => absurd c (neq (nx "some" (.inr (.inr (.inr (.inl rfl))))))) (fun _ => ?_)
      refine ⟨_, rfl, rfl, _, rfl, ?_⟩
      refine ite2 (fun c => absurd c (neq (nx "all" (.inr (.inr (.inr (.inr rfl))))))) (fun _ => ?_)
      exact ⟨_, rfl, a, _, _, rfl, ha, ⟨x, nm, sg, k, cx, hk, ln, rfl, rfl⟩, q⟩
    · rw [l_app] at lt
      have bl := (brk_len "not" s' u).1
      have lw : lbr b (ofL [.str "not", s']) (("not " : Str) ++ brk "not" s' u) = ("not " : Str) ++ brk "not" s' u := by
        unfold lbr
        exact if_neg (show ¬ (("not" : Str) = "both" ∨ ("not" : Str) = "either" ∨ ("not" : Str) = "some" ∨ ("not" : Str) = "all") by decide)
      rw [lw] at q
      obtain ⟨ys, hz, al⟩ := dv_first ha
      obtain ⟨rest, es⟩ := sn_head su
      cases al with
      | cons hs al2 =>
        cases al2
        obtain ⟨bb, _, eb, _⟩ := dv_tup.mp (show DV H (ofL (.str (headW s') :: rest)) _ from es ▸ hs)
        rw [eb] at hs hz
        refine ⟨_, rfl, a, _, _, _, rfl, rfl, SqT.of hz, at0, ?_⟩
        refine ⟨_, rfl, rfl, _, rfl, ?_⟩
        refine iteP (decide_eq_true rfl) ?_
        refine ⟨_, rfl, a, _, _, _, rfl, rfl, SqT.of hz, at1, bb, "not", s', u, rfl, hs, su, by omega, by decide, fun H2 s2 => ?_⟩
        rw [lbr_not]
        exact ⟨_, _, rfl, rfl, big_line (by omega), q _ s2⟩
    · have sub : ∀ (i : Nat) (h1 : i < ds.length) (h2 : i < us.length), us[i].length ≤ 70000 := fun i h1 h2 => by
        have m : brk "both" ds[i] us[i] ∈ List.zipWith (brk "both") ds us := by
          refine List.mem_iff_getElem.mpr ⟨i, by rw [List.length_zipWith]; omega, by rw [List.getElem_zipWith]⟩
        have h3 := join_mem (sep := " and ") m
        have h4 := (brk_len "both" ds[i] us[i]).1
        omega
      have lw : lbr b (ofL [.str "both", ofL ds]) (Txt.join " and " (List.zipWith (brk "both") ds us)) = if b = "" ∨ (b = "or" ∧ ("both" : Str) = "both") then Txt.join " and " (List.zipWith (brk "both") ds us) else ("(" : Str) ++ Txt.join " and " (List.zipWith (brk "both") ds us) ++ (")" : Str) := by
        unfold lbr
        exact if_pos (.inl rfl)
      obtain ⟨ys, hz, al⟩ := dv_first ha
      cases al with
      | cons hp al2 =>
        cases al2
        obtain ⟨bb, zs, rfl, hb, alz⟩ := dv_tup.mp hp
        have lz := alz.length
        have lu := als.length
        refine ⟨_, rfl, a, _, _, _, rfl, rfl, SqT.of hz, at0, ?_⟩
        refine ⟨_, rfl, rfl, _, rfl, ?_⟩
        refine ite2 (fun c => absurd c (neq (by decide))) (fun _ => ?_)
        refine ⟨_, rfl, rfl, _, rfl, ?_⟩
        refine iteP (decide_eq_true rfl) ?_
        refine ⟨rfl, _, rfl, a, _, _, _, rfl, rfl, SqT.of hz, at1, bb, rfl, ⟨_, SqT.of hb⟩, fun D hD => comp_tupY (xs := zs) (fun i τ H4 => ∃ x1 : Option V, τ = [x1] ∧ New H H4 D (.lst ((List.zipWith (brk "both") (ds.take i) (us.take i)).map V.str))) ?_ ?_ ?_ ?_⟩
        · exact ⟨_, rfl, New.mk hD⟩
        · rintro i τ H4 _ ⟨x1, rfl, N⟩
          exact SqT.of (N.1 _ _ hb)
        · rintro i x τ H4 hx ⟨x1, rfl, N⟩
          obtain ⟨hi, rfl⟩ := List.getElem?_eq_some_iff.mp hx
          have h1 : i < ds.length := by omega
          have h2 : i < us.length := by omega
          have si := als.get i h1 h2
          obtain ⟨rest, ei⟩ := sn_head si
          have di := alz.get i h1 hi
          obtain ⟨bi, _, ebi, _⟩ := dv_tup.mp (show DV H (ofL (.str (headW ds[i]) :: rest)) zs[i] from ei ▸ di)
          rw [ebi] at di
          rw [ebi]
          refine ⟨_, rfl, bi, "and", ds[i], us[i], rfl, N.1.dv di, si, sub i h1 h2, by decide, fun H5 s5 => ?_⟩
          refine ⟨_, s5 _ _ N.2.2, small1000 (by rw [List.length_map, List.length_zipWith, List.length_take, List.length_take]; omega), _, rfl, ?_⟩
          rw [lbr_and, zw_snoc h1 h2, List.map_append]
          exact N.set s5
        · rintro τ H4 ⟨x1, rfl, N⟩
          rw [← lz, List.take_length, lu, List.take_length] at N
          refine ⟨_, D, _, rfl, rfl, N.2.2, join_ok (by decide) (by rw [List.length_zipWith]; omega) (fun y hy => ?_), ?_⟩
          · have := join_mem (sep := " and ") hy
            omega
          · have sE := N.1
            refine ⟨_, rfl, rfl, _, rfl, ?_⟩
            refine ite2 (fun c => ?_) (fun c => ?_)
            · refine iteP rfl ?_
              refine ⟨_, rfl, ?_⟩
              rw [lw, if_pos (.inl (V.str.inj (of_decide_eq_true c)))] at q
              exact q _ sE
            · refine ⟨_, rfl, rfl, _, rfl, ?_⟩
              refine ite2 (fun c2 => ?_) (fun c2 => ?_)
              · refine ⟨_, rfl, rfl, _, rfl, ?_⟩
                refine ite2 (fun c3 => ?_) (fun c3 => ?_)
                · refine ⟨_, rfl, ?_⟩
                  rw [lw, if_pos (.inr ⟨V.str.inj (of_decide_eq_true c2), V.str.inj (of_decide_eq_true c3)⟩)] at q
                  exact q _ sE
                · rw [lw, if_neg (fun z => z.elim (fun z => c (decide_eq_true (congrArg V.str z))) fun z => c3 (decide_eq_true (congrArg V.str z.2)))] at q
                  exact ⟨_, rfl, _, _, rfl, rfl, big_line (by show 1 + _ ≤ _; omega), _, _, rfl, rfl, big_line (by rw [l_app]; show 1 + _ + 1 ≤ _; omega), q _ sE⟩
              · refine iteF ?_
                rw [lw, if_neg (fun z => z.elim (fun z => c (decide_eq_true (congrArg V.str z))) fun z => c2 (decide_eq_true (congrArg V.str z.1)))] at q
                exact ⟨_, rfl, _, _, rfl, rfl, big_line (by show 1 + _ ≤ _; omega), _, _, rfl, rfl, big_line (by rw [l_app]; show 1 + _ + 1 ≤ _; omega), q _ sE⟩
    · have sub : ∀ (i : Nat) (h1 : i < ds.length) (h2 : i < us.length), us[i].length ≤ 70000 := fun i h1 h2 => by
        have m : brk "either" ds[i] us[i] ∈ List.zipWith (brk "either") ds us := by
          refine List.mem_iff_getElem.mpr ⟨i, by rw [List.length_zipWith]; omega, by rw [List.getElem_zipWith]⟩
        have h3 := join_mem (sep := " or ") m
        have h4 := (brk_len "either" ds[i] us[i]).1
        omega
      have lw : lbr b (ofL [.str "either", ofL ds]) (Txt.join " or " (List.zipWith (brk "either") ds us)) = if b = "" ∨ (b = "or" ∧ ("either" : Str) = "both") then Txt.join " or " (List.zipWith (brk "either") ds us) else ("(" : Str) ++ Txt.join " or " (List.zipWith (brk "either") ds us) ++ (")" : Str) := by
        unfold lbr
        exact if_pos (.inr (.inl rfl))
      obtain ⟨ys, hz, al⟩ := dv_first ha
      cases al with
      | cons hp al2 =>
        cases al2
        obtain ⟨bb, zs, rfl, hb, alz⟩ := dv_tup.mp hp
        have lz := alz.length
        have lu := als.length
        refine ⟨_, rfl, a, _, _, _, rfl, rfl, SqT.of hz, at0, ?_⟩
        refine ⟨_, rfl, rfl, _, rfl, ?_⟩
        refine ite2 (fun c => absurd c (neq (by decide))) (fun _ => ?_)
        refine ⟨_, rfl, rfl, _, rfl, ?_⟩
        refine ite2 (fun c => absurd c (neq (by decide))) (fun _ => ?_)
        refine ⟨_, rfl, rfl, _, rfl, ?_⟩
        refine iteP (decide_eq_true rfl) ?_
        refine ⟨rfl, _, rfl, a, _, _, _, rfl, rfl, SqT.of hz, at1, bb, rfl, ⟨_, SqT.of hb⟩, fun D hD => comp_tupY (xs := zs) (fun i τ H4 => ∃ x1 : Option V, τ = [x1] ∧ New H H4 D (.lst ((List.zipWith (brk "either") (ds.take i) (us.take i)).map V.str))) ?_ ?_ ?_ ?_⟩
        · exact ⟨_, rfl, New.mk hD⟩
        · rintro i τ H4 _ ⟨x1, rfl, N⟩
          exact SqT.of (N.1 _ _ hb)
        · rintro i x τ H4 hx ⟨x1, rfl, N⟩
          obtain ⟨hi, rfl⟩ := List.getElem?_eq_some_iff.mp hx
          have h1 : i < ds.length := by omega
          have h2 : i < us.length := by omega
          have si := als.get i h1 h2
          obtain ⟨rest, ei⟩ := sn_head si
          have di := alz.get i h1 hi
          obtain ⟨bi, _, ebi, _⟩ := dv_tup.mp (show DV H (ofL (.str (headW ds[i]) :: rest)) zs[i] from ei ▸ di)
          rw [ebi] at di
          rw [ebi]
          refine ⟨_, rfl, bi, "or", ds[i], us[i], rfl, N.1.dv di, si, sub i h1 h2, by decide, fun H5 s5 => ?_⟩
          refine ⟨_, s5 _ _ N.2.2, small1000 (by rw [List.length_map, List.length_zipWith, List.length_take, List.length_take]; omega), _, rfl, ?_⟩
          rw [lbr_or, zw_snoc h1 h2, List.map_append]
          exact N.set s5
        · rintro τ H4 ⟨x1, rfl, N⟩
          rw [← lz, List.take_length, lu, List.take_length] at N
          refine ⟨_, D, _, rfl, rfl, N.2.2, join_ok (by decide) (by rw [List.length_zipWith]; omega) (fun y hy => ?_), ?_⟩
          · have := join_mem (sep := " or ") hy
            omega
          · have sE := N.1
            refine ⟨_, rfl, rfl, _, rfl, ?_⟩
            refine ite2 (fun c => ?_) (fun c => ?_)
            · refine iteP rfl ?_
              refine ⟨_, rfl, ?_⟩
              rw [lw, if_pos (.inl (V.str.inj (of_decide_eq_true c)))] at q
              exact q _ sE
            · refine ⟨_, rfl, rfl, _, rfl, ?_⟩
              refine ite2 (fun c2 => ?_) (fun c2 => ?_)
              · refine ⟨_, rfl, rfl, _, rfl, ?_⟩
                refine ite2 (fun c3 => ?_) (fun c3 => ?_)
                · refine ⟨_, rfl, ?_⟩
                  rw [lw, if_pos (.inr ⟨V.str.inj (of_decide_eq_true c2), V.str.inj (of_decide_eq_true c3)⟩)] at q
                  exact q _ sE
                · rw [lw, if_neg (fun z => z.elim (fun z => c (decide_eq_true (congrArg V.str z))) fun z => c3 (decide_eq_true (congrArg V.str z.2)))] at q
                  exact ⟨_, rfl, _, _, rfl, rfl, big_line (by show 1 + _ ≤ _; omega), _, _, rfl, rfl, big_line (by rw [l_app]; show 1 + _ + 1 ≤ _; omega), q _ sE⟩
              · refine iteF ?_
                rw [lw, if_neg (fun z => z.elim (fun z => c (decide_eq_true (congrArg V.str z))) fun z => c2 (decide_eq_true (congrArg V.str z.1)))] at q
                exact ⟨_, rfl, _, _, rfl, rfl, big_line (by show 1 + _ ≤ _; omega), _, _, rfl, rfl, big_line (by rw [l_app]; show 1 + _ + 1 ≤ _; omega), q _ sE⟩
    · rw [l_app, l_app, l_app, l_app] at lt
      have e1 : (Str.ofString " ").length = 1 := rfl
      have e2 : (Str.ofString ": ").length = 2 := rfl
      have nx : ∀ y : Str, (y = "both" ∨ y = "either" ∨ y = "not") → x ≠ y := fun y hy => by rcases hx with rfl | rfl <;> rcases hy with rfl | rfl | rfl <;> decide
      have lw : lbr b (ofL [.str x, .str nm, s']) (x ++ (" " : Str) ++ nm ++ (": " : Str) ++ u) = if b = "" ∨ (b = "or" ∧ x = "both") then x ++ (" " : Str) ++ nm ++ (": " : Str) ++ u else ("(" : Str) ++ (x ++ (" " : Str) ++ nm ++ (": " : Str) ++ u) ++ (")" : Str) := by
        unfold lbr
        exact if_pos (.inr (.inr hx))
      have lE : (x ++ (" " : Str) ++ nm ++ (": " : Str) ++ u).length ≤ 70000 := by rw [l_app, l_app, l_app, l_app]; omega
      obtain ⟨ys, hz, al⟩ := dv_first ha
      obtain ⟨rest, es⟩ := sn_head su
      cases al with
      | cons hn al2 =>
        cases al2 with
        | cons hs al3 =>
          cases al3
          rename_i zn zs
          obtain rfl : zn = .str nm := by simpa only [DV] using hn
          obtain ⟨bb, _, eb, _⟩ := dv_tup.mp (show DV H (ofL (.str (headW s') :: rest)) _ from es ▸ hs)
          rw [eb] at hs hz
          refine ⟨_, rfl, a, _, _, _, rfl, rfl, SqT.of hz, at0, ?_⟩
          refine ⟨_, rfl, rfl, _, rfl, ?_⟩
          refine ite2 (fun c => absurd c (neq (nx "not" (.inr (.inr rfl))))) (fun _ => ?_)
          refine ⟨_, rfl, rfl, _, rfl, ?_⟩
          refine ite2 (fun c => absurd c (neq (nx "both" (.inl rfl)))) (fun _ => ?_)
          refine ⟨_, rfl, rfl, _, rfl, ?_⟩
          refine ite2 (fun c => absurd c (neq (nx "either" (.inr (.inl rfl))))) (fun _ => ?_)
          rcases hx with rfl | rfl
          · refine ⟨_, rfl, rfl, _, rfl, ?_⟩
            refine iteP (decide_eq_true rfl) ?_
            refine iteP rfl ?_
            refine ⟨_, rfl, _, _, rfl, rfl, big_line (by omega), _, rfl, a, _, _, _, rfl, rfl, SqT.of hz, at1, _, _, rfl, rfl, big_line (by rw [l_app]; omega), _, _, rfl, rfl, big_line (by rw [l_app, l_app]; omega), _, rfl, a, _, _, _, rfl, rfl, SqT.of hz, at2, bb, "", s', u, rfl, hs, su, by omega, by decide, fun H2 sE => ?_⟩
            rw [lbr_e]
            refine ⟨_, _, rfl, rfl, big_line (by rw [l_app, l_app, l_app]; omega), ?_⟩
            refine ⟨_, rfl, rfl, _, rfl, ?_⟩
            refine ite2 (fun c => ?_) (fun c => ?_)
            · refine iteP rfl ?_
              refine ⟨_, rfl, ?_⟩
              rw [lw, if_pos (.inl (V.str.inj (of_decide_eq_true c)))] at q
              exact q _ sE
            · refine ⟨_, rfl, rfl, _, rfl, ?_⟩
              refine ite2 (fun c2 => ?_) (fun c2 => ?_)
              · refine ⟨_, rfl, rfl, _, rfl, ?_⟩
                refine ite2 (fun c3 => ?_) (fun c3 => ?_)
                · refine ⟨_, rfl, ?_⟩
                  rw [lw, if_pos (.inr ⟨V.str.inj (of_decide_eq_true c2), V.str.inj (of_decide_eq_true c3)⟩)] at q
                  exact q _ sE
                · rw [lw, if_neg (fun z => z.elim (fun z => c (decide_eq_true (congrArg V.str z))) fun z => c3 (decide_eq_true (congrArg V.str z.2)))] at q
                  exact ⟨_, rfl, _, _, rfl, rfl, big_line (by show 1 + _ ≤ _; omega), _, _, rfl, rfl, big_line (by rw [l_app]; show 1 + _ + 1 ≤ _; omega), q _ sE⟩
              · refine iteF ?_
                rw [lw, if_neg (fun z => z.elim (fun z => c (decide_eq_true (congrArg V.str z))) fun z => c2 (decide_eq_true (congrArg V.str z.1)))] at q
                exact ⟨_, rfl, _, _, rfl, rfl, big_line (by show 1 + _ ≤ _; omega), _, _, rfl, rfl, big_line (by rw [l_app]; show 1 + _ + 1 ≤ _; omega), q _ sE⟩
          · refine ⟨_, rfl, rfl, _, rfl, ?_⟩
            refine ite2 (fun c => absurd c (neq (by decide))) (fun _ => ?_)
            refine ⟨_, rfl, rfl, _, rfl, ?_⟩
            refine iteP (decide_eq_true rfl) ?_
            refine ⟨_, rfl, _, _, rfl, rfl, big_line (by omega), _, rfl, a, _, _, _, rfl, rfl, SqT.of hz, at1, _, _, rfl, rfl, big_line (by rw [l_app]; omega), _, _, rfl, rfl, big_line (by rw [l_app, l_app]; omega), _, rfl, a, _, _, _, rfl, rfl, SqT.of hz, at2, bb, "", s', u, rfl, hs, su, by omega, by decide, fun H2 sE => ?_⟩
            rw [lbr_e]
            refine ⟨_, _, rfl, rfl, big_line (by rw [l_app, l_app, l_app]; omega), ?_⟩
            refine ⟨_, rfl, rfl, _, rfl, ?_⟩
            refine ite2 (fun c => ?_) (fun c => ?_)
            · refine iteP rfl ?_
              refine ⟨_, rfl, ?_⟩
              rw [lw, if_pos (.inl (V.str.inj (of_decide_eq_true c)))] at q
              exact q _ sE
            · refine ⟨_, rfl, rfl, _, rfl, ?_⟩
              refine ite2 (fun c2 => ?_) (fun c2 => ?_)
              · refine ⟨_, rfl, rfl, _, rfl, ?_⟩
                refine ite2 (fun c3 => ?_) (fun c3 => ?_)
                · refine ⟨_, rfl, ?_⟩
                  rw [lw, if_pos (.inr ⟨V.str.inj (of_decide_eq_true c2), V.str.inj (of_decide_eq_true c3)⟩)] at q
                  exact q _ sE
                · rw [lw, if_neg (fun z => z.elim (fun z => c (decide_eq_true (congrArg V.str z))) fun z => c3 (decide_eq_true (congrArg V.str z.2)))] at q
                  exact ⟨_, rfl, _, _, rfl, rfl, big_line (by show 1 + _ ≤ _; omega), _, _, rfl, rfl, big_line (by rw [l_app]; show 1 + _ + 1 ≤ _; omega), q _ sE⟩
              · refine iteF ?_
                rw [lw, if_neg (fun z => z.elim (fun z => c (decide_eq_true (congrArg V.str z))) fun z => c2 (decide_eq_true (congrArg V.str z.1)))] at q
                exact ⟨_, rfl, _, _, rfl, rfl, big_line (by show 1 + _ ≤ _; omega), _, _, rfl, rfl, big_line (by rw [l_app]; show 1 + _ + 1 ≤ _; omega), q _ sE⟩
theorem sc_binds : FnScope ["S"] ["S"] (defScope st_binds) := ⟨rfl, rfl, rfl, by decide +kernel, rfl, by decide +kernel, by decide +kernel⟩
set_option maxHeartbeats 4000000 in
theorem ok_binds (h : Has K mg "binds" st_binds ["S"]) (B : Bl mg){aS : Addr} : Ok P w K mg base 1 "binds" ["S"] (sp_binds K) := by
  refine h.fn sc_binds (fun vs H Q E h => ?_) (fun f cdv A outer s H vs Q E hr h => ?_)
  · obtain ⟨a, x, ys, rfl, _⟩ := h
    rfl
  · have hu16 := hu16_of hr
    have hu9 := hu9_of hr
    obtain ⟨a, x, ys, rfl, hS, q1, q2⟩ := h
    refine ⟨_, (pss_one (ps_ret (pe_cmpR (op_in_seq) (pe_ix ix_tup (pv 0) pe_int (fun _ _ => rfl)) (pe_tup (pa_cons pe_str (pa_cons pe_str pa_nil))) (by with_unfolding_all rfl)))), ?_⟩
    refine ⟨_, rfl, a, _, _, _, rfl, rfl, hS, at0, small10 (by show 2 ≤ 1000; decide), fun p hp => ?_⟩
    refine ⟨p, _, rfl, .inr (SqT.of upd_same), rfl, rfl, ?_⟩
    have e : inV (.str x) [.str "some", .str "all"] = decide (x = "some" ∨ x = "all") := inV2 _ _ _
    show Q (.bl (inV (.str x) [.str "some", .str "all"])) _
    rw [e]
    by_cases c : x = "some" ∨ x = "all"
    · rw [decide_eq_true c]
      exact q1 _ (same_new hp _) c
    · rw [decide_eq_false c]
      exact q2 _ (same_new hp _) c
theorem sc_is_compare : FnScope ["S"] ["S"] (defScope st_is_compare) := ⟨rfl, rfl, rfl, by decide +kernel, rfl, by decide +kernel, by decide +kernel⟩
set_option maxHeartbeats 4000000 in
theorem ok_is_compare (h : Has K mg "is_compare" st_is_compare ["S"]) (B : Bl mg){aS aB aO : Addr} (L : Cons P w K mg aS aB aO) : Ok P w K mg base 1 "is_compare" ["S"] (sp_is_compare K) := by
  refine h.fn sc_is_compare (fun vs H Q E h => ?_) (fun f cdv A outer s H vs Q E hr h => ?_)
  · obtain ⟨a, x, ys, rfl, _⟩ := h
    rfl
  · have hu16 := hu16_of hr
    have hu9 := hu9_of hr
    obtain ⟨a, x, ys, rfl, hS, q1, q2⟩ := h
    obtain ⟨o1, o2, o3, o4, kO⟩ := L.kO
    refine ⟨_, (pss_one (ps_ret (pe_cmpR (op_inKD) (pe_ix ix_tup (pv 0) pe_int (fun _ _ => rfl)) (pe_glob (v := .ref _) rfl L.c_SIGNS_OF rfl) (by with_unfolding_all rfl)))), ?_⟩
    refine ⟨_, rfl, a, _, _, _, rfl, rfl, hS, at0, aO, _, .inr x, rfl, kO, rfl, ?_⟩
    by_cases c : cmpW x
    · have e : (valV [((.inr "less" : Key), o1), (.inr "most", o2), (.inr "equal", o3), (.inr "unlike", o4)] (.inr x)).isSome = true := by
        unfold valV
        rcases c with rfl | rfl | rfl | rfl <;> simp
      rw [e]
      exact q1 c
    · have e : (valV [((.inr "less" : Key), o1), (.inr "most", o2), (.inr "equal", o3), (.inr "unlike", o4)] (.inr x)).isSome = false := by
        have n1 : ¬ "less" = x := fun z => c (.inl z.symm)
        have n2 : ¬ "most" = x := fun z => c (.inr (.inl z.symm))
        have n3 : ¬ "equal" = x := fun z => c (.inr (.inr (.inl z.symm)))
        have n4 : ¬ "unlike" = x := fun z => c (.inr (.inr (.inr z.symm)))
        unfold valV
        simp [n1, n2, n3, n4]
      rw [e]
      exact q2 c
theorem sc_joins : FnScope ["S"] ["S"] (defScope st_joins) := ⟨rfl, rfl, rfl, by decide +kernel, rfl, by decide +kernel, by decide +kernel⟩
set_option maxHeartbeats 4000000 in
theorem ok_joins (h : Has K mg "joins" st_joins ["S"]) (B : Bl mg){aS : Addr} : Ok P w K mg base 1 "joins" ["S"] (sp_joins K) := by
  refine h.fn sc_joins (fun vs H Q E h => ?_) (fun f cdv A outer s H vs Q E hr h => ?_)
  · obtain ⟨a, x, ys, rfl, _⟩ := h
    rfl
  · have hu16 := hu16_of hr
    have hu9 := hu9_of hr
    obtain ⟨a, x, ys, rfl, hS, q1, q2⟩ := h
    refine ⟨_, (pss_one (ps_ret (pe_cmpR (op_in_seq) (pe_ix ix_tup (pv 0) pe_int (fun _ _ => rfl)) (pe_tup (pa_cons pe_str (pa_cons pe_str pa_nil))) (by with_unfolding_all rfl)))), ?_⟩
    refine ⟨_, rfl, a, _, _, _, rfl, rfl, hS, at0, small10 (by show 2 ≤ 1000; decide), fun p hp => ?_⟩
    refine ⟨p, _, rfl, .inr (SqT.of upd_same), rfl, rfl, ?_⟩
    have e : inV (.str x) [.str "both", .str "either"] = decide (x = "both" ∨ x = "either") := inV2 _ _ _
    show Q (.bl (inV (.str x) [.str "both", .str "either"])) _
    rw [e]
    by_cases c : x = "both" ∨ x = "either"
    · rw [decide_eq_true c]
      exact q1 _ (same_new hp _) c
    · rw [decide_eq_false c]
      exact q2 _ (same_new hp _) c
theorem sc_shown_power : FnScope ["name", "power"] ["name", "power"] (defScope st_shown_power) := ⟨rfl, rfl, rfl, by decide +kernel, rfl, by decide +kernel, by decide +kernel⟩
set_option maxHeartbeats 4000000 in
theorem ok_shown_power (h : Has K mg "shown_power" st_shown_power ["name", "power"]) (B : Bl mg){aS : Addr} : Ok P w K mg base 1 "shown_power" ["name", "power"] sp_shown_power := by
  refine h.fn sc_shown_power (fun vs H Q E h => ?_) (fun f cdv A outer s H vs Q E hr h => ?_)
  · obtain ⟨nm, rfl, _⟩ := h
    rfl
  · have hu16 := hu16_of hr
    have hu9 := hu9_of hr
    obtain ⟨nm, rfl, q⟩ := h
    refine ⟨_, (pss_one (ps_ret (pe_ifExp (pt_cmpR (op_eq) (pv 1) pe_int (nomark _)) (pv 0) (pe_fstr (pj_fmt (pv 0) (pj_plain pe_str (pj_fmt (pv 1) pj_nil))))))), ?_⟩
    refine ⟨_, rfl, rfl, _, rfl, ?_⟩
    refine iteP (by decide) ?_
    exact ⟨_, rfl, q⟩
theorem sc_shown_amount : FnScope ["product", "number", "factors"] ["product", "number"] (defScope st_shown_amount) := ⟨rfl, rfl, rfl, by decide +kernel, rfl, by decide +kernel, by decide +kernel⟩
set_option maxHeartbeats 4000000 in
theorem ok_shown_amount (h : Has K mg "shown_amount" st_shown_amount ["product", "number"]) (B : Bl mg){aS : Addr} (Fshown_power : Ok P w K mg base 1 "shown_power" ["name", "power"] sp_shown_power) : Ok P w K mg base 2 "shown_amount" ["product", "number"] (sp_shown_amount K) := by
  refine h.fn sc_shown_amount (fun vs H Q E h => ?_) (fun f cdv A outer s H vs Q E hr h => ?_)
  · obtain ⟨a, l, n, t, rfl, _⟩ := h
    rfl
  · have hu16 := hu16_of hr
    have hu9 := hu9_of hr
    obtain ⟨a, l, n, t, rfl, ha, hn, hc, q⟩ := h
    refine ⟨_, (pss_cons (ps_compset (iy := 2) sc_shown_amount.nd rfl (Or.inl rfl) ["name", "power"] [none, none] rfl (pi_tup (pv 0)) (fun _ _ _ _ _ _ => (pg_tupK (K := K) (n := 2) rfl rfl (pgs_cons (pg_name (i := 0) (nd_ (l := ["name", "power"]) (by decide +kernel)) rfl (Or.inl rfl)) (pgs_cons (pg_name (i := 1) (nd_ (l := ["name", "power"]) (by decide +kernel)) rfl (Or.inl rfl)) pgs_nil)))) (fun _ _ _ _ _ _ => pf_nil) (fun _ _ _ _ _ _ => (pe_callN Fshown_power (hr.mono (by decide)) rfl (pa_cons (pv 0) (pa_cons (pv 1) pa_nil)))))
      (pss_cons (ps_if (PW.pt (pw_or (pt_cmpR (op_ne) (pv 1) pe_int (nomark _)) (pw_or1 (pt_cmpR (op_eq_d hu16) (pv 0) (pe_tup pa_nil) (nomark _))))) (pss_one (ps_expr (pe_bm PySem.F.plainAttrs_list PySem.F.slot_list_insert PySem.F.type_list_insert mt_insert (pv 2) (pa_cons pe_int (pa_cons (pe_callTy (call_str_int) rfl B.str_ bt_str (pa_cons (pv 1) pa_nil)) pa_nil))))) pss_nil)
      (pss_one (ps_ret (pe_bm PySem.F.plainAttrs_str PySem.F.slot_str_join PySem.F.type_str_join mt_join pe_str (pa_cons (pv 2) pa_nil)))))), ?_⟩
    rcases hc with ⟨rfl, rfl⟩ | ⟨rfl, rfl, tl⟩
    · obtain ⟨_, zs, e, hz, al⟩ := dv_tup.mp (show DV H (ofL []) (.ref a) from ha)
      cases e
      cases al
      refine ⟨_, rfl, a, rfl, ⟨_, SqT.of hz⟩, fun D hD => comp_tupY (xs := []) (fun i τ H4 => New H H4 D (.lst [])) (New.mk hD) (fun i τ H4 _ N => SqT.of (N.1 _ _ hz)) (fun i x τ H4 hx _ => absurd hx (by simp)) fun τ H4 N => ?_⟩
      have tail : ∀ H5, Same H4 H5 → New H H5 D (.lst []) → tDrop (tBM K "list" rInsert (tVar 2) (tCons (tC (V.int 0)) (tCons (tCB (fun xs H Q => ∃ i, xs = [V.int i] ∧ i.natAbs.log2 < 1920 ∧ Q (V.str (Str.ofString (toString i))) H) (tCons (tVar 1) tNil)) tNil))) { nx := fun σ H6 => (tRet (tBM K "str" (fun x vs H Q => ∃ (sep : Str) (l : Addr) (ts : List Str), x = V.str sep ∧ vs = [V.ref l] ∧ H l = some (HO.lst (List.map V.str ts)) ∧ JoinOk sep ts = true ∧ Q (V.str (Txt.join sep ts)) H) (tC (V.str (Str.ofString "*"))) (tCons (tVar 2) tNil))) { nx := fun x H' => Q V.non H', rt := Q } σ H6, rt := Q } [some (.ref a), some (.int n), some (.ref D)] H5 := fun H5 s5 N5 => by
        refine ⟨_, rfl, .inl ⟨rfl, _, SqL.of N5.2.2⟩, _, rfl, n, rfl, hn, D, [], 0, _, rfl, rfl, N5.2.2, ⟨Int.le_refl _, Int.le_refl _⟩, by decide, ?_⟩
        refine ⟨rfl, _, rfl, _, D, [Str.ofString (toString n)], rfl, rfl, upd_same, join_ok (by decide) (by simp) (fun y hy => ?_), ?_⟩
        · rw [List.mem_singleton.mp hy]
          exact Nat.le_trans (PyProof.Rows.int_text_len_1921 hn) (by decide)
        · rw [join_one]
          exact q _ (N5.set (Same.refl _)).1
      refine ⟨_, rfl, rfl, _, rfl, ?_⟩
      refine ite2 (fun c => ?_) (fun c => ?_)
      · refine iteP rfl ?_
        exact tail H4 (Same.refl _) N
      · refine ⟨_, rfl, Nat.zero_le _, fun o ho => ?_⟩
        have so := same_new ho (.tup [])
        refine ⟨_, _, ⟨⟨_, rfl⟩, ⟨_, rfl⟩, (N.1.trans so).dv ha, dv_tup.mpr ⟨o, [], rfl, upd_same, .nil⟩, by decide, by decide⟩, _, rfl, ?_⟩
        refine iteP rfl ?_
        exact tail _ so (N.keep so)
    · obtain ⟨_, zs, e, hz, al⟩ := dv_tup.mp (show DV H (ofL [ofL [.str t, .int 1]]) (.ref a) from ha)
      cases e
      cases al with
      | cons h1 h2 =>
        cases h2
        rename_i z
        obtain ⟨g, rfl, hg⟩ := (dv_part (p := (t, 1))).mp h1
        refine ⟨_, rfl, a, rfl, ⟨_, SqT.of hz⟩, fun D hD => comp_tupY (xs := [.ref g]) (fun i τ H4 => ∃ x1 x2 : Option V, τ = [x1, x2] ∧ New H H4 D (.lst (if i = 0 then [] else [.str t]))) ⟨_, _, rfl, New.mk hD⟩ (fun i τ H4 _ ⟨_, _, _, N⟩ => SqT.of (N.1 _ _ hz)) (fun i x τ H4 hx ⟨x1, x2, et, N⟩ => ?_) fun τ H4 ⟨x1, x2, et, N⟩ => ?_⟩
        · subst et
          cases i with
          | succ i => exact absurd hx (by simp)
          | zero =>
            cases hx
            refine ⟨g, _, rfl, SqT.of (N.1 _ _ hg), rfl, _, _, rfl, _, _, rfl, rfl, ?_⟩
            refine ⟨_, rfl, _, rfl, t, rfl, [], N.2.2, by decide, _, _, rfl, N.set (Same.refl _)⟩
        · refine ⟨_, rfl, rfl, _, rfl, ?_⟩
          refine iteF ?_
          refine ⟨_, rfl, Nat.zero_le _, fun o ho => ?_⟩
          have so := same_new ho (.tup [])
          refine ⟨_, _, ⟨⟨_, rfl⟩, ⟨_, rfl⟩, (N.1.trans so).dv ha, dv_tup.mpr ⟨o, [], rfl, upd_same, .nil⟩, by simp [Fm.prodD, Fm.partD, ofL, DD.dep], by decide⟩, _, rfl, ?_⟩
          rw [decide_eq_false (show Fm.prodD [(t, 1)] ≠ ofL [] from ofL_full (by simp))]
          refine iteF ?_
          refine ⟨rfl, _, rfl, _, D, [t], rfl, rfl, so _ _ N.2.2, join_ok (by decide) (by simp) (fun y hy => by rw [List.mem_singleton.mp hy]; omega), ?_⟩
          rw [join_one]
          exact q _ (N.1.trans so)
theorem sc_shown_form : FnScope ["F", "text", "product", "number", "amount", "sign"] ["F"] (defScope st_shown_form) := ⟨rfl, rfl, rfl, by decide +kernel, rfl, by decide +kernel, by decide +kernel⟩
set_option maxHeartbeats 4000000 in
theorem ok_shown_form (h : Has K mg "shown_form" st_shown_form ["F"]) (B : Bl mg){aS : Addr} (Fshown_amount : Ok P w K mg base 2 "shown_amount" ["product", "number"] (sp_shown_amount K)) : Ok P w K mg base 3 "shown_form" ["F"] (sp_shown_form K) := by
  refine h.fn sc_shown_form (fun vs H Q E h => ?_) (fun f cdv A outer s H vs Q E hr h => ?_)
  · obtain ⟨a, nm, sg, n, rfl, _⟩ := h
    rfl
  · have hu16 := hu16_of hr
    have hu9 := hu9_of hr
    obtain ⟨a, nm, sg, n, rfl, ha, hn, ln, q⟩ := h
    obtain ⟨_, xs, e, hx, al⟩ := dv_tup.mp ha
    cases e
    refine ⟨_, (pss_cons (ps_set (i := 1) sc_shown_form.nd rfl (Or.inl rfl) pe_str)
      (pss_cons (ps_for PassesOwn.never rfl (pi_tup (pv 0)) (pg_tup rfl (pgs_cons (pg_name (i := 2) sc_shown_form.nd rfl (Or.inl rfl)) (pgs_cons (pg_name (i := 3) sc_shown_form.nd rfl (Or.inl rfl)) pgs_nil))) (pss_cons (ps_set (i := 4) sc_shown_form.nd rfl (Or.inl rfl) (pe_callN Fshown_amount (hr.mono (by decide)) rfl (pa_cons (pv 2) (pa_cons (pe_callB (call_abs) rfl B.abs_ bt_abs (pa_cons (pv 3) pa_nil)) pa_nil))))
      (pss_one (ps_if (pt_cmpR (op_eq) (pv 1) pe_str (nomark _)) (pss_one (ps_set (i := 1) sc_shown_form.nd rfl (Or.inl rfl) (pe_ifExp (pt_cmpR (op_lt) (pv 3) pe_int (nomark _)) (pe_fstr (pj_plain pe_str (pj_fmt (pv 4) pj_nil))) (pv 4)))) (pss_cons (ps_set (i := 5) sc_shown_form.nd rfl (Or.inl rfl) (pe_ifExp (pt_cmpR (op_lt) (pv 3) pe_int (nomark _)) pe_str pe_str))
      (pss_one (ps_set (i := 1) sc_shown_form.nd rfl (Or.inl rfl) (pe_fstr (pj_fmt (pv 1) (pj_plain pe_str (pj_fmt (pv 5) (pj_plain pe_str (pj_fmt (pv 4) pj_nil)))))))))))))
      (pss_one (ps_ret (pv 1))))), ?_⟩
    have la : ∀ {k : Int}, k.natAbs.log2 < 1920 → (if k < 0 then -k else k).natAbs.log2 < 1920 := fun {k} z => by
      have e : (if k < 0 then -k else k).natAbs = k.natAbs := by split <;> omega
      rw [e]
      exact z
    have one : (if (if sg then (-1 : Int) else 1) < 0 then -(if sg then (-1 : Int) else 1) else (if sg then (-1 : Int) else 1)) = 1 := by cases sg <;> decide
    have sgl : decide ((if sg then (-1 : Int) else 1) < 0) = sg := by cases sg <;> decide
    have tl := PyProof.Rows.int_text_len_1921 hn
    unfold leafF at al
    by_cases c0 : n = 0
    · rw [if_pos c0, List.nil_append] at al
      cases al with
      | cons h1 h2 =>
        cases h2
        rename_i z
        obtain ⟨g, y, rfl, hg, hy⟩ := dv_pair.mp h1
        obtain ⟨kb, rfl, _⟩ := dv_prod_ref (Fm.OkP.isProd (nms := [nm]) (c := 1) ⟨[(nm, 1)], rfl, List.pairwise_singleton _ _, by simp, by show (1 : Int) + 0 ≤ 1; decide⟩ (by decide)) hy
        have e : leafT nm sg n = if sg then ("-" : Str) ++ nm else nm := by unfold leafT; rw [if_pos c0]
        rw [e] at q
        refine ⟨_, rfl, a, rfl, ⟨_, SqT.of hx⟩, for_tup (xs := [.ref g]) (fun i σ H2 => ∃ x2 x3 x4 x5 : Option V, σ = [some (.ref a), some (.str (if i = 0 then "" else if sg then ("-" : Str) ++ nm else nm)), x2, x3, x4, x5] ∧ Same H H2) ⟨_, _, _, _, rfl, .refl _⟩ (fun i σ H2 _ ⟨_, _, _, _, _, s2⟩ => SqT.of (s2 _ _ hx)) (fun i x σ H2 hx2 ⟨x2, x3, x4, x5, es, s2⟩ => ?_) fun σ H2 ⟨x2, x3, x4, x5, es, s2⟩ => ?_⟩
        · subst es
          cases i with
          | succ i => exact absurd hx2 (by simp)
          | zero =>
            cases hx2
            refine ⟨g, _, rfl, SqT.of (s2 _ _ hg), rfl, _, _, rfl, _, _, rfl, rfl, ?_⟩
            refine ⟨_, rfl, _, rfl, _, rfl, kb, [(nm, 1)], 1, nm, by dsimp only; rw [one]; rfl, s2.dv hy, by decide, .inr ⟨rfl, rfl, ln⟩, fun H3 s3 => ?_⟩
            refine ⟨_, rfl, rfl, _, rfl, ?_⟩
            refine iteP (decide_eq_true rfl) ?_
            refine ⟨_, rfl, _, _, rfl, rfl, _, rfl, ?_⟩
            dsimp only
            rw [sgl]
            cases sg
            · refine iteF ?_
              exact ⟨_, rfl, _, _, _, _, rfl, s2.trans s3⟩
            · refine iteP rfl ?_
              refine ⟨_, rfl, by decide, by decide, _, rfl, nm, rfl, big_line (by omega), big_line (by rw [l_app, e_app]; show 1 + _ ≤ _; omega), big_line (by rw [l_app, e_app]; show 1 + _ ≤ _; omega), ?_⟩
              rw [e_app]
              exact ⟨_, _, _, _, rfl, s2.trans s3⟩
        · subst es
          exact ⟨_, rfl, q _ s2⟩
    · rw [if_neg c0] at al
      cases al with
      | cons h0 al =>
        cases al with
        | cons h1 h2 =>
          cases h2
          rename_i z1 z2
          obtain ⟨g0, y0, rfl, hg0, hy0⟩ := dv_pair.mp h0
          obtain ⟨g, y, rfl, hg, hy⟩ := dv_pair.mp h1
          obtain ⟨kb0, rfl, _⟩ := dv_prod_ref (Fm.OkP.isProd (nms := [nm]) (c := 1) ⟨[], rfl, List.Pairwise.nil, by simp, by show (0 : Int) ≤ 1; decide⟩ (by decide)) hy0
          obtain ⟨kb, rfl, _⟩ := dv_prod_ref (Fm.OkP.isProd (nms := [nm]) (c := 1) ⟨[(nm, 1)], rfl, List.pairwise_singleton _ _, by simp, by show (1 : Int) + 0 ≤ 1; decide⟩ (by decide)) hy
          have e : leafT nm sg n = Str.ofString (toString n) ++ (if sg then (" - " : Str) else " + ") ++ nm := by unfold leafT; rw [if_neg c0]
          rw [e] at q
          obtain ⟨num, en⟩ : ∃ num, num = Str.ofString (toString n) := ⟨_, rfl⟩
          have nf : num ≠ "" := by
            rw [en]
            by_cases c : n < 0
            · rw [Fm.num_neg c]
              exact Fm.neg_full _
            · exact Fm.num_full (by omega)
          rw [← en] at q tl
          refine ⟨_, rfl, a, rfl, ⟨_, SqT.of hx⟩, for_tup (xs := [.ref g0, .ref g]) (fun i σ H2 => ∃ x2 x3 x4 x5 : Option V, σ = [some (.ref a), some (.str (if i = 0 then "" else if i = 1 then num else num ++ (if sg then (" - " : Str) else " + ") ++ nm)), x2, x3, x4, x5] ∧ Same H H2) ⟨_, _, _, _, rfl, .refl _⟩ (fun i σ H2 _ ⟨_, _, _, _, _, s2⟩ => SqT.of (s2 _ _ hx)) (fun i x σ H2 hx2 ⟨x2, x3, x4, x5, es, s2⟩ => ?_) fun σ H2 ⟨x2, x3, x4, x5, es, s2⟩ => ?_⟩
          · subst es
            rcases i with _ | _ | i
            · cases hx2
              refine ⟨g0, _, rfl, SqT.of (s2 _ _ hg0), rfl, _, _, rfl, _, _, rfl, rfl, ?_⟩
              refine ⟨_, rfl, _, rfl, _, rfl, kb0, [], (if n < 0 then -n else n), _, rfl, s2.dv hy0, la hn, .inl ⟨rfl, rfl⟩, fun H3 s3 => ?_⟩
              have tla := PyProof.Rows.int_text_len_1921 (la hn)
              refine ⟨_, rfl, rfl, _, rfl, ?_⟩
              refine iteP (decide_eq_true rfl) ?_
              refine ⟨_, rfl, _, _, rfl, rfl, _, rfl, ?_⟩
              dsimp only
              by_cases c : n < 0
              · rw [decide_eq_true c]
                refine iteP rfl ?_
                rw [if_pos c] at tla ⊢
                refine ⟨_, rfl, by decide, by decide, _, rfl, _, rfl, big_line (by omega), big_line (by rw [l_app, e_app]; show 1 + _ ≤ _; omega), big_line (by rw [l_app, e_app]; show 1 + _ ≤ _; omega), ?_⟩
                rw [e_app, ← Fm.num_neg c, ← en]
                exact ⟨_, _, _, _, rfl, s2.trans s3⟩
              · rw [decide_eq_false c]
                refine iteF ?_
                refine ⟨_, rfl, ?_⟩
                rw [if_neg c, ← en]
                exact ⟨_, _, _, _, rfl, s2.trans s3⟩
            · cases hx2
              refine ⟨g, _, rfl, SqT.of (s2 _ _ hg), rfl, _, _, rfl, _, _, rfl, rfl, ?_⟩
              refine ⟨_, rfl, _, rfl, _, rfl, kb, [(nm, 1)], 1, nm, by dsimp only; rw [one]; rfl, s2.dv hy, by decide, .inr ⟨rfl, rfl, ln⟩, fun H3 s3 => ?_⟩
              refine ⟨_, rfl, rfl, _, rfl, ?_⟩
              refine ite2 (fun z => absurd (show num = "" from V.str.inj (of_decide_eq_true z)) nf) (fun _ => ?_)
              refine ⟨_, rfl, _, _, rfl, rfl, _, rfl, ?_⟩
              dsimp only
              rw [sgl]
              cases sg
              · refine iteF ?_
                refine ⟨_, rfl, num, rfl, big_line (by omega), big_line (by rw [e_app]; omega), _, rfl, by decide, big_line (by rw [l_app, e_app]; show _ + 1 ≤ _; omega), _, rfl, _, rfl, by decide, big_line (by rw [l_app, l_app, e_app]; show _ + 1 + 1 ≤ _; omega), _, rfl, by decide, big_line (by rw [l_app, l_app, l_app, e_app]; show _ + 1 + 1 + 1 ≤ _; omega), _, rfl, nm, rfl, big_line (by omega), big_line (by rw [l_app, l_app, l_app, l_app, e_app]; show _ + 1 + 1 + 1 + _ ≤ _; omega), big_line (by rw [l_app, l_app, l_app, l_app, e_app]; show _ + 1 + 1 + 1 + _ ≤ _; omega), ?_⟩
                rw [e_app, sp_p]
                exact ⟨_, _, _, _, rfl, s2.trans s3⟩
              · refine iteP rfl ?_
                refine ⟨_, rfl, num, rfl, big_line (by omega), big_line (by rw [e_app]; omega), _, rfl, by decide, big_line (by rw [l_app, e_app]; show _ + 1 ≤ _; omega), _, rfl, _, rfl, by decide, big_line (by rw [l_app, l_app, e_app]; show _ + 1 + 1 ≤ _; omega), _, rfl, by decide, big_line (by rw [l_app, l_app, l_app, e_app]; show _ + 1 + 1 + 1 ≤ _; omega), _, rfl, nm, rfl, big_line (by omega), big_line (by rw [l_app, l_app, l_app, l_app, e_app]; show _ + 1 + 1 + 1 + _ ≤ _; omega), big_line (by rw [l_app, l_app, l_app, l_app, e_app]; show _ + 1 + 1 + 1 + _ ≤ _; omega), ?_⟩
                rw [e_app, sp_m]
                exact ⟨_, _, _, _, rfl, s2.trans s3⟩
            · exact absurd hx2 (by simp)
          · subst es
            exact ⟨_, rfl, q _ s2⟩
theorem sc_shown_compare : FnScope ["word", "F", "sum_text", "sign"] ["word", "F"] (defScope st_shown_compare) := ⟨rfl, rfl, rfl, by decide +kernel, rfl, by decide +kernel, by decide +kernel⟩
set_option maxHeartbeats 4000000 in
theorem ok_shown_compare (h : Has K mg "shown_compare" st_shown_compare ["word", "F"]) (B : Bl mg){aS aB aO : Addr} (L : Cons P w K mg aS aB aO) (Fshown_form : Ok P w K mg base 3 "shown_form" ["F"] (sp_shown_form K)) : Ok P w K mg base 4 "shown_compare" ["word", "F"] (sp_shown_compare K) := by
  refine h.fn sc_shown_compare (fun vs H Q E h => ?_) (fun f cdv A outer s H vs Q E hr h => ?_)
  · obtain ⟨a, x, nm, sg, n, rfl, _⟩ := h
    rfl
  · have hu16 := hu16_of hr
    have hu9 := hu9_of hr
    obtain ⟨a, x, nm, sg, n, rfl, ha, hn, ln, cx, q⟩ := h
    have tl := leafT_len (sg := sg) hn ln
    have vx : valV kvS (.inr x) = some (.str (signW x)) := by
      unfold kvS valV
      rcases cx with rfl | rfl | rfl | rfl <;> rfl
    have sx : (signW x).length ≤ 2 := by
      rcases cx with rfl | rfl | rfl | rfl <;> decide
    refine ⟨_, (pss_cons (ps_set (i := 2) sc_shown_compare.nd rfl (Or.inl rfl) (pe_callN Fshown_form (hr.mono (by decide)) rfl (pa_cons (pv 1) pa_nil)))
      (pss_cons (ps_set (i := 3) sc_shown_compare.nd rfl (Or.inl rfl) (pe_dgetK (pe_glob (v := .ref _) rfl L.c_SIGNS rfl) (pv 0) (fun _ _ => rfl)))
      (pss_one (ps_ret (pe_fstr (pj_fmt (pv 2) (pj_plain pe_str (pj_fmt (pv 3) (pj_plain pe_str pj_nil))))))))), ?_⟩
    refine ⟨_, rfl, a, nm, sg, n, rfl, ha, hn, ln, fun H1 s1 => ?_⟩
    refine ⟨_, rfl, aS, kvS, .inr x, _, rfl, L.kS, rfl, vx, ?_⟩
    refine ⟨_, rfl, _, rfl, big_line (by omega), big_line (by rw [e_app]; omega), _, rfl, by decide, big_line (by rw [l_app, e_app]; show _ + 1 ≤ _; omega), _, rfl, _, rfl, big_line (by omega), big_line (by rw [l_app, l_app, e_app]; show _ + 1 + _ ≤ _; omega), _, rfl, by decide, big_line (by rw [l_app, l_app, l_app, e_app]; show _ + 1 + _ + 2 ≤ _; omega), big_line (by rw [l_app, l_app, l_app, e_app]; show _ + 1 + _ + 2 ≤ _; omega), ?_⟩
    rw [e_app]
    exact q _ s1
theorem sc_shown : FnScope ["S", "word", "parts", "name"] ["S"] (defScope st_shown) := ⟨rfl, rfl, rfl, by decide +kernel, rfl, by decide +kernel, by decide +kernel⟩
set_option maxHeartbeats 4000000 in
theorem ok_shown (h : Has K mg "shown" st_shown ["S"]) (B : Bl mg) {n lv : Nat} (big : 4 ≤ lv){aS aB aO : Addr} (L : Cons P w K mg aS aB aO) (Fbinds : Ok P w K mg base 1 "binds" ["S"] (sp_binds K)) (Fis_compare : Ok P w K mg base 1 "is_compare" ["S"] (sp_is_compare K)) (Fjoins : Ok P w K mg base 1 "joins" ["S"] (sp_joins K)) (Fshown_compare : Ok P w K mg base 4 "shown_compare" ["word", "F"] (sp_shown_compare K)) (Fshown : Ok P w K mg base (lv + 0) "shown" ["S"] (sp_shown K n)) (Fshown_part : Ok P w K mg base (lv + 1) "shown_part" ["word", "part"] (sp_shown_part K n)) : Ok P w K mg base (lv + 2) "shown" ["S"] (sp_shown K (n + 1)) := by
  refine h.fn sc_shown (fun vs H Q E h => ?_) (fun f cdv A outer s H vs Q E hr h => ?_)
  · obtain ⟨a, d, t, rfl, _⟩ := h
    rfl
  · have hu16 := hu16_of hr
    have hu9 := hu9_of hr
    obtain ⟨a, d, t, rfl, ha, sn, lt, q⟩ := h
    refine ⟨_, (pss_cons (ps_set (i := 1) sc_shown.nd rfl (Or.inr rfl) (pe_ix ix_tup (pv 0) pe_int (fun _ _ => rfl)))
      (pss_cons (ps_if (pt_val (pe_callN Fis_compare (hr.mono (by omega)) rfl (pa_cons (pv 0) pa_nil))) (pss_one (ps_ret (pe_callN Fshown_compare (hr.mono (by omega)) rfl (pa_cons (pv 1) (pa_cons (pe_ix ix_tup (pv 0) pe_int (fun _ _ => rfl)) pa_nil))))) pss_nil)
      (pss_cons (ps_if (pt_val (pe_callN Fjoins (hr.mono (by omega)) rfl (pa_cons (pv 0) pa_nil))) (pss_cons (ps_compset (iy := 2) sc_shown.nd rfl (Or.inl rfl) ["part", "word"] [none, some 1] rfl (pi_tup (pe_ix ix_tup (pv 0) pe_int (fun _ _ => rfl))) (fun _ _ _ _ _ _ => (pg_name (i := 0) (nd_ (l := ["part", "word"]) (by decide +kernel)) rfl (Or.inl rfl))) (fun _ _ _ _ _ _ => pf_nil) (fun _ _ _ _ _ _ => (pe_callN Fshown_part (hr.mono (by omega)) rfl (pa_cons (pv 1) (pa_cons (pv 0) pa_nil)))))
      (pss_one (ps_ret (pe_ifExp (pt_cmpR (op_eq) (pv 1) pe_str (nomark _)) (pe_bm PySem.F.plainAttrs_str PySem.F.slot_str_join PySem.F.type_str_join mt_join pe_str (pa_cons (pv 2) pa_nil)) (pe_bm PySem.F.plainAttrs_str PySem.F.slot_str_join PySem.F.type_str_join mt_join pe_str (pa_cons (pv 2) pa_nil)))))) pss_nil)
      (pss_cons (ps_if (pt_cmpR (op_eq) (pv 1) pe_str (nomark _)) (pss_one (ps_ret (pe_op (op_add_str) pe_str (pe_callN Fshown_part (hr.mono (by omega)) rfl (pa_cons (pv 1) (pa_cons (pe_ix ix_tup (pv 0) pe_int (fun _ _ => rfl)) pa_nil)))))) pss_nil)
      (pss_cons (ps_if (pt_val (pe_callN Fbinds (hr.mono (by omega)) rfl (pa_cons (pv 0) pa_nil))) (pss_cons (ps_set (i := 3) sc_shown.nd rfl (Or.inl rfl) (pe_ix ix_tup (pv 0) pe_int (fun _ _ => rfl)))
      (pss_one (ps_ret (pe_op (op_add_str) (pe_fstr (pj_fmt (pv 1) (pj_plain pe_str (pj_fmt (pv 3) (pj_plain pe_str pj_nil))))) (pe_callN Fshown (hr.mono (by omega)) rfl (pa_cons (pe_ix ix_tup (pv 0) pe_int (fun _ _ => rfl)) pa_nil)))))) pss_nil)
      (pss_one (ps_ret (pv 1)))))))), ?_⟩
    rcases sn with ⟨x, nm, sg, k, cx, hk, ln, rfl, rfl⟩ | ⟨s', u, su, rfl, rfl⟩ | ⟨ds, us, l40, als, rfl, rfl⟩ | ⟨ds, us, l40, als, rfl, rfl⟩ | ⟨x, nm, s', u, hx, su, rfl, rfl⟩
    · obtain ⟨ys, hz, al⟩ := dv_first ha
      cases al with
      | cons hf al2 =>
        cases al2
        obtain ⟨b, zs, rfl, hb, alz⟩ := dv_tup.mp hf
        refine ⟨_, rfl, a, _, _, _, rfl, rfl, SqT.of hz, at0, ?_⟩
        refine ⟨_, rfl, a, _, _, rfl, SqT.of hz, fun _ => ?_, fun c => absurd cx c⟩
        refine ⟨_, rfl, ?_⟩
        refine iteP rfl ?_
        exact ⟨_, rfl, _, rfl, a, _, _, _, rfl, rfl, SqT.of hz, at1, b, x, nm, sg, k, rfl, hf, hk, ln, cx, q⟩
    · rw [l_app] at lt
      have bl := (brk_len "not" s' u).1
      obtain ⟨ys, hz, al⟩ := dv_first ha
      obtain ⟨rest, es⟩ := sn_head su
      cases al with
      | cons hs al2 =>
        cases al2
        obtain ⟨b, _, eb, _⟩ := dv_tup.mp (show DV H (ofL (.str (headW s') :: rest)) _ from es ▸ hs)
        rw [eb] at hs hz
        refine ⟨_, rfl, a, _, _, _, rfl, rfl, SqT.of hz, at0, ?_⟩
        refine ⟨_, rfl, a, _, _, rfl, SqT.of hz, fun c => absurd c (not_cmp (.inr (.inr (.inl rfl)))), fun _ => ?_⟩
        refine ⟨_, rfl, ?_⟩
        refine iteF ?_
        refine ⟨_, rfl, a, _, _, rfl, SqT.of hz, fun H1 s1 c => absurd c (by decide), fun H1 s1 _ => ?_⟩
        refine ⟨_, rfl, ?_⟩
        refine iteF ?_
        refine ⟨_, rfl, rfl, _, rfl, ?_⟩
        refine iteP (decide_eq_true rfl) ?_
        refine ⟨_, rfl, _, rfl, a, _, _, _, rfl, rfl, SqT.of (s1 _ _ hz), at1, "not", b, s', u, rfl, .inr (.inr rfl), s1.dv hs, su, by omega, fun H2 s2 => ?_⟩
        exact ⟨_, _, rfl, rfl, big_line (by omega), q _ (s1.trans s2)⟩
    · skip
      have sub : ∀ (i : Nat) (h1 : i < ds.length) (h2 : i < us.length), us[i].length ≤ 70000 := fun i h1 h2 => by
        have m : brk "both" ds[i] us[i] ∈ List.zipWith (brk "both") ds us := by
          refine List.mem_iff_getElem.mpr ⟨i, by rw [List.length_zipWith]; omega, by rw [List.getElem_zipWith]⟩
        have h3 := join_mem (sep := " and ") m
        have h4 := (brk_len "both" ds[i] us[i]).1
        omega
      obtain ⟨ys, hz, al⟩ := dv_first ha
      cases al with
      | cons hp al2 =>
        cases al2
        obtain ⟨b, zs, rfl, hb, alz⟩ := dv_tup.mp hp
        have lz := alz.length
        have lu := als.length
        refine ⟨_, rfl, a, _, _, _, rfl, rfl, SqT.of hz, at0, ?_⟩
        refine ⟨_, rfl, a, _, _, rfl, SqT.of hz, fun c => absurd c (not_cmp (.inl rfl)), fun _ => ?_⟩
        refine ⟨_, rfl, ?_⟩
        refine iteF ?_
        refine ⟨_, rfl, a, _, _, rfl, SqT.of hz, fun H1 s1 _ => ?_, fun H1 s1 c => absurd (.inl rfl) c⟩
        refine ⟨_, rfl, ?_⟩
        refine iteP rfl ?_
        refine ⟨_, rfl, a, _, _, _, rfl, rfl, SqT.of (s1 _ _ hz), at1, b, rfl, ⟨_, SqT.of (s1 _ _ hb)⟩, fun D hD => comp_tupY (xs := zs) (fun i τ H4 => ∃ x1 : Option V, τ = [x1, some (.str "both")] ∧ New H1 H4 D (.lst ((List.zipWith (brk "both") (ds.take i) (us.take i)).map V.str))) ?_ ?_ ?_ ?_⟩
        · exact ⟨_, rfl, New.mk hD⟩
        · rintro i τ H4 _ ⟨x1, rfl, N⟩
          exact SqT.of (N.1 _ _ (s1 _ _ hb))
        · rintro i x τ H4 hx ⟨x1, rfl, N⟩
          obtain ⟨hi, rfl⟩ := List.getElem?_eq_some_iff.mp hx
          have h1 : i < ds.length := by omega
          have h2 : i < us.length := by omega
          have si := als.get i h1 h2
          obtain ⟨rest, ei⟩ := sn_head si
          have di := alz.get i h1 hi
          obtain ⟨bi, _, ebi, _⟩ := dv_tup.mp (show DV H (ofL (.str (headW ds[i]) :: rest)) zs[i] from ei ▸ di)
          rw [ebi] at di
          rw [ebi]
          refine ⟨_, rfl, _, rfl, "both", bi, ds[i], us[i], rfl, .inr (.inl rfl), (s1.trans N.1).dv di, si, sub i h1 h2, fun H5 s5 => ?_⟩
          refine ⟨_, s5 _ _ N.2.2, small1000 (by rw [List.length_map, List.length_zipWith, List.length_take, List.length_take]; omega), _, rfl, ?_⟩
          rw [zw_snoc h1 h2, List.map_append]
          exact N.set s5
        · rintro τ H4 ⟨x1, rfl, N⟩
          rw [← lz, List.take_length, lu, List.take_length] at N
          refine ⟨_, rfl, rfl, _, rfl, ?_⟩
          refine iteP (decide_eq_true rfl) ?_
          refine ⟨rfl, _, rfl, _, D, _, rfl, rfl, N.2.2, join_ok (by decide) (by rw [List.length_zipWith]; omega) (fun y hy => ?_), q _ (s1.trans N.1)⟩
          have := join_mem (sep := " and ") hy
          omega
    · skip
      have sub : ∀ (i : Nat) (h1 : i < ds.length) (h2 : i < us.length), us[i].length ≤ 70000 := fun i h1 h2 => by
        have m : brk "either" ds[i] us[i] ∈ List.zipWith (brk "either") ds us := by
          refine List.mem_iff_getElem.mpr ⟨i, by rw [List.length_zipWith]; omega, by rw [List.getElem_zipWith]⟩
        have h3 := join_mem (sep := " or ") m
        have h4 := (brk_len "either" ds[i] us[i]).1
        omega
      obtain ⟨ys, hz, al⟩ := dv_first ha
      cases al with
      | cons hp al2 =>
        cases al2
        obtain ⟨b, zs, rfl, hb, alz⟩ := dv_tup.mp hp
        have lz := alz.length
        have lu := als.length
        refine ⟨_, rfl, a, _, _, _, rfl, rfl, SqT.of hz, at0, ?_⟩
        refine ⟨_, rfl, a, _, _, rfl, SqT.of hz, fun c => absurd c (not_cmp (.inr (.inl rfl))), fun _ => ?_⟩
        refine ⟨_, rfl, ?_⟩
        refine iteF ?_
        refine ⟨_, rfl, a, _, _, rfl, SqT.of hz, fun H1 s1 _ => ?_, fun H1 s1 c => absurd (.inr rfl) c⟩
        refine ⟨_, rfl, ?_⟩
        refine iteP rfl ?_
        refine ⟨_, rfl, a, _, _, _, rfl, rfl, SqT.of (s1 _ _ hz), at1, b, rfl, ⟨_, SqT.of (s1 _ _ hb)⟩, fun D hD => comp_tupY (xs := zs) (fun i τ H4 => ∃ x1 : Option V, τ = [x1, some (.str "either")] ∧ New H1 H4 D (.lst ((List.zipWith (brk "either") (ds.take i) (us.take i)).map V.str))) ?_ ?_ ?_ ?_⟩
        · exact ⟨_, rfl, New.mk hD⟩
        · rintro i τ H4 _ ⟨x1, rfl, N⟩
          exact SqT.of (N.1 _ _ (s1 _ _ hb))
        · rintro i x τ H4 hx ⟨x1, rfl, N⟩
          obtain ⟨hi, rfl⟩ := List.getElem?_eq_some_iff.mp hx
          have h1 : i < ds.length := by omega
          have h2 : i < us.length := by omega
          have si := als.get i h1 h2
          obtain ⟨rest, ei⟩ := sn_head si
          have di := alz.get i h1 hi
          obtain ⟨bi, _, ebi, _⟩ := dv_tup.mp (show DV H (ofL (.str (headW ds[i]) :: rest)) zs[i] from ei ▸ di)
          rw [ebi] at di
          rw [ebi]
          refine ⟨_, rfl, _, rfl, "either", bi, ds[i], us[i], rfl, .inl rfl, (s1.trans N.1).dv di, si, sub i h1 h2, fun H5 s5 => ?_⟩
          refine ⟨_, s5 _ _ N.2.2, small1000 (by rw [List.length_map, List.length_zipWith, List.length_take, List.length_take]; omega), _, rfl, ?_⟩
          rw [zw_snoc h1 h2, List.map_append]
          exact N.set s5
        · rintro τ H4 ⟨x1, rfl, N⟩
          rw [← lz, List.take_length, lu, List.take_length] at N
          refine ⟨_, rfl, rfl, _, rfl, ?_⟩
          refine ite2 (fun z => absurd (V.str.inj (of_decide_eq_true z)) (by decide)) (fun _ => ?_)
          refine ⟨rfl, _, rfl, _, D, _, rfl, rfl, N.2.2, join_ok (by decide) (by rw [List.length_zipWith]; omega) (fun y hy => ?_), q _ (s1.trans N.1)⟩
          have := join_mem (sep := " or ") hy
          omega
    · rw [l_app, l_app, l_app, l_app] at lt
      have e1 : (Str.ofString " ").length = 1 := rfl
      have e2 : (Str.ofString ": ").length = 2 := rfl
      have ex : x.length ≤ 4 := by rcases hx with rfl | rfl <;> decide
      have hx' : x = "both" ∨ x = "either" ∨ x = "not" ∨ x = "some" ∨ x = "all" := .inr (.inr (.inr hx))
      obtain ⟨ys, hz, al⟩ := dv_first ha
      obtain ⟨rest, es⟩ := sn_head su
      cases al with
      | cons hn al2 =>
        cases al2 with
        | cons hs al3 =>
          cases al3
          rename_i zn zs
          obtain rfl : zn = .str nm := by simpa only [DV] using hn
          obtain ⟨b, _, eb, _⟩ := dv_tup.mp (show DV H (ofL (.str (headW s') :: rest)) _ from es ▸ hs)
          rw [eb] at hs hz
          refine ⟨_, rfl, a, _, _, _, rfl, rfl, SqT.of hz, at0, ?_⟩
          refine ⟨_, rfl, a, _, _, rfl, SqT.of hz, fun c => absurd c (not_cmp hx'), fun _ => ?_⟩
          refine ⟨_, rfl, ?_⟩
          refine iteF ?_
          refine ⟨_, rfl, a, _, _, rfl, SqT.of hz, fun H1 s1 c => absurd c (by rcases hx with rfl | rfl <;> decide), fun H1 s1 _ => ?_⟩
          refine ⟨_, rfl, ?_⟩
          refine iteF ?_
          refine ⟨_, rfl, rfl, _, rfl, ?_⟩
          refine ite2 (fun z => absurd (V.str.inj (of_decide_eq_true z)) (by rcases hx with rfl | rfl <;> decide)) (fun _ => ?_)
          refine ⟨_, rfl, a, _, _, rfl, SqT.of (s1 _ _ hz), fun H2 s2 _ => ?_, fun H2 s2 c => absurd hx c⟩
          have S2 := s1.trans s2
          refine ⟨_, rfl, ?_⟩
          refine iteP rfl ?_
          refine ⟨_, rfl, a, _, _, _, rfl, rfl, SqT.of (S2 _ _ hz), at1, ?_⟩
          refine ⟨_, rfl, x, rfl, big_line (by omega), big_line (by rw [e_app]; omega), _, rfl, by decide, big_line (by rw [l_app, e_app]; omega), _, rfl, nm, rfl, big_line (by omega), big_line (by rw [l_app, l_app, e_app]; omega), _, rfl, by decide, big_line (by rw [l_app, l_app, l_app, e_app]; omega), big_line (by rw [l_app, l_app, l_app, e_app]; omega), ?_⟩
          refine ⟨_, rfl, a, _, _, _, rfl, rfl, SqT.of (S2 _ _ hz), at2, b, s', u, rfl, S2.dv hs, su, by omega, fun H3 s3 => ?_⟩
          rw [e_app]
          exact ⟨_, _, rfl, rfl, big_line (by rw [l_app, l_app, l_app]; omega), q _ (S2.trans s3)⟩
theorem sc_shown_part : FnScope ["word", "part", "text"] ["word", "part"] (defScope st_shown_part) := ⟨rfl, rfl, rfl, by decide +kernel, rfl, by decide +kernel, by decide +kernel⟩
set_option maxHeartbeats 4000000 in
theorem ok_shown_part (h : Has K mg "shown_part" st_shown_part ["word", "part"]) (B : Bl mg) {n lv : Nat} (big : 0 ≤ lv){aS aB aO : Addr} (L : Cons P w K mg aS aB aO) (Fshown : Ok P w K mg base (lv + 0) "shown" ["S"] (sp_shown K n)) : Ok P w K mg base (lv + 1) "shown_part" ["word", "part"] (sp_shown_part K n) := by
  refine h.fn sc_shown_part (fun vs H Q E h => ?_) (fun f cdv A outer s H vs Q E hr h => ?_)
  · obtain ⟨o, a, d, u, rfl, _⟩ := h
    rfl
  · have hu16 := hu16_of hr
    have hu9 := hu9_of hr
    obtain ⟨o, a, d, u, rfl, ho, ha, sn, lu, q⟩ := h
    obtain ⟨rest, ed⟩ := sn_head sn
    obtain ⟨b1, b2, b3, kd, k1, k2, k3⟩ := L.kB
    refine ⟨_, (pss_cons (ps_set (i := 2) sc_shown_part.nd rfl (Or.inl rfl) (pe_callN Fshown (hr.mono (by omega)) rfl (pa_cons (pv 1) pa_nil)))
      (pss_one (ps_ret (pe_ifExp (pt_cmpR (op_in_seq) (pe_ix ix_tup (pv 1) pe_int (fun _ _ => rfl)) (pe_dgetK (pe_glob (v := .ref _) rfl L.c_IN_BRACKETS rfl) (pv 0) (fun _ _ => rfl)) (by with_unfolding_all rfl)) (pe_fstr (pj_plain pe_str (pj_fmt (pv 2) (pj_plain pe_str pj_nil)))) (pv 2))))), ?_⟩
    refine ⟨_, rfl, a, d, u, rfl, ha, sn, lu, fun H1 s1 => ?_⟩
    obtain ⟨ys, hy, _⟩ := dv_first (ed ▸ ha)
    have hy1 := s1 _ _ hy
    have fin : ∀ c : Bool, c = inBr o (headW d) → (if c = true then (tFs (tJ (tC (V.str (Str.ofString "("))) (tJ (tVar 2) (tJ (tC (V.str (Str.ofString ")"))) tJn)))) [some (.str o), some (.ref a), some (.str u)] H1 Q else tVar 2 [some (.str o), some (.ref a), some (.str u)] H1 Q) := fun c ec => by
      have e : brk o d u = if c = true then ("(" : Str) ++ u ++ (")" : Str) else u := by rw [ec]; rfl
      refine ite2 (fun z => ?_) (fun z => ?_)
      · rw [if_pos z] at e
        refine ⟨_, rfl, by decide, by decide, _, rfl, u, rfl, big_line (by omega), big_line (by rw [l_app, e_app]; show 1 + _ ≤ _; omega), _, rfl, by decide, big_line (by rw [l_app, l_app, e_app]; show 1 + _ + 1 ≤ _; omega), big_line (by rw [l_app, l_app, e_app]; show 1 + _ + 1 ≤ _; omega), ?_⟩
        rw [e_app, ← e]
        exact q H1 s1
      · rw [if_neg z] at e
        rw [e] at q
        exact ⟨_, rfl, q H1 s1⟩
    refine ⟨_, rfl, a, _, _, _, rfl, rfl, SqT.of hy1, at0, ?_⟩
    rcases ho with rfl | rfl | rfl
    · refine ⟨_, rfl, aB, _, .inr "either", _, rfl, kd, rfl, rfl, b1, _, rfl, .inr (k1 _), rfl, rfl, _, rfl, ?_⟩
      exact fin _ ((inV3 _ _ _ _).trans (by unfold inBr; rw [if_pos rfl]))
    · refine ⟨_, rfl, aB, _, .inr "both", _, rfl, kd, rfl, rfl, b2, _, rfl, .inr (k2 _), rfl, rfl, _, rfl, ?_⟩
      exact fin _ ((inV4 _ _ _ _ _).trans (by unfold inBr; rw [if_neg (by decide)]))
    · refine ⟨_, rfl, aB, _, .inr "not", _, rfl, kd, rfl, rfl, b3, _, rfl, .inr (k3 _), rfl, rfl, _, rfl, ?_⟩
      exact fin _ ((inV4 _ _ _ _ _).trans (by unfold inBr; rw [if_neg (by decide)]))
theorem sc_law : FnScope ["_law_script", "_law_sentence", "_law_found"] ["_law_script"] (defScope st_law) := ⟨rfl, rfl, rfl, by decide +kernel, rfl, by decide +kernel, by decide +kernel⟩
set_option maxHeartbeats 4000000 in
theorem ok_law {f : Addr} {fd : FuncData} (h : Fun K "law" "law" st_law f fd) (B : Bl mg){aS : Addr} (F_law_built : Ok P w K mg base 3 "_law_built" ["_law_script", "_law_most"] (sp__law_built K)) (F_law_text : Ok P w K mg base 30 "_law_text" ["_law_sentence", "_law_beside"] (sp__law_text K 10)) (Fshown : Ok P w K mg base 30 "shown" ["S"] (sp_shown K 10)) : FnOk P w K mg base CX0 31 f fd ["_law_script"] (spLaw K) := by
  refine h.ok sc_law (fun vs H Q E h => ?_) (fun cdv A outer s H vs Q E hr h => ?_)
  · obtain ⟨a, ns, rfl, _⟩ := h
    rfl
  · have hu16 := hu16_of hr
    have hu9 := hu9_of hr
    obtain ⟨a, ns, rfl, hS, hl, hb, q⟩ := h
    refine ⟨_, (pss_cons (ps_set (i := 1) sc_law.nd rfl (Or.inl rfl) (pe_callN F_law_built (hr.mono (by decide)) rfl (pa_cons (pv 0) (pa_cons pe_int pa_nil))))
      (pss_cons (ps_set (i := 2) sc_law.nd rfl (Or.inl rfl) (pe_callN Fshown (hr.mono (by decide)) rfl (pa_cons (pv 1) pa_nil)))
      (pss_one (ps_ret (pe_and (pe_callB (call_isinst) rfl B.isinstance_ bt_isinstance (pa_cons (pv 2) (pa_cons (pe_bltn (v := .ty "str") rfl B.str_ bt_str rfl) pa_nil))) (pe_one (pe_cmpR (op_eq) (pv 2) (pe_callN F_law_text (hr.mono (by decide)) rfl (pa_cons (pv 1) (pa_cons pe_str pa_nil))) (nomark _)))))))), ?_⟩
    refine ⟨_, rfl, a, ns, rfl, hS, fun b d t H1 s1 dv sn lt => ?_⟩
    refine ⟨_, rfl, b, d, t, rfl, dv, sn, lt, fun H2 s2 => ?_⟩
    refine ⟨_, rfl, _, _, _, _, rfl, .str t, kit_ss _, true, rfl, ?_⟩
    refine iteP rfl ?_
    refine ⟨_, rfl, _, rfl, b, "", d, t, rfl, s2.dv dv, sn, lt, by decide, fun H3 s3 => ?_⟩
    rw [lbr_e]
    refine ⟨rfl, ?_⟩
    rw [decide_eq_true (rfl : V.str t = V.str t)]
    exact q _
theorem top_shown {aS aB aO : Addr} (hs : Has K mg "shown" st_shown ["S"]) (hp : Has K mg "shown_part" st_shown_part ["word", "part"]) (B : Bl mg) (L : Cons P w K mg aS aB aO) (F1 : Ok P w K mg base 1 "binds" ["S"] (sp_binds K)) (F2 : Ok P w K mg base 1 "is_compare" ["S"] (sp_is_compare K)) (F3 : Ok P w K mg base 1 "joins" ["S"] (sp_joins K)) (F4 : Ok P w K mg base 4 "shown_compare" ["word", "F"] (sp_shown_compare K)) :
    Ok P w K mg base 30 "shown" ["S"] (sp_shown K 10) := by
  have all : ∀ n : Nat, Ok P w K mg base (10 + 2 * n) "shown" ["S"] (sp_shown K n) := fun n => by
    induction n with
    | zero =>
      refine hs.fn (k := 9) sc_shown (fun vs H Q E h => ?_) (fun f cdv A outer s H vs Q E hr h => ?_)
      · obtain ⟨_, _, _, _, _, z, _⟩ := h
        exact z.elim
      · obtain ⟨_, _, _, _, _, z, _⟩ := h
        exact z.elim
    | succ n ih => exact ok_shown (n := n) (lv := 10 + 2 * n) hs B (by omega) L F1 F2 F3 F4 ih (ok_shown_part (n := n) (lv := 10 + 2 * n) hp B (by omega) L ih)
  exact all 10
theorem top_text {aS : Addr} (hs : Has K mg "_law_text" st__law_text ["_law_sentence", "_law_beside"]) (B : Bl mg) (F1 : Ok P w K mg base 1 "_law_compare" ["_law_sentence"] (sp__law_compare K)) : Ok P w K mg base 30 "_law_text" ["_law_sentence", "_law_beside"] (sp__law_text K 10) := by
  have all : ∀ n : Nat, Ok P w K mg base (20 + n) "_law_text" ["_law_sentence", "_law_beside"] (sp__law_text K n) := fun n => by
    induction n with
    | zero =>
      refine hs.fn (k := 19) sc__law_text (fun vs H Q E h => ?_) (fun f cdv A outer s H vs Q E hr h => ?_)
      · obtain ⟨_, _, _, _, _, _, z, _⟩ := h
        exact z.elim
      · obtain ⟨_, _, _, _, _, _, z, _⟩ := h
        exact z.elim
    | succ n ih => exact ok__law_text (aS := aS) (n := n) (lv := 20 + n) hs B (by omega) F1 ih
  exact all 10
theorem all_ok {f : Addr} {fd : FuncData} {aS aB aO : Addr} (L : Cons P w K mg aS aB aO) (h0 : Has K mg "_law_cell" st__law_cell ["_law_script", "_law_k"]) (h1 : Has K mg "_law_folded" st__law_folded ["_law_word", "_law_parts"]) (h2 : Has K mg "_law_leaf" st__law_leaf ["_law_cell_here", "_law_names_here"]) (h3 : Has K mg "_law_any_names" st__law_any_names ["_law_rest", "_law_many"]) (h4 : Has K mg "_law_names" st__law_names ["_law_cell_here"]) (h5 : Has K mg "_law_step" st__law_step ["_law_built_here", "_law_cell_here", "_law_names_here"]) (h6 : Has K mg "_law_built" st__law_built ["_law_script", "_law_most"]) (h7 : Has K mg "_law_compare" st__law_compare ["_law_sentence"]) (h8 : Has K mg "_law_text" st__law_text ["_law_sentence", "_law_beside"]) (h9 : Has K mg "binds" st_binds ["S"]) (h10 : Has K mg "is_compare" st_is_compare ["S"]) (h11 : Has K mg "joins" st_joins ["S"]) (h12 : Has K mg "shown_power" st_shown_power ["name", "power"]) (h13 : Has K mg "shown_amount" st_shown_amount ["product", "number"]) (h14 : Has K mg "shown_form" st_shown_form ["F"]) (h15 : Has K mg "shown_compare" st_shown_compare ["word", "F"]) (h16 : Has K mg "shown" st_shown ["S"]) (h17 : Has K mg "shown_part" st_shown_part ["word", "part"]) (hl : Fun K "law" "law" st_law f fd) (B : Bl mg) : FnOk P w K mg base CX0 31 f fd ["_law_script"] (spLaw K) := by
  have F_law_cell := ok__law_cell (P := P) (w := w) (base := base) (aS := aS) h0 B
  have F_law_folded := ok__law_folded (P := P) (w := w) (base := base) (aS := aS) h1 B
  have F_law_leaf := ok__law_leaf (P := P) (w := w) (base := base) (aS := aS) h2 B
  have F_law_any_names := ok__law_any_names (P := P) (w := w) (base := base) (aS := aS) h3 B
  have F_law_names := ok__law_names (P := P) (w := w) (base := base) (aS := aS) h4 B F_law_any_names
  have F_law_step := ok__law_step (P := P) (w := w) (base := base) (aS := aS) h5 B F_law_folded F_law_leaf
  have F_law_built := ok__law_built (P := P) (w := w) (base := base) (aS := aS) h6 B F_law_cell F_law_folded F_law_leaf F_law_names F_law_step
  have F_law_compare := ok__law_compare (P := P) (w := w) (base := base) (aS := aS) h7 B
  have F_law_text := (top_text (P := P) (w := w) (base := base) (aS := aS) h8 B F_law_compare)
  have Fbinds := ok_binds (P := P) (w := w) (base := base) (aS := aS) h9 B
  have Fis_compare := ok_is_compare (P := P) (w := w) (base := base) (aS := aS) h10 B L
  have Fjoins := ok_joins (P := P) (w := w) (base := base) (aS := aS) h11 B
  have Fshown_power := ok_shown_power (P := P) (w := w) (base := base) (aS := aS) h12 B
  have Fshown_amount := ok_shown_amount (P := P) (w := w) (base := base) (aS := aS) h13 B Fshown_power
  have Fshown_form := ok_shown_form (P := P) (w := w) (base := base) (aS := aS) h14 B Fshown_amount
  have Fshown_compare := ok_shown_compare (P := P) (w := w) (base := base) (aS := aS) h15 B L Fshown_form
  have Fshown := (top_shown (P := P) (w := w) (base := base) h16 h17 B L Fbinds Fis_compare Fjoins Fshown_compare)
  have Fshown_part := (ok_shown_part (P := P) (w := w) (base := base) (n := 10) (lv := 30) h17 B (by decide) L Fshown)
  exact ok_law (aS := aS) hl B F_law_built F_law_text Fshown
end
set_option maxHeartbeats 4000000 in
theorem all_mk {l : PySem.W.OpenLaw} {w : World} {K : PySem.W.Frag} {h : Heap} {mg : Str → Option Value} {fa f0 f1 f2 f3 f4 f5 f6 f7 f8 f9 f10 f11 f12 f13 f14 f15 f16 f17 f18 : Addr} (X : K.In h) (G : h.Ns mainGlobals mg) (hfa : mg "law" = some (.ref fa))
    {od0 an0 od1 an1 od2 an2 od3 an3 od4 an4 od5 an5 od6 an6 od7 an7 od8 an8 od9 an9 od10 an10 od11 an11 od12 an12 od13 an13 od14 an14 od15 an15 od16 an16 od17 an17 od18 an18 : Option Addr} {sl0 sl1 sl2 sl3 sl4 sl5 sl6 sl7 sl8 sl9 sl10 sl11 sl12 sl13 sl14 sl15 sl16 sl17 sl18 : Array (Option Value)} {oc0 kV0 dc0 pm0 cd0 ct0 oc1 kV1 dc1 pm1 cd1 ct1 oc2 kV2 dc2 pm2 cd2 ct2 oc3 kV3 dc3 pm3 cd3 ct3 oc4 kV4 dc4 pm4 cd4 ct4 oc5 kV5 dc5 pm5 cd5 ct5 oc6 kV6 dc6 pm6 cd6 ct6 oc7 kV7 dc7 pm7 cd7 ct7 oc8 kV8 dc8 pm8 cd8 ct8 oc9 kV9 dc9 pm9 cd9 ct9 oc10 kV10 dc10 pm10 cd10 ct10 oc11 kV11 dc11 pm11 cd11 ct11 oc12 kV12 dc12 pm12 cd12 ct12 oc13 kV13 dc13 pm13 cd13 ct13 oc14 kV14 dc14 pm14 cd14 ct14 oc15 kV15 dc15 pm15 cd15 ct15 oc16 kV16 dc16 pm16 cd16 ct16 oc17 kV17 dc17 pm17 cd17 ct17 oc18 kV18 dc18 pm18 cd18 ct18 : Value}
    (a0 : PySem.W.nsIn K mainGlobals "_law_cell" = some (some (.ref f0))) (l0 : K.lookup f0 = some ⟨oc0, od0, .func (PySem.W.fnOf "_law_cell" "_law_cell" (defArgs st__law_cell) (defBody st__law_cell) (defScope st__law_cell) .none kV0 dc0 pm0 an0 cd0 ct0), sl0⟩) (c0 : PySem.W.codeIn K cd0 "_law_cell" = true) (k0 : PySem.W.keepIn K (.ref f0) = true)
    (a1 : PySem.W.nsIn K mainGlobals "_law_folded" = some (some (.ref f1))) (l1 : K.lookup f1 = some ⟨oc1, od1, .func (PySem.W.fnOf "_law_folded" "_law_folded" (defArgs st__law_folded) (defBody st__law_folded) (defScope st__law_folded) .none kV1 dc1 pm1 an1 cd1 ct1), sl1⟩) (c1 : PySem.W.codeIn K cd1 "_law_folded" = true) (k1 : PySem.W.keepIn K (.ref f1) = true)
    (a2 : PySem.W.nsIn K mainGlobals "_law_leaf" = some (some (.ref f2))) (l2 : K.lookup f2 = some ⟨oc2, od2, .func (PySem.W.fnOf "_law_leaf" "_law_leaf" (defArgs st__law_leaf) (defBody st__law_leaf) (defScope st__law_leaf) .none kV2 dc2 pm2 an2 cd2 ct2), sl2⟩) (c2 : PySem.W.codeIn K cd2 "_law_leaf" = true) (k2 : PySem.W.keepIn K (.ref f2) = true)
    (a3 : PySem.W.nsIn K mainGlobals "_law_any_names" = some (some (.ref f3))) (l3 : K.lookup f3 = some ⟨oc3, od3, .func (PySem.W.fnOf "_law_any_names" "_law_any_names" (defArgs st__law_any_names) (defBody st__law_any_names) (defScope st__law_any_names) .none kV3 dc3 pm3 an3 cd3 ct3), sl3⟩) (c3 : PySem.W.codeIn K cd3 "_law_any_names" = true) (k3 : PySem.W.keepIn K (.ref f3) = true)
    (a4 : PySem.W.nsIn K mainGlobals "_law_names" = some (some (.ref f4))) (l4 : K.lookup f4 = some ⟨oc4, od4, .func (PySem.W.fnOf "_law_names" "_law_names" (defArgs st__law_names) (defBody st__law_names) (defScope st__law_names) .none kV4 dc4 pm4 an4 cd4 ct4), sl4⟩) (c4 : PySem.W.codeIn K cd4 "_law_names" = true) (k4 : PySem.W.keepIn K (.ref f4) = true)
    (a5 : PySem.W.nsIn K mainGlobals "_law_step" = some (some (.ref f5))) (l5 : K.lookup f5 = some ⟨oc5, od5, .func (PySem.W.fnOf "_law_step" "_law_step" (defArgs st__law_step) (defBody st__law_step) (defScope st__law_step) .none kV5 dc5 pm5 an5 cd5 ct5), sl5⟩) (c5 : PySem.W.codeIn K cd5 "_law_step" = true) (k5 : PySem.W.keepIn K (.ref f5) = true)
    (a6 : PySem.W.nsIn K mainGlobals "_law_built" = some (some (.ref f6))) (l6 : K.lookup f6 = some ⟨oc6, od6, .func (PySem.W.fnOf "_law_built" "_law_built" (defArgs st__law_built) (defBody st__law_built) (defScope st__law_built) .none kV6 dc6 pm6 an6 cd6 ct6), sl6⟩) (c6 : PySem.W.codeIn K cd6 "_law_built" = true) (k6 : PySem.W.keepIn K (.ref f6) = true)
    (a7 : PySem.W.nsIn K mainGlobals "_law_compare" = some (some (.ref f7))) (l7 : K.lookup f7 = some ⟨oc7, od7, .func (PySem.W.fnOf "_law_compare" "_law_compare" (defArgs st__law_compare) (defBody st__law_compare) (defScope st__law_compare) .none kV7 dc7 pm7 an7 cd7 ct7), sl7⟩) (c7 : PySem.W.codeIn K cd7 "_law_compare" = true) (k7 : PySem.W.keepIn K (.ref f7) = true)
    (a8 : PySem.W.nsIn K mainGlobals "_law_text" = some (some (.ref f8))) (l8 : K.lookup f8 = some ⟨oc8, od8, .func (PySem.W.fnOf "_law_text" "_law_text" (defArgs st__law_text) (defBody st__law_text) (defScope st__law_text) .none kV8 dc8 pm8 an8 cd8 ct8), sl8⟩) (c8 : PySem.W.codeIn K cd8 "_law_text" = true) (k8 : PySem.W.keepIn K (.ref f8) = true)
    (a9 : PySem.W.nsIn K mainGlobals "binds" = some (some (.ref f9))) (l9 : K.lookup f9 = some ⟨oc9, od9, .func (PySem.W.fnOf "binds" "binds" (defArgs st_binds) (defBody st_binds) (defScope st_binds) .none kV9 dc9 pm9 an9 cd9 ct9), sl9⟩) (c9 : PySem.W.codeIn K cd9 "binds" = true) (k9 : PySem.W.keepIn K (.ref f9) = true)
    (a10 : PySem.W.nsIn K mainGlobals "is_compare" = some (some (.ref f10))) (l10 : K.lookup f10 = some ⟨oc10, od10, .func (PySem.W.fnOf "is_compare" "is_compare" (defArgs st_is_compare) (defBody st_is_compare) (defScope st_is_compare) .none kV10 dc10 pm10 an10 cd10 ct10), sl10⟩) (c10 : PySem.W.codeIn K cd10 "is_compare" = true) (k10 : PySem.W.keepIn K (.ref f10) = true)
    (a11 : PySem.W.nsIn K mainGlobals "joins" = some (some (.ref f11))) (l11 : K.lookup f11 = some ⟨oc11, od11, .func (PySem.W.fnOf "joins" "joins" (defArgs st_joins) (defBody st_joins) (defScope st_joins) .none kV11 dc11 pm11 an11 cd11 ct11), sl11⟩) (c11 : PySem.W.codeIn K cd11 "joins" = true) (k11 : PySem.W.keepIn K (.ref f11) = true)
    (a12 : PySem.W.nsIn K mainGlobals "shown_power" = some (some (.ref f12))) (l12 : K.lookup f12 = some ⟨oc12, od12, .func (PySem.W.fnOf "shown_power" "shown_power" (defArgs st_shown_power) (defBody st_shown_power) (defScope st_shown_power) .none kV12 dc12 pm12 an12 cd12 ct12), sl12⟩) (c12 : PySem.W.codeIn K cd12 "shown_power" = true) (k12 : PySem.W.keepIn K (.ref f12) = true)
    (a13 : PySem.W.nsIn K mainGlobals "shown_amount" = some (some (.ref f13))) (l13 : K.lookup f13 = some ⟨oc13, od13, .func (PySem.W.fnOf "shown_amount" "shown_amount" (defArgs st_shown_amount) (defBody st_shown_amount) (defScope st_shown_amount) .none kV13 dc13 pm13 an13 cd13 ct13), sl13⟩) (c13 : PySem.W.codeIn K cd13 "shown_amount" = true) (k13 : PySem.W.keepIn K (.ref f13) = true)
    (a14 : PySem.W.nsIn K mainGlobals "shown_form" = some (some (.ref f14))) (l14 : K.lookup f14 = some ⟨oc14, od14, .func (PySem.W.fnOf "shown_form" "shown_form" (defArgs st_shown_form) (defBody st_shown_form) (defScope st_shown_form) .none kV14 dc14 pm14 an14 cd14 ct14), sl14⟩) (c14 : PySem.W.codeIn K cd14 "shown_form" = true) (k14 : PySem.W.keepIn K (.ref f14) = true)
    (a15 : PySem.W.nsIn K mainGlobals "shown_compare" = some (some (.ref f15))) (l15 : K.lookup f15 = some ⟨oc15, od15, .func (PySem.W.fnOf "shown_compare" "shown_compare" (defArgs st_shown_compare) (defBody st_shown_compare) (defScope st_shown_compare) .none kV15 dc15 pm15 an15 cd15 ct15), sl15⟩) (c15 : PySem.W.codeIn K cd15 "shown_compare" = true) (k15 : PySem.W.keepIn K (.ref f15) = true)
    (a16 : PySem.W.nsIn K mainGlobals "shown" = some (some (.ref f16))) (l16 : K.lookup f16 = some ⟨oc16, od16, .func (PySem.W.fnOf "shown" "shown" (defArgs st_shown) (defBody st_shown) (defScope st_shown) .none kV16 dc16 pm16 an16 cd16 ct16), sl16⟩) (c16 : PySem.W.codeIn K cd16 "shown" = true) (k16 : PySem.W.keepIn K (.ref f16) = true)
    (a17 : PySem.W.nsIn K mainGlobals "shown_part" = some (some (.ref f17))) (l17 : K.lookup f17 = some ⟨oc17, od17, .func (PySem.W.fnOf "shown_part" "shown_part" (defArgs st_shown_part) (defBody st_shown_part) (defScope st_shown_part) .none kV17 dc17 pm17 an17 cd17 ct17), sl17⟩) (c17 : PySem.W.codeIn K cd17 "shown_part" = true) (k17 : PySem.W.keepIn K (.ref f17) = true)
    (a18 : PySem.W.nsIn K mainGlobals "law" = some (some (.ref f18))) (l18 : K.lookup f18 = some ⟨oc18, od18, .func (PySem.W.fnOf "law" "law" (defArgs st_law) (defBody st_law) (defScope st_law) .none kV18 dc18 pm18 an18 cd18 ct18), sl18⟩) (c18 : PySem.W.codeIn K cd18 "law" = true) (k18 : PySem.W.keepIn K (.ref f18) = true)
    (z0 : PySem.W.nsIn K mainGlobals "len" = some none)
    (z1 : PySem.W.nsIn K mainGlobals "max" = some none)
    (z2 : PySem.W.nsIn K mainGlobals "min" = some none)
    (z3 : PySem.W.nsIn K mainGlobals "isinstance" = some none)
    (z4 : PySem.W.nsIn K mainGlobals "int" = some none)
    (z5 : PySem.W.nsIn K mainGlobals "bool" = some none)
    (z6 : PySem.W.nsIn K mainGlobals "range" = some none)
    (z7 : PySem.W.nsIn K mainGlobals "sorted" = some none)
    (z8 : PySem.W.nsIn K mainGlobals "tuple" = some none)
    (z9 : PySem.W.nsIn K mainGlobals "list" = some none)
    (z10 : PySem.W.nsIn K mainGlobals "str" = some none)
    (z11 : PySem.W.nsIn K mainGlobals "dict" = some none)
    (z12 : PySem.W.nsIn K mainGlobals "abs" = some none)
    (z13 : PySem.W.nsIn K mainGlobals "enumerate" = some none)
    (z14 : PySem.W.nsIn K mainGlobals "reversed" = some none)
    (z15 : PySem.W.nsIn K mainGlobals "any" = some none)
    (z16 : PySem.W.nsIn K mainGlobals "all" = some none)
    (z17 : PySem.W.nsIn K mainGlobals "sum" = some none)
    (z18 : PySem.W.nsIn K mainGlobals "zip" = some none)
    {aS aB aO b1 b2 b3 : Addr} {hS0 hS1 hS2 hS3 hB0 hB1 hB2 hO0 hO1 hO2 hO3 : Int} {tS0 tS1 tS2 tS3 uS0 uS1 uS2 uS3 tB0 tB1 tB2 tO0 tO1 tO2 tO3 r0 r1 r2 r3 r4 r5 r6 r7 r8 r9 r10 : Tok} {w0 w1 w2 w3 : Addr} {epS epB epO n1 n2 n3 : Nat} {o1 o2 o3 : Option Addr} {s1 s2 s3 : Array (Option Value)}
    (xS : PySem.W.nsIn K mainGlobals "SIGNS" = some (some (.ref aS)))
    (xB : PySem.W.nsIn K mainGlobals "IN_BRACKETS" = some (some (.ref aB)))
    (xO : PySem.W.nsIn K mainGlobals "SIGNS_OF" = some (some (.ref aO)))
    (lS : K.lookup aS = some ⟨.type "dict", none, .dict #[⟨hS0, .str "less" tS0, .str "<" uS0⟩, ⟨hS1, .str "most" tS1, .str "<=" uS1⟩, ⟨hS2, .str "equal" tS2, .str "=" uS2⟩, ⟨hS3, .str "unlike" tS3, .str "/=" uS3⟩] epS, #[]⟩)
    (lB : K.lookup aB = some ⟨.type "dict", none, .dict #[⟨hB0, .str "either" tB0, .ref b1⟩, ⟨hB1, .str "both" tB1, .ref b2⟩, ⟨hB2, .str "not" tB2, .ref b3⟩] epB, #[]⟩)
    (lO : K.lookup aO = some ⟨.type "dict", none, .dict #[⟨hO0, .str "less" tO0, .ref w0⟩, ⟨hO1, .str "most" tO1, .ref w1⟩, ⟨hO2, .str "equal" tO2, .ref w2⟩, ⟨hO3, .str "unlike" tO3, .ref w3⟩] epO, #[]⟩)
    (lT1 : K.lookup b1 = some ⟨.type "tuple", o1, .seq #[.str "either" r0, .str "some" r1, .str "all" r2] n1, s1⟩)
    (lT2 : K.lookup b2 = some ⟨.type "tuple", o2, .seq #[.str "both" r3, .str "either" r4, .str "some" r5, .str "all" r6] n2, s2⟩)
    (lT3 : K.lookup b3 = some ⟨.type "tuple", o3, .seq #[.str "both" r7, .str "either" r8, .str "some" r9, .str "all" r10] n3, s3⟩)
    (eS : hS0 = keyH w (.inr "less") ∧ hS1 = keyH w (.inr "most") ∧ hS2 = keyH w (.inr "equal") ∧ hS3 = keyH w (.inr "unlike"))
    (eB : hB0 = keyH w (.inr "either") ∧ hB1 = keyH w (.inr "both") ∧ hB2 = keyH w (.inr "not"))
    (eO : hO0 = keyH w (.inr "less") ∧ hO1 = keyH w (.inr "most") ∧ hO2 = keyH w (.inr "equal") ∧ hO3 = keyH w (.inr "unlike"))
    (nS : (aS == sysModules) = false)
    (nB : (aB == sysModules) = false)
    (nO : (aO == sysModules) = false)
    : ∃ fd : FuncData, (∀ (s : Shared) (v : Value), BindsTo s fd ⟨[v], []⟩ [("_law_script", v)]) ∧ ∀ base : Heap, K.In base → base.Ns mainGlobals mg → FnOk l.prog w K mg base CX0 31 fa fd ["_law_script"] (spLaw K) := by
  have B : Bl mg := ⟨PySem.W.mg_none_of X G z0, PySem.W.mg_none_of X G z1, PySem.W.mg_none_of X G z2, PySem.W.mg_none_of X G z3, PySem.W.mg_none_of X G z4, PySem.W.mg_none_of X G z5, PySem.W.mg_none_of X G z6, PySem.W.mg_none_of X G z7, PySem.W.mg_none_of X G z8, PySem.W.mg_none_of X G z9, PySem.W.mg_none_of X G z10, PySem.W.mg_none_of X G z11, PySem.W.mg_none_of X G z12, PySem.W.mg_none_of X G z13, PySem.W.mg_none_of X G z14, PySem.W.mg_none_of X G z15, PySem.W.mg_none_of X G z16, PySem.W.mg_none_of X G z17, PySem.W.mg_none_of X G z18⟩
  have F0 := fun_mk (st := st__law_cell) l0 c0 k0
  have b0 := F0.binds (ps := ["_law_script", "_law_k"]) fun _ _ _ _ _ _ us hl => by obtain ⟨x0, x1, rfl⟩ := list_2 hl; rfl
  have F1 := fun_mk (st := st__law_folded) l1 c1 k1
  have b1 := F1.binds (ps := ["_law_word", "_law_parts"]) fun _ _ _ _ _ _ us hl => by obtain ⟨x0, x1, rfl⟩ := list_2 hl; rfl
  have F2 := fun_mk (st := st__law_leaf) l2 c2 k2
  have b2 := F2.binds (ps := ["_law_cell_here", "_law_names_here"]) fun _ _ _ _ _ _ us hl => by obtain ⟨x0, x1, rfl⟩ := list_2 hl; rfl
  have F3 := fun_mk (st := st__law_any_names) l3 c3 k3
  have b3 := F3.binds (ps := ["_law_rest", "_law_many"]) fun _ _ _ _ _ _ us hl => by obtain ⟨x0, x1, rfl⟩ := list_2 hl; rfl
  have F4 := fun_mk (st := st__law_names) l4 c4 k4
  have b4 := F4.binds (ps := ["_law_cell_here"]) fun _ _ _ _ _ _ us hl => by obtain ⟨x0, rfl⟩ := list_1 hl; rfl
  have F5 := fun_mk (st := st__law_step) l5 c5 k5
  have b5 := F5.binds (ps := ["_law_built_here", "_law_cell_here", "_law_names_here"]) fun _ _ _ _ _ _ us hl => by obtain ⟨x0, x1, x2, rfl⟩ := list_3 hl; rfl
  have F6 := fun_mk (st := st__law_built) l6 c6 k6
  have b6 := F6.binds (ps := ["_law_script", "_law_most"]) fun _ _ _ _ _ _ us hl => by obtain ⟨x0, x1, rfl⟩ := list_2 hl; rfl
  have F7 := fun_mk (st := st__law_compare) l7 c7 k7
  have b7 := F7.binds (ps := ["_law_sentence"]) fun _ _ _ _ _ _ us hl => by obtain ⟨x0, rfl⟩ := list_1 hl; rfl
  have F8 := fun_mk (st := st__law_text) l8 c8 k8
  have b8 := F8.binds (ps := ["_law_sentence", "_law_beside"]) fun _ _ _ _ _ _ us hl => by obtain ⟨x0, x1, rfl⟩ := list_2 hl; rfl
  have F9 := fun_mk (st := st_binds) l9 c9 k9
  have b9 := F9.binds (ps := ["S"]) fun _ _ _ _ _ _ us hl => by obtain ⟨x0, rfl⟩ := list_1 hl; rfl
  have F10 := fun_mk (st := st_is_compare) l10 c10 k10
  have b10 := F10.binds (ps := ["S"]) fun _ _ _ _ _ _ us hl => by obtain ⟨x0, rfl⟩ := list_1 hl; rfl
  have F11 := fun_mk (st := st_joins) l11 c11 k11
  have b11 := F11.binds (ps := ["S"]) fun _ _ _ _ _ _ us hl => by obtain ⟨x0, rfl⟩ := list_1 hl; rfl
  have F12 := fun_mk (st := st_shown_power) l12 c12 k12
  have b12 := F12.binds (ps := ["name", "power"]) fun _ _ _ _ _ _ us hl => by obtain ⟨x0, x1, rfl⟩ := list_2 hl; rfl
  have F13 := fun_mk (st := st_shown_amount) l13 c13 k13
  have b13 := F13.binds (ps := ["product", "number"]) fun _ _ _ _ _ _ us hl => by obtain ⟨x0, x1, rfl⟩ := list_2 hl; rfl
  have F14 := fun_mk (st := st_shown_form) l14 c14 k14
  have b14 := F14.binds (ps := ["F"]) fun _ _ _ _ _ _ us hl => by obtain ⟨x0, rfl⟩ := list_1 hl; rfl
  have F15 := fun_mk (st := st_shown_compare) l15 c15 k15
  have b15 := F15.binds (ps := ["word", "F"]) fun _ _ _ _ _ _ us hl => by obtain ⟨x0, x1, rfl⟩ := list_2 hl; rfl
  have F16 := fun_mk (st := st_shown) l16 c16 k16
  have b16 := F16.binds (ps := ["S"]) fun _ _ _ _ _ _ us hl => by obtain ⟨x0, rfl⟩ := list_1 hl; rfl
  have F17 := fun_mk (st := st_shown_part) l17 c17 k17
  have b17 := F17.binds (ps := ["word", "part"]) fun _ _ _ _ _ _ us hl => by obtain ⟨x0, x1, rfl⟩ := list_2 hl; rfl
  have F18 := fun_mk (st := st_law) l18 c18 k18
  have b18 := F18.binds (ps := ["_law_script"]) fun _ _ _ _ _ _ us hl => by obtain ⟨x0, rfl⟩ := list_1 hl; rfl
  have e := hfa.symm.trans (PySem.W.mg_of X G a18)
  cases e
  exact ⟨PySem.W.fnOf "law" "law" (defArgs st_law) (defBody st_law) (defScope st_law) .none kV18 dc18 pm18 an18 cd18 ct18, fun s v => .of_eq rfl, fun base XB _ => all_ok (P := l.prog) (w := w) (base := base) (cons_mk X G xS xB xO lS lB lO lT1 lT2 lT3 eS eB eO nS nB nO) ⟨_, _, F0, b0, PySem.W.mg_of X G a0⟩ ⟨_, _, F1, b1, PySem.W.mg_of X G a1⟩ ⟨_, _, F2, b2, PySem.W.mg_of X G a2⟩ ⟨_, _, F3, b3, PySem.W.mg_of X G a3⟩ ⟨_, _, F4, b4, PySem.W.mg_of X G a4⟩ ⟨_, _, F5, b5, PySem.W.mg_of X G a5⟩ ⟨_, _, F6, b6, PySem.W.mg_of X G a6⟩ ⟨_, _, F7, b7, PySem.W.mg_of X G a7⟩ ⟨_, _, F8, b8, PySem.W.mg_of X G a8⟩ ⟨_, _, F9, b9, PySem.W.mg_of X G a9⟩ ⟨_, _, F10, b10, PySem.W.mg_of X G a10⟩ ⟨_, _, F11, b11, PySem.W.mg_of X G a11⟩ ⟨_, _, F12, b12, PySem.W.mg_of X G a12⟩ ⟨_, _, F13, b13, PySem.W.mg_of X G a13⟩ ⟨_, _, F14, b14, PySem.W.mg_of X G a14⟩ ⟨_, _, F15, b15, PySem.W.mg_of X G a15⟩ ⟨_, _, F16, b16, PySem.W.mg_of X G a16⟩ ⟨_, _, F17, b17, PySem.W.mg_of X G a17⟩ F18 B⟩
end Mine
open PySem PySem.W PyProof.Rows
set_option maxRecDepth 100000 in
set_option maxHeartbeats 0 in
theorem PySem.Challenge.cw_realsay_k33_brackets_shown_holds : PySem.Challenge.rw_realsay_k33_brackets_shown.Holds := by
  w_on; o_law; k_head; (case hw => w_witness2)
  k_fill
  refine L2.walk_ofB (l := PySem.Challenge.rw_realsay_k33_brackets_shown) (k := 31) (x := "_law_script") rfl rfl ⟨rfl, by decide, by decide⟩ (fun w h Y => PySem.W.kIn_of Y) ?F
  case F =>
    intro w mg fa h KX G hmg
    refine' Mine.all_mk KX G hmg ?a0 ?l0 ?c0 ?k0 ?a1 ?l1 ?c1 ?k1 ?a2 ?l2 ?c2 ?k2 ?a3 ?l3 ?c3 ?k3 ?a4 ?l4 ?c4 ?k4 ?a5 ?l5 ?c5 ?k5 ?a6 ?l6 ?c6 ?k6 ?a7 ?l7 ?c7 ?k7 ?a8 ?l8 ?c8 ?k8 ?a9 ?l9 ?c9 ?k9 ?a10 ?l10 ?c10 ?k10 ?a11 ?l11 ?c11 ?k11 ?a12 ?l12 ?c12 ?k12 ?a13 ?l13 ?c13 ?k13 ?a14 ?l14 ?c14 ?k14 ?a15 ?l15 ?c15 ?k15 ?a16 ?l16 ?c16 ?k16 ?a17 ?l17 ?c17 ?k17 ?a18 ?l18 ?c18 ?k18 ?z0 ?z1 ?z2 ?z3 ?z4 ?z5 ?z6 ?z7 ?z8 ?z9 ?z10 ?z11 ?z12 ?z13 ?z14 ?z15 ?z16 ?z17 ?z18 ?xS ?xB ?xO ?lS ?lB ?lO ?lT1 ?lT2 ?lT3 ?eS ?eB ?eO ?nS ?nB ?nO
    (case a0 => k_is)
    (case l0 => k_is)
    (case c0 => k_is)
    (case k0 => k_is)
    (case a1 => k_is)
    (case l1 => k_is)
    (case c1 => k_is)
    (case k1 => k_is)
    (case a2 => k_is)
    (case l2 => k_is)
    (case c2 => k_is)
    (case k2 => k_is)
    (case a3 => k_is)
    (case l3 => k_is)
    (case c3 => k_is)
    (case k3 => k_is)
    (case a4 => k_is)
    (case l4 => k_is)
    (case c4 => k_is)
    (case k4 => k_is)
    (case a5 => k_is)
    (case l5 => k_is)
    (case c5 => k_is)
    (case k5 => k_is)
    (case a6 => k_is)
    (case l6 => k_is)
    (case c6 => k_is)
    (case k6 => k_is)
    (case a7 => k_is)
    (case l7 => k_is)
    (case c7 => k_is)
    (case k7 => k_is)
    (case a8 => k_is)
    (case l8 => k_is)
    (case c8 => k_is)
    (case k8 => k_is)
    (case a9 => k_is)
    (case l9 => k_is)
    (case c9 => k_is)
    (case k9 => k_is)
    (case a10 => k_is)
    (case l10 => k_is)
    (case c10 => k_is)
    (case k10 => k_is)
    (case a11 => k_is)
    (case l11 => k_is)
    (case c11 => k_is)
    (case k11 => k_is)
    (case a12 => k_is)
    (case l12 => k_is)
    (case c12 => k_is)
    (case k12 => k_is)
    (case a13 => k_is)
    (case l13 => k_is)
    (case c13 => k_is)
    (case k13 => k_is)
    (case a14 => k_is)
    (case l14 => k_is)
    (case c14 => k_is)
    (case k14 => k_is)
    (case a15 => k_is)
    (case l15 => k_is)
    (case c15 => k_is)
    (case k15 => k_is)
    (case a16 => k_is)
    (case l16 => k_is)
    (case c16 => k_is)
    (case k16 => k_is)
    (case a17 => k_is)
    (case l17 => k_is)
    (case c17 => k_is)
    (case k17 => k_is)
    (case a18 => k_is)
    (case l18 => k_is)
    (case c18 => k_is)
    (case k18 => k_is)
    (case z0 => k_is)
    (case z1 => k_is)
    (case z2 => k_is)
    (case z3 => k_is)
    (case z4 => k_is)
    (case z5 => k_is)
    (case z6 => k_is)
    (case z7 => k_is)
    (case z8 => k_is)
    (case z9 => k_is)
    (case z10 => k_is)
    (case z11 => k_is)
    (case z12 => k_is)
    (case z13 => k_is)
    (case z14 => k_is)
    (case z15 => k_is)
    (case z16 => k_is)
    (case z17 => k_is)
    (case z18 => k_is)
    (case xS => k_is)
    (case xB => k_is)
    (case xO => k_is)
    (case lS => k_is)
    (case lB => k_is)
    (case lO => k_is)
    (case lT1 => k_is)
    (case lT2 => k_is)
    (case lT3 => k_is)
    (case eS => exact ⟨by kernel_rfl, by kernel_rfl, by kernel_rfl, by kernel_rfl⟩)
    (case eB => exact ⟨by kernel_rfl, by kernel_rfl, by kernel_rfl⟩)
    (case eO => exact ⟨by kernel_rfl, by kernel_rfl, by kernel_rfl, by kernel_rfl⟩)
    (case nS => kernel_rfl)
    (case nB => kernel_rfl)
    (case nO => kernel_rfl)
