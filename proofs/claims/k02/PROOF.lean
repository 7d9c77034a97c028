import PyProof.Rows.All
import Wide.All
import OpenK.AllK
import Wide.FinOn
import HandS.ForMost
import HandS.Walk
import HandS.IsInst
import HandS.More
import HandS.NoneIn
import HandS.SetKeys
import HandS.DictComp
import HandS.TupAny
import HandS.Wide
import HandS.Set
import HandS.SetFor
import HandS.Strs
import PyProof.Rows.SetFrom
import PyProof.Rows.SortStr
import KE.KEqSeq
import HandS.ForExc
import HandS.Style
import HandS.Codes
import PySem.Challenge.RW_loopsheds_k02_whole_limits
set_option Elab.async false
set_option linter.all false
set_option maxRecDepth 100000
/-! Systems of differences: rings, solutions, the graph of last causes, and why lowering comes to an end. Plain Lean. -/
namespace Lo
section
variable {α : Type} [DecidableEq α]

abbrev Row (α : Type) := α × α × Int
def Sat (rows : List (Row α)) (v : α → Int) : Prop := ∀ r ∈ rows, v r.1 - v r.2.1 ≤ r.2.2
def put {β : Type} (f : α → β) (a : α) (b : β) : α → β := fun x => if x = a then b else f x
theorem put_at {β : Type} (f : α → β) (a : α) (b : β) : put f a b a = b := if_pos rfl
theorem put_off {β : Type} {f : α → β} {a x : α} {b : β} (h : x ≠ a) : put f a b x = f x := if_neg h

/-- the ring of rows es: each right is the next left, no left twice, a negative sum -/
structure IsRing (es : List (Row α)) : Prop where
  two : 2 ≤ es.length
  nd : (es.map (·.1)).Nodup
  turn : es.map (·.2.1) = (es.map (·.1)).drop 1 ++ (es.map (·.1)).take 1
  neg : (es.map (·.2.2)).sum < 0
/-- found are the places of a ring -/
def RingOk (rows : List (Row α)) (found : List Nat) : Prop :=
  ∃ es : List (Row α), found.map (fun i => rows[i]?) = es.map some ∧ IsRing es

theorem sum_map_sub {β : Type} (f g : β → Int) : ∀ l : List β, (l.map fun x => f x - g x).sum = (l.map f).sum - (l.map g).sum
  | [] => rfl
  | x :: l => by
    have ih := sum_map_sub f g l
    simp only [List.map_cons, List.sum_cons]
    omega
theorem sum_le {β : Type} (f g : β → Int) : ∀ l : List β, (∀ x ∈ l, f x ≤ g x) → (l.map f).sum ≤ (l.map g).sum
  | [], _ => Int.le_refl _
  | x :: l, h => by
    have ih := sum_le f g l fun y hy => h y (List.mem_cons_of_mem _ hy)
    have h0 := h x List.mem_cons_self
    simp only [List.map_cons, List.sum_cons]
    omega
theorem sum_lt {β : Type} (f g : β → Int) : ∀ (l : List β) (a : β), a ∈ l → (∀ x ∈ l, f x ≤ g x) → f a < g a → (l.map f).sum < (l.map g).sum
  | [], _, h, _, _ => absurd h List.not_mem_nil
  | x :: l, a, ha, h, hl => by
    have h0 := h x List.mem_cons_self
    have ht : ∀ y ∈ l, f y ≤ g y := fun y hy => h y (List.mem_cons_of_mem _ hy)
    simp only [List.map_cons, List.sum_cons]
    rcases List.mem_cons.mp ha with e | e
    · subst e
      have := sum_le f g l ht
      omega
    · have := sum_lt f g l a e ht hl
      omega
theorem sum_turn {β : Type} (f : β → Int) (l : List β) : ((l.drop 1 ++ l.take 1).map f).sum = (l.map f).sum := by
  cases l with
  | nil => rfl
  | cons x l =>
    simp only [List.drop_succ_cons, List.drop_zero, List.take_succ_cons, List.take_zero, List.map_append, List.sum_append, List.map_cons, List.map_nil, List.sum_cons, List.sum_nil]
    omega
theorem ring_not_sat {rows es : List (Row α)} (h : ∀ e ∈ es, e ∈ rows) (R : IsRing es) (v : α → Int) : ¬ Sat rows v := fun s => by
  have h1 : (es.map fun e => v e.1 - v e.2.1).sum ≤ (es.map (·.2.2)).sum := sum_le _ _ es fun e he => s e (h e he)
  rw [sum_map_sub (fun e : Row α => v e.1) (fun e : Row α => v e.2.1)] at h1
  have h2 : (es.map fun e : Row α => v e.2.1).sum = (es.map fun e : Row α => v e.1).sum := by
    have e1 : (es.map fun e : Row α => v e.2.1) = (es.map (·.2.1)).map v := by rw [List.map_map]; rfl
    have e2 : (es.map fun e : Row α => v e.1) = (es.map (·.1)).map v := by rw [List.map_map]; rfl
    rw [e1, e2, R.turn, sum_turn]
  have := R.neg
  omega
theorem ringOk_not_sat {rows : List (Row α)} {found : List Nat} (h : RingOk rows found) (v : α → Int) : ¬ Sat rows v := by
  obtain ⟨es, e, R⟩ := h
  refine ring_not_sat (fun x hx => ?_) R v
  have h1 : some x ∈ es.map some := List.mem_map_of_mem hx
  rw [← e] at h1
  obtain ⟨i, _, hi⟩ := List.mem_map.mp h1
  exact List.mem_of_getElem? hi

/-- pigeons -/
theorem nodup_le : ∀ (l m : List α), l.Nodup → (∀ x ∈ l, x ∈ m) → l.length ≤ m.length
  | [], _, _, _ => Nat.zero_le _
  | x :: l, m, hd, hs => by
    obtain ⟨h1, h2⟩ := List.nodup_cons.mp hd
    have hx := hs x List.mem_cons_self
    have hl : ∀ y ∈ l, y ∈ m.erase x := fun y hy => by
      have ne : y ≠ x := fun e => h1 (e ▸ hy)
      exact (List.mem_erase_of_ne ne).mpr (hs y (List.mem_cons_of_mem _ hy))
    have ih := nodup_le l (m.erase x) h2 hl
    have z := List.length_erase_of_mem hx
    have p := List.length_pos_of_mem hx
    simp only [List.length_cons]
    omega

/-! ### walks in the graph of the causes -/
abbrev Gr (α : Type) := α → Option (α × Int)
inductive Ch (g : Gr α) : α → List α → α → Int → Prop
  | nil (x : α) : Ch g x [] x 0
  | cons {x y z : α} {c s : Int} {l : List α} : g x = some (y, c) → Ch g y l z s → Ch g x (x :: l) z (c + s)
variable {g : Gr α}
theorem Ch.snoc {x y z : α} {l : List α} {c s : Int} (h : Ch g x l y s) (e : g y = some (z, c)) : Ch g x (l ++ [y]) z (s + c) := by
  induction h with
  | nil x =>
    have q := Ch.cons e (Ch.nil z)
    have z : c + 0 = 0 + c := by omega
    rw [z] at q
    exact q
  | @cons x y z' c' s' l e' _ ih =>
    have q := Ch.cons e' (ih e)
    have z : c' + (s' + c) = c' + s' + c := by omega
    rw [z] at q
    exact q
theorem Ch.from_mem {x y a : α} {l : List α} {s : Int} (h : Ch g x l y s) (ha : a ∈ l) : ∃ p q t, l = p ++ a :: q ∧ Ch g a (a :: q) y t := by
  induction h with
  | nil x => exact absurd ha List.not_mem_nil
  | @cons x y z c s l e h ih =>
    by_cases k : a = x
    · subst k
      exact ⟨[], l, _, rfl, Ch.cons e h⟩
    · have hm : a ∈ l := by
        rcases List.mem_cons.mp ha with q | q
        · exact absurd q k
        · exact q
      obtain ⟨p, q, t, e2, h2⟩ := ih hm
      exact ⟨x :: p, q, t, by rw [e2]; rfl, h2⟩
/-- the walk up to the first stop is told by its start -/
theorem Ch.det {S : α → Prop} {x y y' : α} {l l' : List α} {s s' : Int} (h : Ch g x l y s) (h' : Ch g x l' y' s') (hy : S y) (hy' : S y') (hl : ∀ a ∈ l, ¬ S a) (hl' : ∀ a ∈ l', ¬ S a) : l = l' := by
  induction h generalizing l' s' with
  | nil x =>
    cases h' with
    | nil => rfl
    | cons e h2 => exact absurd hy (hl' _ List.mem_cons_self)
  | @cons x y0 z c s l e h ih =>
    cases h' with
    | nil => exact absurd hy' (hl _ List.mem_cons_self)
    | @cons _ y1 _ c1 s1 l1 e1 h1 =>
      rw [e] at e1
      have q := Option.some.inj e1
      have q1 : y0 = y1 := congrArg Prod.fst q
      subst q1
      have := ih h1 hy (fun a ha => hl a (List.mem_cons_of_mem _ ha)) (fun a ha => hl' a (List.mem_cons_of_mem _ ha))
      rw [this]
theorem Ch.nodup {S : α → Prop} {x y : α} {l : List α} {s : Int} (h : Ch g x l y s) (hy : S y) (hl : ∀ a ∈ l, ¬ S a) : l.Nodup := by
  induction h with
  | nil x => exact List.nodup_nil
  | @cons x y0 z c s l e h ih =>
    have ht : ∀ a ∈ l, ¬ S a := fun a ha => hl a (List.mem_cons_of_mem _ ha)
    refine List.nodup_cons.mpr ⟨fun hm => ?_, ih hy ht⟩
    obtain ⟨p, q, t, e2, h2⟩ := h.from_mem hm
    have hq : ∀ a ∈ x :: q, ¬ S a := fun a ha => ht a (by rw [e2]; exact List.mem_append_right _ ha)
    have z := (Ch.cons e h).det h2 hy hy hl hq
    have z2 := congrArg List.length z
    rw [e2] at z2
    simp only [List.length_cons, List.length_append] at z2
    omega
theorem Ch.le {val : α → Int} (hw : ∀ x y c, g x = some (y, c) → val y + c ≤ val x) {x y : α} {l : List α} {s : Int} (h : Ch g x l y s) : s ≤ val x - val y := by
  induction h with
  | nil x => omega
  | cons e h ih =>
    have := hw _ _ _ e
    omega
theorem Ch.low {M : Int} (hM : ∀ x y c, g x = some (y, c) → -M ≤ c) {x y : α} {l : List α} {s : Int} (h : Ch g x l y s) : -(M * (l.length : Int)) ≤ s := by
  induction h with
  | nil x => simp
  | @cons x y0 z c s l e h ih =>
    have := hM _ _ _ e
    simp only [List.length_cons]
    have e1 : M * ((l.length + 1 : Nat) : Int) = M * (l.length : Int) + M := by
      rw [Int.natCast_add, Int.mul_add]; omega
    rw [e1]
    omega

/-- what holds between the values and the causes -/
structure Low (rows : List (Row α)) (val : α → Int) (g : Gr α) : Prop where
  edge : ∀ x y c, g x = some (y, c) → (x, y, c) ∈ rows ∧ val y + c ≤ val x
  root : ∀ x, g x = none → val x = 0
  neg : ∀ x l s, l ≠ [] → Ch g x l x s → s < 0
theorem Low.start (rows : List (Row α)) : Low rows (fun _ => 0) (fun _ => none) := by
  refine ⟨(fun x y c e => nomatch e), fun _ _ => rfl, fun x l s hl h => ?_⟩
  cases h with
  | nil => exact absurd rfl hl
  | cons e _ => cases e
theorem Low.step {rows : List (Row α)} {val : α → Int} {x0 y0 : α} {c0 : Int} (L : Low rows val g) (hr : (x0, y0, c0) ∈ rows) (hne : x0 ≠ y0) (hlt : val y0 + c0 < val x0) :
    Low rows (put val x0 (val y0 + c0)) (put g x0 (some (y0, c0))) := by
  have weak : ∀ x y c, put g x0 (some (y0, c0)) x = some (y, c) → val y + c ≤ val x := fun x y c e => by
    by_cases k : x = x0
    · subst k
      rw [put_at] at e
      injection e with e
      injection e with e1 e2
      subst e1 e2
      omega
    · rw [put_off k] at e
      exact (L.edge x y c e).2
  have split : ∀ (x z : α) (l : List α) (s : Int), Ch (put g x0 (some (y0, c0))) x l z s → Ch g x l z s ∨ s < val x - val z := fun x z l s h => by
    induction h with
    | nil x => exact .inl (Ch.nil x)
    | @cons x y z c s l e h ih =>
      have hs : s ≤ val y - val z := h.le weak
      by_cases k : x = x0
      · subst k
        rw [put_at] at e
        injection e with e
        injection e with e1 e2
        subst e1 e2
        exact .inr (by omega)
      · rw [put_off k] at e
        have he := (L.edge x y c e).2
        rcases ih with i | i
        · exact .inl (Ch.cons e i)
        · exact .inr (by omega)
  refine ⟨fun x y c e => ?_, fun x e => ?_, fun x l s hl h => ?_⟩
  · by_cases k : x = x0
    · subst k
      rw [put_at] at e
      injection e with e
      injection e with e1 e2
      subst e1 e2
      refine ⟨hr, ?_⟩
      rw [put_at, put_off hne.symm]
      omega
    · rw [put_off k] at e
      have he := L.edge x y c e
      refine ⟨he.1, ?_⟩
      rw [put_off k]
      by_cases j : y = x0
      · subst j
        rw [put_at]
        omega
      · rw [put_off j]
        exact he.2
  · by_cases k : x = x0
    · subst k
      rw [put_at] at e
      cases e
    · rw [put_off k] at e ⊢
      exact L.root x e
  · rcases split x x l s h with i | i
    · exact L.neg x l s hl i
    · omega

/-- from x a name without a cause is reached -/
def Ends (g : Gr α) (x : α) : Prop := ∃ l y s, Ch g x l y s ∧ g y = none
theorem ends_none {x : α} (h : g x = none) : Ends g x := ⟨[], x, 0, Ch.nil x, h⟩
theorem ends_next {x y : α} {c : Int} (e : g x = some (y, c)) (h : Ends g y) : Ends g x := by
  obtain ⟨l, z, s, h1, h2⟩ := h
  exact ⟨_, z, _, Ch.cons e h1, h2⟩
theorem Ch.mem_some {x y : α} {l : List α} {s : Int} (h : Ch g x l y s) : ∀ a ∈ l, g a ≠ none := by
  induction h with
  | nil x => exact fun a ha => absurd ha List.not_mem_nil
  | @cons x y z c s l e h ih =>
    intro a ha
    rcases List.mem_cons.mp ha with q | q
    · rw [q, e]; exact fun z => nomatch z
    · exact ih a q
/-- how low a value can be -/
theorem Low.floor {rows : List (Row α)} {val : α → Int} (L : Low rows val g) (hE : ∀ x, Ends g x) {M : Int} (hM0 : 0 ≤ M) (hM : ∀ r ∈ rows, -M ≤ r.2.2) (x : α) : -(M * (rows.length : Int)) ≤ val x := by
  obtain ⟨l, y, s, h, hy⟩ := hE x
  have hd : l.Nodup := h.nodup (S := fun a => g a = none) hy h.mem_some
  have hl : l.length ≤ (rows.map (·.1)).length := nodup_le l _ hd fun a ha => by
    have k := h.mem_some a ha
    cases e : g a with
    | none => exact absurd e k
    | some p => exact List.mem_map.mpr ⟨_, (L.edge a p.1 p.2 e).1, rfl⟩
  rw [List.length_map] at hl
  have h1 := h.le fun x y c e => (L.edge x y c e).2
  have h2 := h.low (M := M) fun x y c e => hM _ (L.edge x y c e).1
  have h3 := L.root y hy
  have h4 : M * (l.length : Int) ≤ M * (rows.length : Int) := Int.mul_le_mul_of_nonneg_left (by omega) hM0
  omega
end
end Lo
/-! The graph that a table of causes makes, the ring that is read off it, the passes and their measure; least sums of chains. -/
namespace Lo
section
variable {α : Type} [DecidableEq α]
theorem nd_one (x : α) : [x].Nodup := List.nodup_cons.mpr ⟨List.not_mem_nil, List.nodup_nil⟩
theorem Ch.append {g : Gr α} {x y z : α} {l l' : List α} {s s' : Int} (h : Ch g x l y s) (h' : Ch g y l' z s') : Ch g x (l ++ l') z (s + s') := by
  induction h with
  | nil x =>
    have e : (0 : Int) + s' = s' := by omega
    rw [e]
    exact h'
  | @cons x y c0 c s l e _ ih =>
    have q := Ch.cons e (ih h')
    have e2 : c + (s + s') = c + s + s' := by omega
    rw [e2] at q
    exact q
theorem ends_of {g : Gr α} {x y : α} {l : List α} {s : Int} (h : Ch g x l y s) (hy : Ends g y) : Ends g x := by
  obtain ⟨l2, z, s2, h2, hz⟩ := hy
  exact ⟨_, z, _, h.append h2, hz⟩

/-- names cs have causes: the places cz of rows -/
def gOf (rows : List (Row α)) (cs : List α) (cz : α → Nat) : Gr α := fun x => if x ∈ cs then (rows[cz x]?).map fun r => r.2 else none
/-- each cause of a name is a row that begins with it -/
def Lk (rows : List (Row α)) (cs : List α) (cz : α → Nat) : Prop := ∀ x ∈ cs, ∃ y c, rows[cz x]? = some (x, y, c)
variable {rows : List (Row α)} {cs : List α} {cz : α → Nat}
theorem gOf_out {x : α} (h : x ∉ cs) : gOf rows cs cz x = none := if_neg h
theorem gOf_in {x y : α} {c : Int} (h : x ∈ cs) (e : rows[cz x]? = some (x, y, c)) : gOf rows cs cz x = some (y, c) := by
  unfold gOf
  rw [if_pos h, e]
  rfl
theorem gOf_some (k : Lk rows cs cz) {x y : α} {c : Int} (h : gOf rows cs cz x = some (y, c)) : x ∈ cs ∧ rows[cz x]? = some (x, y, c) := by
  by_cases m : x ∈ cs
  · obtain ⟨y', c', e⟩ := k x m
    rw [gOf_in m e] at h
    injection h with h
    injection h with h1 h2
    subst h1 h2
    exact ⟨m, e⟩
  · rw [gOf_out m] at h
    cases h
theorem gOf_none (k : Lk rows cs cz) {x : α} (h : gOf rows cs cz x = none) : x ∉ cs := fun m => by
  obtain ⟨y, c, e⟩ := k x m
  rw [gOf_in m e] at h
  cases h
/-- a list with one more, unless it is there -/
def addN (l : List α) (x : α) : List α := if x ∈ l then l else l ++ [x]
theorem mem_addN {l : List α} {x y : α} : y ∈ addN l x ↔ y ∈ l ∨ y = x := by
  unfold addN
  split
  · rename_i h
    exact ⟨Or.inl, fun z => z.elim id fun e => e ▸ h⟩
  · rw [List.mem_append, List.mem_singleton]
theorem nodup_addN {l : List α} {x : α} (h : l.Nodup) : (addN l x).Nodup := by
  unfold addN
  split
  · exact h
  · rename_i n
    refine List.nodup_append.mpr ⟨h, nd_one x, fun a ha b hb => ?_⟩
    rw [List.mem_singleton] at hb
    subst hb
    exact fun e => n (e ▸ ha)
theorem length_addN {l : List α} {x : α} : (addN l x).length ≤ l.length + 1 := by
  unfold addN
  split <;> simp
theorem lk_put (k : Lk rows cs cz) {x y : α} {c : Int} {i : Nat} (e : rows[i]? = some (x, y, c)) : Lk rows (addN cs x) (put cz x i) := fun z hz => by
  by_cases j : z = x
  · subst j
    exact ⟨y, c, by rw [put_at]; exact e⟩
  · rw [put_off j]
    exact k z ((mem_addN.mp hz).resolve_right j)
theorem gOf_put {x y : α} {c : Int} {i : Nat} (e : rows[i]? = some (x, y, c)) : gOf rows (addN cs x) (put cz x i) = put (gOf rows cs cz) x (some (y, c)) := by
  funext z
  by_cases j : z = x
  · subst j
    rw [put_at]
    refine gOf_in (mem_addN.mpr (.inr rfl)) ?_
    rw [put_at]
    exact e
  · rw [put_off j]
    unfold gOf
    have m : z ∈ addN cs x ↔ z ∈ cs := by
      rw [mem_addN]
      exact ⟨fun h => h.resolve_right j, .inl⟩
    rw [put_off j]
    by_cases h : z ∈ cs
    · rw [if_pos h, if_pos (m.mpr h)]
    · rw [if_neg h, if_neg fun q => h (m.mp q)]

/-! ### the ring -/
theorem Ch.rights (k : Lk rows cs cz) {x y : α} {l : List α} {s : Int} (h : Ch (gOf rows cs cz) x l y s) :
    ∃ es : List (Row α), l.map (fun a => rows[cz a]?) = es.map some ∧ es.map (·.1) = l ∧ x :: es.map (·.2.1) = l ++ [y] ∧ (es.map (·.2.2)).sum = s := by
  induction h with
  | nil x => exact ⟨[], rfl, rfl, rfl, rfl⟩
  | @cons x y z c s l e h ih =>
    obtain ⟨es, h1, h2, h3, h4⟩ := ih
    obtain ⟨_, e2⟩ := gOf_some k e
    refine ⟨(x, y, c) :: es, ?_, ?_, ?_, ?_⟩
    · rw [List.map_cons, e2, h1]
      rfl
    · rw [List.map_cons, h2]
    · show x :: y :: es.map (·.2.1) = x :: (l ++ [z])
      rw [h3]
    · rw [List.map_cons, List.sum_cons, h4]
theorem ring_read (k : Lk rows cs cz) {val : α → Int} (L : Low rows val (gOf rows cs cz)) (hne : ∀ r ∈ rows, r.1 ≠ r.2.1) {start : α} {l : List α} {s : Int} (h : Ch (gOf rows cs cz) start (start :: l) start s)
    (hl : ∀ a ∈ l, a ≠ start) : RingOk rows ((start :: l).map cz) := by
  obtain ⟨es, h1, h2, h3, h4⟩ := h.rights k
  have hs : s < 0 := L.neg start _ s (List.cons_ne_nil _ _) h
  refine ⟨es, ?_, ?_⟩
  · rw [← h1, List.map_map]
    rfl
  · cases h with
    | @cons _ y _ c s' _ e h' =>
      have nd : l.Nodup := h'.nodup (S := fun a => a = start) rfl hl
      refine ⟨?_, ?_, ?_, by rw [h4]; exact hs⟩
      · have hlen : es.length = l.length + 1 := by
          have := congrArg List.length h2
          rw [List.length_map] at this
          exact this
        rw [hlen]
        cases l with
        | cons _ _ => simp
        | nil =>
          cases h' with
          | nil => exact absurd rfl (hne _ (L.edge _ _ _ e).1)
      · rw [h2]
        exact List.nodup_cons.mpr ⟨fun m => hl _ m rfl, nd⟩
      · rw [h2]
        have h5 : es.map (·.2.1) = l ++ [start] := (List.cons.inj h3).2
        rw [h5]
        rfl

/-! ### a pass, and the measure -/
def span (rows : List (Row α)) : Int := ((rows.map fun r => r.2.2.natAbs).sum : Nat)
theorem span_le {rows : List (Row α)} {r : Row α} (h : r ∈ rows) : -span rows ≤ r.2.2 ∧ r.2.2 ≤ span rows := by
  have : r.2.2.natAbs ≤ (rows.map fun r => r.2.2.natAbs).sum := by
    induction rows with
    | nil => exact absurd h List.not_mem_nil
    | cons a t ih =>
      rw [List.map_cons, List.sum_cons]
      rcases List.mem_cons.mp h with e | e
      · subst e
        omega
      · have := ih e
        omega
  unfold span
  omega
theorem span_nonneg (rows : List (Row α)) : 0 ≤ span rows := Int.natCast_nonneg _
/-- how far the values are above what is the least for them -/
def pot (rows : List (Row α)) (ks : List α) (val : α → Int) : Int := (ks.map fun x => val x + span rows * (rows.length : Int)).sum
theorem sum_nonneg {β : Type} (f : β → Int) : ∀ l : List β, (∀ x ∈ l, 0 ≤ f x) → 0 ≤ (l.map f).sum
  | [], _ => Int.le_refl _
  | x :: l, h => by
    have := sum_nonneg f l fun y hy => h y (List.mem_cons_of_mem _ hy)
    have := h x List.mem_cons_self
    rw [List.map_cons, List.sum_cons]
    omega
theorem pot_nonneg {val : α → Int} {g : Gr α} (ks : List α) (L : Low rows val g) (hE : ∀ x, Ends g x) : 0 ≤ pot rows ks val := by
  refine sum_nonneg _ ks fun x _ => ?_
  have := L.floor hE (span_nonneg rows) (fun r hr => (span_le hr).1) x
  omega
theorem pot_put {val : α → Int} {ks : List α} {x : α} {w : Int} (hx : x ∈ ks) (h : w < val x) : pot rows ks (put val x w) < pot rows ks val := by
  refine sum_lt _ _ ks x hx (fun y _ => ?_) ?_
  · by_cases j : y = x
    · subst j
      rw [put_at]
      omega
    · rw [put_off j]
      exact Int.le_refl _
  · rw [put_at]
    omega

/-! ### the places of a turn -/
/-- the rounds of `_turn` at the beginning of turn i: what was met in earlier rounds ends -/
structure Met (g : Gr α) (cs rs : List α) (rn : α → Nat) (i : Nat) : Prop where
  nd : rs.Nodup
  sub : ∀ x ∈ rs, x ∈ cs
  ends : ∀ x ∈ rs, Ends g x ∧ rn x < i
  past : ∀ j x, j < i → cs[j]? = some x → Ends g x
theorem Met.start (g : Gr α) (cs : List α) (rn : α → Nat) : Met g cs [] rn 0 :=
  ⟨List.nodup_nil, fun x h => absurd h List.not_mem_nil, fun x h => absurd h List.not_mem_nil, fun j x h => absurd h (Nat.not_lt_zero _)⟩
/-- within turn i: rs the names met before, t those of this turn -/
structure MetIn (g : Gr α) (cs rs : List α) (rn : α → Nat) (i : Nat) (start : α) (t : List α) (name : α) : Prop where
  nd : (rs ++ t).Nodup
  sub : ∀ x ∈ rs ++ t, x ∈ cs
  ends : ∀ x ∈ rs, Ends g x ∧ rn x < i
  now : ∀ x ∈ t, rn x = i ∧ ∃ l s, l ≠ [] ∧ Ch g x l name s
  from_ : ∃ l s, Ch g start l name s
theorem MetIn.start {g : Gr α} {cs rs : List α} {rn : α → Nat} {i : Nat} (M : Met g cs rs rn i) (start : α) : MetIn g cs rs rn i start [] start := by
  refine ⟨by rw [List.append_nil]; exact M.nd, by rw [List.append_nil]; exact M.sub, M.ends, fun x h => absurd h List.not_mem_nil, [], 0, Ch.nil _⟩
theorem MetIn.step {g : Gr α} {cs rs : List α} {rn : α → Nat} {i : Nat} {start name y : α} {c : Int} {t : List α} (M : MetIn g cs rs rn i start t name) (hc : name ∈ cs) (hn : name ∉ rs ++ t) (e : g name = some (y, c)) :
    MetIn g cs rs (put rn name i) i start (t ++ [name]) y := by
  have one : Ch g name [name] y (c + 0) := Ch.cons e (Ch.nil y)
  refine ⟨?_, fun x hx => ?_, fun x hx => ?_, fun x hx => ?_, ?_⟩
  · rw [← List.append_assoc]
    refine List.nodup_append.mpr ⟨M.nd, nd_one _, fun a ha b hb => ?_⟩
    rw [List.mem_singleton] at hb
    subst hb
    exact fun q => hn (q ▸ ha)
  · rw [← List.append_assoc] at hx
    rcases List.mem_append.mp hx with q | q
    · exact M.sub x q
    · rw [List.mem_singleton] at q
      exact q ▸ hc
  · have ne : x ≠ name := fun q => hn (List.mem_append_left _ (q ▸ hx))
    rw [put_off ne]
    exact M.ends x hx
  · rcases List.mem_append.mp hx with q | q
    · have ne : x ≠ name := fun z => hn (List.mem_append_right _ (z ▸ q))
      obtain ⟨h1, l, s, h2, h3⟩ := M.now x q
      refine ⟨by rw [put_off ne]; exact h1, l ++ [name], _, fun z => ?_, h3.append one⟩
      exact List.cons_ne_nil _ _ (List.append_eq_nil_iff.mp z).2
    · rw [List.mem_singleton] at q
      subst q
      exact ⟨put_at _ _ _, _, _, List.cons_ne_nil _ _, one⟩
  · obtain ⟨l, s, h⟩ := M.from_
    exact ⟨_, _, h.append one⟩
/-- where the walk of turn i comes to something that ends, all of it ends -/
theorem MetIn.close {g : Gr α} {cs rs : List α} {rn : α → Nat} {i : Nat} {start name : α} {t : List α} (M : MetIn g cs rs rn i start t name) (hs : cs[i]? = some start) (h : Ends g name)
    (past : ∀ j x, j < i → cs[j]? = some x → Ends g x) : Met g cs (rs ++ t) rn (i + 1) := by
  refine ⟨M.nd, M.sub, fun x hx => ?_, fun j x hj hx => ?_⟩
  · rcases List.mem_append.mp hx with q | q
    · obtain ⟨h1, h2⟩ := M.ends x q
      exact ⟨h1, by omega⟩
    · obtain ⟨h1, l, s, _, h3⟩ := M.now x q
      exact ⟨ends_of h3 h, by omega⟩
  · by_cases k : j = i
    · subst k
      rw [hs] at hx
      injection hx with hx
      subst hx
      obtain ⟨l, s, h3⟩ := M.from_
      exact ends_of h3 h
    · exact past j x (by omega) hx
theorem Met.all {g : Gr α} {cs rs : List α} {rn : α → Nat} (M : Met g cs rs rn cs.length) (out : ∀ x, x ∉ cs → g x = none) (x : α) : Ends g x := by
  by_cases h : x ∈ cs
  · obtain ⟨j, hj, e⟩ := List.getElem_of_mem h
    exact M.past j x hj (by rw [List.getElem?_eq_getElem hj, e])
  · exact ends_none (out x h)
theorem MetIn.room {g : Gr α} {cs rs : List α} {rn : α → Nat} {i : Nat} {start name : α} {t : List α} (M : MetIn g cs rs rn i start t name) (hc : name ∈ cs) (hn : name ∉ rs ++ t) : (rs ++ t).length < cs.length := by
  have := nodup_le (name :: (rs ++ t)) cs (List.nodup_cons.mpr ⟨hn, M.nd⟩) fun x hx => by
    rcases List.mem_cons.mp hx with q | q
    · exact q ▸ hc
    · exact M.sub x q
  rw [List.length_cons] at this
  omega
end
end Lo
/-! Least sums of chains, told by the solutions: what a system implies. -/
namespace Lo
section
variable {α : Type} [DecidableEq α]
/-- each row that begins with a keeps the sums -/
def Done (rows : List (Row α)) (ss : List α) (sv : α → Int) (a : α) : Prop := ∀ r ∈ rows, r.1 = a → r.2.1 ∈ ss ∧ sv r.2.1 ≤ sv a + r.2.2
/-- the sums so far -/
structure Sums (rows : List (Row α)) (left : α) (ss : List α) (sv : α → Int) : Prop where
  nd : ss.Nodup
  sub : ∀ x ∈ ss, x = left ∨ ∃ r ∈ rows, x = r.2.1
  has : left ∈ ss
  low : sv left ≤ 0
  sound : ∀ x ∈ ss, ∀ u, Sat rows u → u left - u x ≤ sv x
  up : ∀ x ∈ ss, sv x ≤ span rows * (ss.length : Int)
variable {rows : List (Row α)} {left : α} {ss : List α} {sv : α → Int}
theorem Sums.start (rows : List (Row α)) (left : α) (sv : α → Int) (h : sv left = 0) : Sums rows left [left] sv := by
  refine ⟨nd_one left, fun x hx => .inl (List.mem_singleton.mp hx), List.mem_singleton.mpr rfl, by omega, fun x hx u _ => ?_, fun x hx => ?_⟩
  · rw [List.mem_singleton] at hx
    subst hx
    omega
  · rw [List.mem_singleton] at hx
    subst hx
    have := span_nonneg rows
    simp
    omega
/-- a name is reached, or a sum is lowered, by a row -/
theorem Sums.step (S : Sums rows left ss sv) {a b : α} {c : Int} (hr : (a, b, c) ∈ rows) (ha : a ∈ ss) (h : b ∈ ss → sv a + c < sv b) : Sums rows left (addN ss b) (put sv b (sv a + c)) := by
  have hc : -span rows ≤ c ∧ c ≤ span rows := span_le hr
  have h0 := span_nonneg rows
  have hsa := S.up a ha
  have grow : ∀ n : Nat, span rows * ((n : Nat) : Int) ≤ span rows * ((n + 1 : Nat) : Int) := fun n => by
    have : span rows * ((n + 1 : Nat) : Int) = span rows * (n : Int) + span rows := by
      rw [Int.natCast_add, Int.mul_add]
      omega
    omega
  have hlen : b ∉ ss → (addN ss b).length = ss.length + 1 := fun k => by
    unfold addN
    rw [if_neg k, List.length_append]
    rfl
  have hlen2 : b ∈ ss → (addN ss b).length = ss.length := fun k => by
    unfold addN
    rw [if_pos k]
  refine ⟨nodup_addN S.nd, fun x hx => ?_, mem_addN.mpr (.inl S.has), ?_, fun x hx u hu => ?_, fun x hx => ?_⟩
  · rcases mem_addN.mp hx with q | q
    · exact S.sub x q
    · exact .inr ⟨_, hr, q⟩
  · by_cases k : left = b
    · subst k
      have := h S.has
      have := S.low
      rw [put_at]
      omega
    · rw [put_off k]
      exact S.low
  · by_cases k : x = b
    · subst k
      rw [put_at]
      have h1 := S.sound a ha u hu
      have h2 := hu _ hr
      simp only at h2
      omega
    · rw [put_off k]
      exact S.sound x ((mem_addN.mp hx).resolve_right k) u hu
  · by_cases k : x = b
    · subst k
      rw [put_at]
      by_cases m : x ∈ ss
      · have h1 := h m
        have h2 := S.up x m
        rw [hlen2 m]
        omega
      · rw [hlen m]
        have : span rows * ((ss.length + 1 : Nat) : Int) = span rows * (ss.length : Int) + span rows := by
          rw [Int.natCast_add, Int.mul_add]
          omega
        omega
    · rw [put_off k]
      have m := (mem_addN.mp hx).resolve_right k
      have h1 := S.up x m
      by_cases j : b ∈ ss
      · rw [hlen2 j]
        exact h1
      · rw [hlen j]
        have := grow ss.length
        omega
/-- what was done stays done, but for the name that is lowered -/
theorem Done.step {a b x : α} {c : Int} (D : Done rows ss sv x) (hx : x ≠ b) (h : b ∈ ss → sv a + c < sv b) : Done rows (addN ss b) (put sv b (sv a + c)) x := fun r hr e => by
  obtain ⟨h1, h2⟩ := D r hr e
  refine ⟨mem_addN.mpr (.inl h1), ?_⟩
  rw [put_off hx]
  by_cases k : r.2.1 = b
  · rw [k, put_at]
    have := h (k ▸ h1)
    rw [k] at h2
    omega
  · rw [put_off k]
    exact h2
/-! ### the measure -/
def ends_ (rows : List (Row α)) (left : α) : List α := left :: rows.map (·.2.1)
def far (rows : List (Row α)) (left : α) (v : α → Int) : Int := (((ends_ rows left).map fun x => (v left - v x).natAbs).sum : Nat)
theorem far_le {v : α → Int} {x : α} (h : x ∈ ends_ rows left) : -(far rows left v) ≤ v left - v x := by
  have : (v left - v x).natAbs ≤ ((ends_ rows left).map fun x => (v left - v x).natAbs).sum := by
    generalize ends_ rows left = l at h ⊢
    induction l with
    | nil => exact absurd h List.not_mem_nil
    | cons a t ih =>
      rw [List.map_cons, List.sum_cons]
      rcases List.mem_cons.mp h with e | e
      · subst e
        omega
      · have := ih e
        omega
  unfold far
  omega
def slack (rows : List (Row α)) (left : α) (v : α → Int) (ss : List α) (sv : α → Int) (x : α) : Int :=
  if x ∈ ss then sv x - (v left - v x) else span rows * ((rows.length + 1 : Nat) : Int) + far rows left v + 1
def gap (rows : List (Row α)) (left : α) (v : α → Int) (ss : List α) (sv : α → Int) : Int := ((ends_ rows left).map (slack rows left v ss sv)).sum
theorem Sums.few (S : Sums rows left ss sv) : ss.length ≤ rows.length + 1 := by
  have := nodup_le ss (ends_ rows left) S.nd fun x hx => by
    rcases S.sub x hx with e | ⟨r, hr, e⟩
    · exact e ▸ List.mem_cons_self
    · exact List.mem_cons_of_mem _ (List.mem_map.mpr ⟨r, hr, e.symm⟩)
  unfold ends_ at this
  rw [List.length_cons, List.length_map] at this
  exact this
theorem far_nonneg (rows : List (Row α)) (left : α) (v : α → Int) : 0 ≤ far rows left v := Int.natCast_nonneg _
theorem Sums.gap_nonneg (S : Sums rows left ss sv) {v : α → Int} (hv : Sat rows v) : 0 ≤ gap rows left v ss sv := by
  refine sum_nonneg _ _ fun x _ => ?_
  unfold slack
  split
  · rename_i h
    have := S.sound x h v hv
    omega
  · have h1 := far_nonneg rows left v
    have h2 : 0 ≤ span rows * ((rows.length + 1 : Nat) : Int) := Int.mul_nonneg (span_nonneg rows) (Int.natCast_nonneg _)
    omega
theorem Sums.gap_step (S : Sums rows left ss sv) {v : α → Int} {a b : α} {c : Int} (hr : (a, b, c) ∈ rows) (ha : a ∈ ss) (h : b ∈ ss → sv a + c < sv b) :
    gap rows left v (addN ss b) (put sv b (sv a + c)) < gap rows left v ss sv := by
  have S' := S.step hr ha h
  have hb : b ∈ ends_ rows left := List.mem_cons_of_mem _ (List.mem_map.mpr ⟨_, hr, rfl⟩)
  have key : slack rows left v (addN ss b) (put sv b (sv a + c)) b < slack rows left v ss sv b := by
    unfold slack
    rw [if_pos (mem_addN.mpr (.inr rfl)), put_at]
    by_cases k : b ∈ ss
    · rw [if_pos k]
      have := h k
      omega
    · rw [if_neg k]
      have h1 := S'.up b (mem_addN.mpr (.inr rfl))
      rw [put_at] at h1
      have h2 : span rows * ((addN ss b).length : Int) ≤ span rows * ((rows.length + 1 : Nat) : Int) := Int.mul_le_mul_of_nonneg_left (by have := S'.few; omega) (span_nonneg rows)
      have h3 := far_le (v := v) hb
      omega
  refine sum_lt _ _ _ b hb (fun x _ => ?_) key
  by_cases k : x = b
  · rw [k]
    exact Int.le_of_lt key
  · unfold slack
    rw [put_off k]
    by_cases m : x ∈ ss
    · rw [if_pos m, if_pos (mem_addN.mpr (.inl m))]
      exact Int.le_refl _
    · rw [if_neg m, if_neg fun q => k ((mem_addN.mp q).resolve_left m)]
      exact Int.le_refl _
/-! ### at the end -/
theorem big_le (f : Row α → Int) {r : Row α} (h : r ∈ rows) : f r ≤ (((rows.map fun r => (f r).natAbs).sum : Nat) : Int) := by
  have : (f r).natAbs ≤ (rows.map fun r => (f r).natAbs).sum := by
    induction rows with
    | nil => exact absurd h List.not_mem_nil
    | cons a t ih =>
      rw [List.map_cons, List.sum_cons]
      rcases List.mem_cons.mp h with e | e
      · subst e
        omega
      · have := ih e
        omega
  omega
/-- a solution with a greater difference -/
theorem Sums.wide (S : Sums rows left ss sv) (hd : ∀ a ∈ ss, Done rows ss sv a) {v : α → Int} (hv : Sat rows v) {right : α} {n : Int} (h : right ∈ ss → n < sv right) : ∃ u, Sat rows u ∧ n + 1 ≤ u left - u right := by
  refine ⟨fun x => if x ∈ ss then -sv x else v x - ((((rows.map fun r => (v r.1 + sv r.2.1 - r.2.2).natAbs).sum : Nat) : Int) + ((n + 1 + v right).natAbs : Int)), fun r hr => ?_, ?_⟩
  · show (if r.1 ∈ ss then _ else _) - (if r.2.1 ∈ ss then _ else _) ≤ r.2.2
    have hb : v r.1 + sv r.2.1 - r.2.2 ≤ _ := big_le (fun r => v r.1 + sv r.2.1 - r.2.2) hr
    have hs := hv r hr
    by_cases k : r.1 ∈ ss
    · obtain ⟨h1, h2⟩ := hd r.1 k r hr rfl
      rw [if_pos k, if_pos h1]
      omega
    · rw [if_neg k]
      by_cases j : r.2.1 ∈ ss
      · rw [if_pos j]
        omega
      · rw [if_neg j]
        omega
  · show n + 1 ≤ (if left ∈ ss then _ else _) - (if right ∈ ss then _ else _)
    rw [if_pos S.has]
    have hl := S.low
    by_cases k : right ∈ ss
    · rw [if_pos k]
      have := h k
      omega
    · rw [if_neg k]
      omega
/-- what a difference is implied by -/
def Told (rows : List (Row α)) (left right : α) (limit : Int) : Prop := ∀ u, Sat rows u → u left - u right ≤ limit
/-- the greatest value of left minus right (none: there is none) -/
def Best (rows : List (Row α)) (left right : α) (r : Option Int) : Prop := (∀ k, r = some k → Told rows left right k) ∧ ∀ n, (∀ k, r = some k → n < k) → ¬ Told rows left right n
theorem Sums.best (S : Sums rows left ss sv) (hd : ∀ a ∈ ss, Done rows ss sv a) {v : α → Int} (hv : Sat rows v) (right : α) : Best rows left right (if right ∈ ss then some (sv right) else none) := by
  refine ⟨fun k e => ?_, fun n h t => ?_⟩
  · by_cases m : right ∈ ss
    · rw [if_pos m] at e
      injection e with e
      subst e
      exact S.sound right m
    · rw [if_neg m] at e
      cases e
  · obtain ⟨u, h1, h2⟩ := S.wide hd hv (right := right) (n := n) fun m => h _ (by rw [if_pos m])
    have := t u h1
    omega
theorem told_denied {right : α} {limit : Int} : (∃ u, Sat (rows ++ [(right, left, 0 - limit - 1)]) u) ↔ ¬ Told rows left right limit := by
  constructor
  · rintro ⟨u, hu⟩ t
    have h1 := t u fun r hr => hu r (List.mem_append_left _ hr)
    have h2 := hu (right, left, 0 - limit - 1) (List.mem_append_right _ (List.mem_singleton.mpr rfl))
    simp only at h2
    omega
  · intro h
    have : ∃ u, Sat rows u ∧ ¬ u left - u right ≤ limit := by
      refine Classical.byContradiction fun k => h fun u hu => Classical.byContradiction fun j => k ⟨u, hu, j⟩
    obtain ⟨u, h1, h2⟩ := this
    refine ⟨u, fun r hr => ?_⟩
    rcases List.mem_append.mp hr with q | q
    · exact h1 r q
    · rw [List.mem_singleton] at q
      subst q
      show u right - u left ≤ 0 - limit - 1
      omega
theorem told_own {l r : α} {c : Int} (h : (l, r, c) ∈ rows) : Told rows l r c := fun u hu => hu _ h
end
end Lo
/-! The last causes of the sums lead back to the left side: a chain of the least sum. -/
namespace Lo
section
variable {α : Type} [DecidableEq α]
/-- from x back along the last causes -/
inductive Cway (rows : List (Row α)) (left : α) (cs : List α) (cz : α → Nat) : α → List Nat → Prop
  | here : Cway rows left cs cz left []
  | step {x a : α} {c : Int} {l : List Nat} : x ≠ left → x ∈ cs → rows[cz x]? = some (a, x, c) → Cway rows left cs cz a l → Cway rows left cs cz x (cz x :: l)
/-- a chain of rows by their places -/
inductive Path (rows : List (Row α)) : α → List Nat → α → Int → Prop
  | nil (a : α) : Path rows a [] a 0
  | cons {a m b : α} {j : Nat} {c s : Int} {l : List Nat} : rows[j]? = some (a, m, c) → Path rows m l b s → Path rows a (j :: l) b (c + s)
variable {rows : List (Row α)} {left : α} {ss cs : List α} {sv : α → Int} {cz : α → Nat}
theorem Path.snoc {a m x : α} {l : List Nat} {s c : Int} {j : Nat} (h : Path rows a l m s) (hj : rows[j]? = some (m, x, c)) : Path rows a (l ++ [j]) x (s + c) := by
  induction h with
  | nil a =>
    have q : Path rows a [j] x (c + 0) := .cons hj (.nil x)
    have e : (0 : Int) + c = c + 0 := by omega
    rw [e]
    exact q
  | @cons a m' b j' c' s' l' h1 h2 ih =>
    have q := Path.cons h1 (ih hj)
    have e : c' + s' + c = c' + (s' + c) := by omega
    rw [e]
    exact q
theorem Cway.fn {x : α} {l : List Nat} (h : Cway rows left cs cz x l) : ∀ {l' : List Nat}, Cway rows left cs cz x l' → l = l' := by
  induction h with
  | here =>
    intro l' h'
    cases h' with
    | here => rfl
    | step n => exact absurd rfl n
  | @step x a c l n hc hr h ih =>
    intro l' h'
    cases h' with
    | here => exact absurd rfl n
    | @step _ a' c' l'' n' hc' hr' h' =>
      rw [hr] at hr'
      injection hr' with e
      injection e with e1 e2
      subst e1
      rw [ih h']
theorem Cway.under {x : α} {l : List Nat} (h : Cway rows left cs cz x l) : ∀ j ∈ l, ∃ (z a : α) (c : Int) (l' : List Nat), rows[j]? = some (a, z, c) ∧ Cway rows left cs cz z l' ∧ l'.length ≤ l.length := by
  induction h with
  | here => exact fun j hj => absurd hj List.not_mem_nil
  | @step x a c l n hc hr h ih =>
    intro j hj
    rcases List.mem_cons.mp hj with e | e
    · subst e
      exact ⟨x, a, c, _, hr, .step n hc hr h, Nat.le_refl _⟩
    · obtain ⟨z, a', c', l', h1, h2, h3⟩ := ih j e
      exact ⟨z, a', c', l', h1, h2, by rw [List.length_cons]; omega⟩
theorem Cway.nodup {x : α} {l : List Nat} (h : Cway rows left cs cz x l) : l.Nodup := by
  induction h with
  | here => exact List.nodup_nil
  | @step x a c l n hc hr h ih =>
    refine List.nodup_cons.mpr ⟨fun m => ?_, ih⟩
    obtain ⟨z, a', c', l', h1, h2, h3⟩ := h.under _ m
    rw [hr] at h1
    injection h1 with e
    injection e with _ e
    injection e with e _
    subst e
    have := (Cway.step n hc hr h).fn h2
    rw [← this, List.length_cons] at h3
    omega
theorem Cway.lt {x : α} {l : List Nat} (h : Cway rows left cs cz x l) : ∀ j ∈ l, j < rows.length := fun j hj => by
  obtain ⟨_, _, _, _, h1, _⟩ := h.under j hj
  exact (List.getElem?_eq_some_iff.mp h1).1
/-- the sums with their last causes -/
structure SW (rows : List (Row α)) (left : α) (ss : List α) (sv : α → Int) (cs : List α) (cz : α → Nat) : Prop extends Sums rows left ss sv where
  way : ∀ x ∈ ss, ∃ l, Cway rows left cs cz x l
  cau : ∀ x ∈ ss, x ≠ left → ∀ (a : α) (c : Int), rows[cz x]? = some (a, x, c) → a ∈ ss ∧ sv a + c ≤ sv x
theorem Sums.zero (S : Sums rows left ss sv) {v : α → Int} (hv : Sat rows v) : sv left = 0 := by
  have h1 := S.low
  have h2 := S.sound left S.has v hv
  omega
/-- a name on the way to x, when its sum is lowered from x: none -/
theorem SW.past (S : SW rows left ss sv cs cz) {v : α → Int} (hv : Sat rows v) {b : α} {j : Nat} {x : α} {l : List Nat} (h : Cway rows left cs cz x l) (hx : x ∈ ss) (hb : b ≠ left) :
    (∃ l', Cway rows left (addN cs b) (put cz b j) x l') ∨ (b ∈ ss ∧ sv b + v b ≤ sv x + v x) := by
  induction h with
  | here => exact .inl ⟨[], .here⟩
  | @step x a c l n hc hr h ih =>
    by_cases k : x = b
    · subst k
      exact .inr ⟨hx, Int.le_refl _⟩
    · obtain ⟨h1, h2⟩ := S.cau x hx n a c hr
      have h3 := hv _ (List.mem_of_getElem? hr)
      simp only at h3
      rcases ih h1 with ⟨l', q⟩ | ⟨q1, q2⟩
      · refine .inl ⟨_, Cway.step (c := c) n (mem_addN.mpr (.inl hc)) ?_ q⟩
        rw [put_off k]
        exact hr
      · exact .inr ⟨q1, by omega⟩
theorem Cway.moved {b : α} {j : Nat} {lb : List Nat} (B : Cway rows left (addN cs b) (put cz b j) b lb) {x : α} {l : List Nat} (h : Cway rows left cs cz x l) : ∃ l', Cway rows left (addN cs b) (put cz b j) x l' := by
  induction h with
  | here => exact ⟨[], .here⟩
  | @step x a c l n hc hr h ih =>
    by_cases k : x = b
    · subst k
      exact ⟨_, B⟩
    · obtain ⟨l', q⟩ := ih
      refine ⟨_, Cway.step (c := c) n (mem_addN.mpr (.inl hc)) ?_ q⟩
      rw [put_off k]
      exact hr
theorem SW.step (S : SW rows left ss sv cs cz) {v : α → Int} (hv : Sat rows v) {a b : α} {c : Int} {j : Nat} (hr : rows[j]? = some (a, b, c)) (nab : a ≠ b) (ha : a ∈ ss) (h : b ∈ ss → sv a + c < sv b) :
    SW rows left (addN ss b) (put sv b (sv a + c)) (addN cs b) (put cz b j) := by
  have hm := List.mem_of_getElem? hr
  have T := S.toSums.step hm ha h
  have z := S.toSums.zero hv
  have hb : b ≠ left := fun e => by
    subst e
    have h1 := h S.has
    have h2 := S.sound a ha v hv
    have h3 := hv _ hm
    simp only at h3
    omega
  obtain ⟨la, wa⟩ := S.way a ha
  have hab : ∃ l', Cway rows left (addN cs b) (put cz b j) a l' := by
    rcases S.past hv (b := b) (j := j) wa ha hb with q | ⟨q1, q2⟩
    · exact q
    · have h1 := h q1
      have h3 := hv _ hm
      simp only at h3
      omega
  obtain ⟨la', wa'⟩ := hab
  have B : Cway rows left (addN cs b) (put cz b j) b (put cz b j b :: la') := by
    refine .step (c := c) hb (mem_addN.mpr (.inr rfl)) ?_ wa'
    rw [put_at]
    exact hr
  refine { T with way := fun x hx => ?_, cau := fun x hx nx a' c' hr' => ?_ }
  · by_cases k : x = b
    · subst k
      exact ⟨_, B⟩
    · obtain ⟨l, w⟩ := S.way x ((mem_addN.mp hx).resolve_right k)
      exact B.moved w
  · by_cases k : x = b
    · subst k
      rw [put_at, hr] at hr'
      injection hr' with e
      injection e with e1 e
      injection e with _ e2
      subst e1 e2
      refine ⟨mem_addN.mpr (.inl ha), ?_⟩
      rw [put_at, put_off nab]
      exact Int.le_refl _
    · rw [put_off k] at hr'
      obtain ⟨h1, h2⟩ := S.cau x ((mem_addN.mp hx).resolve_right k) nx a' c' hr'
      refine ⟨mem_addN.mpr (.inl h1), ?_⟩
      rw [put_off k]
      by_cases m : a' = b
      · subst m
        rw [put_at]
        have := h h1
        omega
      · rw [put_off m]
        exact h2
theorem SW.start (rows : List (Row α)) (left : α) (sv : α → Int) (cz : α → Nat) (h : sv left = 0) : SW rows left [left] sv [] cz := by
  refine { Sums.start rows left sv h with way := fun x hx => ?_, cau := fun x hx nx => absurd (List.mem_singleton.mp hx) nx }
  rw [List.mem_singleton] at hx
  subst hx
  exact ⟨[], .here⟩
theorem SW.path (S : SW rows left ss sv cs cz) (hd : ∀ a ∈ ss, Done rows ss sv a) (z : sv left = 0) {x : α} {l : List Nat} (h : Cway rows left cs cz x l) (hx : x ∈ ss) : Path rows left l.reverse x (sv x) := by
  induction h with
  | here =>
    rw [z]
    exact .nil left
  | @step x a c l n hc hr h ih =>
    obtain ⟨h1, h2⟩ := S.cau x hx n a c hr
    have h3 := (hd a h1 _ (List.mem_of_getElem? hr) rfl).2
    simp only at h3
    have e : sv x = sv a + c := by omega
    rw [List.reverse_cons, e]
    exact (ih h1).snoc hr
/-- the chain that is read off -/
def Chain (rows : List (Row α)) (left right : α) (k : Int) (l : List Nat) : Prop := l.Nodup ∧ (∀ j ∈ l, j < rows.length) ∧ Path rows left l.reverse right k
theorem SW.chain (S : SW rows left ss sv cs cz) (hd : ∀ a ∈ ss, Done rows ss sv a) {v : α → Int} (hv : Sat rows v) {right : α} (hr : right ∈ ss) :
    ∃ l, Cway rows left cs cz right l ∧ Chain rows left right (sv right) l := by
  obtain ⟨l, w⟩ := S.way right hr
  exact ⟨l, w, w.nodup, w.lt, S.path hd (S.toSums.zero hv) w hr⟩
/-- the sides alike: nothing between them -/
theorem best_self {v : α → Int} (hv : Sat rows v) {b : Option Int} (B : Best rows left left b) : b = some 0 := by
  cases b with
  | none => exact absurd (fun u _ => by omega) (B.2 0 fun k e => nomatch e)
  | some k =>
    have h1 := B.1 k rfl v hv
    by_cases h : 0 < k
    · exact absurd (fun u _ => by omega) (B.2 0 fun k' e => by injection e with e; omega)
    · have : k = 0 := by omega
      rw [this]
/-- no greatest value: there are solutions as far as one wishes -/
theorem best_far {right : α} (B : Best rows left right none) (n : Int) : ∃ u, Sat (rows ++ [(right, left, 0 - n)]) u := by
  have h := B.2 n fun k e => nomatch e
  have : ∃ u, Sat rows u ∧ ¬ u left - u right ≤ n := Classical.byContradiction fun k => h fun u hu => Classical.byContradiction fun j => k ⟨u, hu, j⟩
  obtain ⟨u, h1, h2⟩ := this
  refine ⟨u, fun r hr => ?_⟩
  rcases List.mem_append.mp hr with q | q
  · exact h1 r q
  · rw [List.mem_singleton] at q
    subst q
    show u right - u left ≤ 0 - n
    omega
theorem best_near {right : α} {n : Int} (B : Best rows left right (some n)) : ∃ u, Sat (rows ++ [(right, left, 0 - n)]) u := by
  have h := B.2 (n - 1) fun k e => by injection e with e; omega
  have : ∃ u, Sat rows u ∧ ¬ u left - u right ≤ n - 1 := Classical.byContradiction fun k => h fun u hu => Classical.byContradiction fun j => k ⟨u, hu, j⟩
  obtain ⟨u, h1, h2⟩ := this
  refine ⟨u, fun r hr => ?_⟩
  rcases List.mem_append.mp hr with q | q
  · exact h1 r q
  · rw [List.mem_singleton] at q
    subst q
    show u right - u left ≤ 0 - n
    omega
theorem best_beyond {right : α} {n : Int} (B : Best rows left right (some n)) (u : α → Int) : ¬ Sat (rows ++ [(right, left, 0 - n - 1)]) u := fun h => told_denied.mp ⟨u, h⟩ (B.1 n rfl)
end
end Lo
namespace Lo
open PySem L2
abbrev SRow := Row Str
/-! ### dicts with text keys -/
def dS (ks : List Str) (f : Str → V) : List (Key × V) := ks.map fun x => ((Sum.inr x : Key), f x)
theorem dS_len (ks : List Str) (f : Str → V) : (dS ks f).length = ks.length := List.length_map ..
theorem dS_val (f : Str → V) (x : Str) : ∀ ks : List Str, valV (dS ks f) (Sum.inr x) = if x ∈ ks then some (f x) else none
  | [] => rfl
  | y :: ks => by
    have ih := dS_val f x ks
    by_cases h : y = x
    · subst h
      rw [if_pos List.mem_cons_self]
      exact valV_pos (p := ((Sum.inr y : Key), f y)) rfl
    · have e : valV (dS (y :: ks) f) (Sum.inr x) = valV (dS ks f) (Sum.inr x) := valV_neg (p := ((Sum.inr y : Key), f y)) fun q => h (Sum.inr.inj q)
      rw [e, ih]
      by_cases m : x ∈ ks
      · rw [if_pos m, if_pos (List.mem_cons_of_mem _ m)]
      · rw [if_neg m, if_neg fun q => (List.mem_cons.mp q).elim (fun z => h z.symm) m]
theorem dS_in {ks : List Str} {f : Str → V} {x : Str} (h : x ∈ ks) : valV (dS ks f) (Sum.inr x) = some (f x) := by rw [dS_val, if_pos h]
theorem dS_out {ks : List Str} {f : Str → V} {x : Str} (h : x ∉ ks) : valV (dS ks f) (Sum.inr x) = none := by rw [dS_val, if_neg h]
theorem dS_congr {ks : List Str} {f g : Str → V} (h : ∀ x ∈ ks, f x = g x) : dS ks f = dS ks g := List.map_congr_left fun x hx => by rw [h x hx]
theorem dS_any {ks : List Str} {f : Str → V} {x : Str} : ((dS ks f).any fun kv => decide (kv.1 = Sum.inr x)) = true ↔ x ∈ ks := by
  rw [valV_any, dS_val]
  by_cases m : x ∈ ks
  · rw [if_pos m]
    exact ⟨fun _ => m, fun _ => rfl⟩
  · rw [if_neg m]
    exact ⟨(fun q => nomatch q), fun q => absurd q m⟩
theorem dS_put (ks : List Str) (f : Str → V) (x : Str) (v : V) : putK (dS ks f) (Sum.inr x) v = dS (addN ks x) (put f x v) := by
  unfold putK addN
  by_cases m : x ∈ ks
  · rw [if_pos (dS_any.mpr m), if_pos m]
    unfold dS
    rw [List.map_map]
    refine List.map_congr_left fun y _ => ?_
    show (if (Sum.inr y : Key) = Sum.inr x then ((Sum.inr y : Key), v) else ((Sum.inr y : Key), f y)) = ((Sum.inr y : Key), put f x v y)
    by_cases j : y = x
    · subst j
      rw [if_pos rfl, put_at]
    · rw [if_neg fun q => j (Sum.inr.inj q), put_off j]
  · rw [if_neg fun q => m (dS_any.mp q), if_neg m]
    have e : dS ks (put f x v) = dS ks f := dS_congr fun y hy => put_off fun q => m (q ▸ hy)
    show dS ks f ++ [((Sum.inr x : Key), v)] = (ks ++ [x]).map _
    rw [List.map_append]
    show _ = dS ks (put f x v) ++ [((Sum.inr x : Key), put f x v x)]
    rw [e, put_at]
theorem dS_keys (ks : List Str) (f : Str → V) : (dS ks f).map (fun kv => kV kv.1) = ks.map V.str := by
  unfold dS
  rw [List.map_map]
  rfl
theorem dget {H : Hp} {a : Addr} {ks : List Str} {f : Str → V} {x : Str} (e : H a = some (.dK (dS ks f))) (h : x ∈ ks) : DGet H a (.str x) (some (f x)) := by
  have q := DGet.k (k := Sum.inr x) e
  rw [dS_in h] at q
  exact q
theorem dget0 {H : Hp} {a : Addr} {ks : List Str} {f : Str → V} {x : Str} (e : H a = some (.dK (dS ks f))) (h : x ∉ ks) : DGet H a (.str x) none := by
  have q := DGet.k (k := Sum.inr x) e
  rw [dS_out h] at q
  exact q
theorem dgetI {H : Hp} {a : Addr} {ks : List Str} {f : Str → V} (x : Str) (e : H a = some (.dK (dS ks f))) : DGet H a (.str x) (if x ∈ ks then some (f x) else none) := by
  have q := DGet.k (k := Sum.inr x) e
  rw [dS_val] at q
  exact q
theorem dput {H : Hp} {a : Addr} {ks : List Str} {f : Str → V} (x : Str) (v : V) (e : H a = some (.dK (dS ks f))) (h : ks.length ≤ 1000) : DPut H a (.str x) v (upd H a (.dK (dS (addN ks x) (put f x v)))) := by
  have q := DPut.k (k := Sum.inr x) (v := v) e (by rw [dS_len]; exact small1000 h)
  rw [dS_put] at q
  exact q
/-! ### heaps -/
theorem same_upd {H : Hp} {p : Addr} {o : HO} (h : H p = none) : Same H (upd H p o) := fun b x e => by
  rw [upd_ne (ne_of_none e h)]
  exact e
/-- what was tracked at the beginning is as it was, though a later thing changes -/
theorem _root_.L2.Same.later {H H' : Hp} {p : Addr} {o : HO} (s : Same H H') (h : H p = none) : Same H (upd H' p o) := fun b x e => by
  rw [upd_ne (ne_of_none e h)]
  exact s b x e
/-! ### systems -/
def rowV (r : SRow) : List V := [.str r.1, .str r.2.1, .int r.2.2]
def RowT (H : Hp) (p : Addr) (r : SRow) : Prop := H p = some (.tup (rowV r))
def RowA (H : Hp) (p : Addr) (r : SRow) : Prop := H p = some (.tup (rowV r)) ∨ H p = some (.lst (rowV r))
/-- a list of rows at a -/
def Sys (R : Hp → Addr → SRow → Prop) (H : Hp) (a : Addr) (rows : List SRow) : Prop :=
  ∃ ps : List Addr, H a = some (.lst (ps.map V.ref)) ∧ ps.length = rows.length ∧ ∀ (i : Nat) (p : Addr) (r : SRow), ps[i]? = some p → rows[i]? = some r → R H p r
def Good1 (r : SRow) : Prop := r.1 ≠ r.2.1 ∧ r.1 ≠ ("" : Str) ∧ r.2.1 ≠ ("" : Str)
structure Good (rows : List SRow) : Prop where
  row : ∀ r ∈ rows, Good1 r
  few : rows.length ≤ 100
theorem RowT.same {H H' : Hp} {p : Addr} {r : SRow} (s : Same H H') (h : RowT H p r) : RowT H' p r := s _ _ h
theorem RowA.same {H H' : Hp} {p : Addr} {r : SRow} (s : Same H H') (h : RowA H p r) : RowA H' p r := h.imp (fun h => s _ _ h) fun h => s _ _ h
theorem RowT.any {H : Hp} {p : Addr} {r : SRow} (h : RowT H p r) : RowA H p r := .inl h
theorem Sys.sameT {H H' : Hp} {a : Addr} {rows : List SRow} (s : Same H H') (h : Sys RowT H a rows) : Sys RowT H' a rows := by
  obtain ⟨ps, h1, h2, h3⟩ := h
  exact ⟨ps, s _ _ h1, h2, fun i p r hp hr => (h3 i p r hp hr).same s⟩
theorem Sys.sameA {H H' : Hp} {a : Addr} {rows : List SRow} (s : Same H H') (h : Sys RowA H a rows) : Sys RowA H' a rows := by
  obtain ⟨ps, h1, h2, h3⟩ := h
  exact ⟨ps, s _ _ h1, h2, fun i p r hp hr => (h3 i p r hp hr).same s⟩
theorem Sys.any {H : Hp} {a : Addr} {rows : List SRow} (h : Sys RowT H a rows) : Sys RowA H a rows := by
  obtain ⟨ps, h1, h2, h3⟩ := h
  exact ⟨ps, h1, h2, fun i p r hp hr => (h3 i p r hp hr).any⟩
/-- the i-th row of a system -/
theorem Sys.at {R : Hp → Addr → SRow → Prop} {H : Hp} {rows : List SRow} {ps : List Addr} (h2 : ps.length = rows.length) (h3 : ∀ (i : Nat) (p : Addr) (r : SRow), ps[i]? = some p → rows[i]? = some r → R H p r) {i : Nat} {v : V} (hv : (ps.map V.ref)[i]? = some v) :
    ∃ p r, v = .ref p ∧ ps[i]? = some p ∧ rows[i]? = some r ∧ r ∈ rows ∧ i < rows.length ∧ R H p r := by
  rw [List.getElem?_map] at hv
  cases e : ps[i]? with
  | none =>
    rw [e] at hv
    cases hv
  | some p =>
    rw [e] at hv
    have hi : i < ps.length := (List.getElem?_eq_some_iff.mp e).1
    have hi2 : i < rows.length := h2 ▸ hi
    refine ⟨p, rows[i], (Option.some.inj hv).symm, rfl, List.getElem?_eq_getElem hi2, List.getElem_mem hi2, hi2, h3 i p _ e (List.getElem?_eq_getElem hi2)⟩
/-- what the module's names hold -/
structure Blt (mg : Str → Option Value) : Prop where
  isi : mg "isinstance" = none
  int : mg "int" = none
  bool : mg "bool" = none
  str : mg "str" = none
  tuple : mg "tuple" = none
  list : mg "list" = none
  len : mg "len" = none
  enum : mg "enumerate" = none
  range : mg "range" = none
  all : mg "all" = none
end Lo
/-! set(xs) of things that are all different, and sorted of it: an entry for each, a list of as many. -/
namespace Lo
open PySem PySem.Spec PyProof.Rows L2
section
variable {P : Program} {w : World} {κ : Type} [DecidableEq κ]
/-- the set at a has as many entries as ks has keys, each of one of them; its table can be walked -/
def SetN (knd : KeyKind P w κ) (h : Heap) (a : Addr) (ks : List κ) : Prop :=
  ∃ (ob : Obj) (es : Array (Int × Value)) (ep : Nat) (tb : SetTable), h.get? a = some ob ∧ ob.ExactSet ∧ ob.data = .set es ep tb ∧
    (∀ e ∈ es.toList, (∃ k, k ∈ ks ∧ knd.is k e.2 = true ∧ e.1 = knd.hash k) ∧ e.2.scannable = true) ∧ es.size = ks.length ∧ es.size < scanBound ∧
    tb.fits es.size = true ∧ Ris tb.place.toList ∧ (w.params.followText "set-order" = true ∨ tb.led = true)
variable {knd : KeyKind P w κ} {A : Around} {E : Value → Shared → Prop} {s : Shared} {a : Addr} {ks : List κ}
theorem SetN.at {h h' : Heap} (N : SetN knd h a ks) (keep : ∀ o, h.get? a = some o → h'.get? a = some o) : SetN knd h' a ks := by
  obtain ⟨ob, es, ep, tb, hob, more⟩ := N
  exact ⟨ob, es, ep, tb, keep ob hob, more⟩
/-- behind the laying of an entry: the table is stored, and laid anew where it is too full -/
theorem setN_tail {give : Bool → Sem Unit} (hgive : ∀ (b : Bool) (s1 : Shared) (Q' : Unit → Shared → Prop), Q' () s1 → wpAny (model P w) A (give b) Q' E s1) {ob : Obj} {es : Array (Int × Value)} {ep : Nat} {tb : SetTable}
    (hob : s.heap.get? a = some ob) (hex : ob.ExactSet) (hdt : ob.data = .set es ep tb) {es1 : Array (Int × Value)} {tb2 : SetTable}
    (hall : ∀ e ∈ es1.toList, (∃ k, k ∈ ks ∧ knd.is k e.2 = true ∧ e.1 = knd.hash k) ∧ e.2.scannable = true) (hsz : es1.size = ks.length) (hbd : es1.size < scanBound) (hfit : tb2.fits es1.size = true)
    (hris : Ris tb2.place.toList) (hled : w.params.followText "set-order" = true ∨ tb2.led = true) {old : Bool} {R : Option Bool → Shared → Prop}
    (hR : ∀ h', Heap.SameBut a s.heap h' → SetN knd h' a ks → R (some true) { s with heap := h' }) :
    wpAny (model P w) A (do
        storeSet a es1 tb2
        if (!old && tb2.tooFull) = true then do
            give (relayAll tb2 es1 (SetTable.grown es1.size)).2.2
            storeSet a (relayAll tb2 es1 (SetTable.grown es1.size)).1 (relayAll tb2 es1 (SetTable.grown es1.size)).2.1
            pure (some true)
          else pure (some true)) R E s := by
  refine wpAny_bind (wpAny_storeSet_of hob hdt ?_ (fits_of_scanBound hbd))
  have hob1 := store_at (es' := es1) (t' := tb2) hob hdt
  have but1 := Heap.SameBut.update s.heap a (Obj.putSet es1 tb2)
  split
  · have pe := relayAll_perm tb2 es1 (SetTable.grown es1.size)
    have fi := relayAll_fits tb2 es1 (SetTable.grown es1.size)
    have ri := relayAll_ris tb2 es1 (SetTable.grown es1.size)
    have le := relayAll_led tb2 es1 (SetTable.grown es1.size)
    generalize relayAll tb2 es1 (SetTable.grown es1.size) = out at pe fi ri le ⊢
    obtain ⟨es2, tb3, gave⟩ := out
    dsimp only at pe fi ri le ⊢
    have hsz2 : es2.size = es1.size := by
      have q := pe.length_eq
      rw [Array.length_toList, Array.length_toList] at q
      exact q
    have hbd2 : es2.size < scanBound := hsz2 ▸ hbd
    refine wpAny_bind (hgive _ _ _ ?_)
    refine wpAny_bind (wpAny_storeSet_of hob1 rfl ?_ (fits_of_scanBound hbd2))
    have hob2 := store_at (es' := es2) (t' := tb3) hob1 rfl
    refine wpAny_pure (hR _ (but1.trans (Heap.SameBut.update _ a _)) ?_)
    exact ⟨_, es2, _, tb3, hob2, hex, rfl, fun e he => hall e (pe.mem_iff.mp he), hsz2.trans hsz, hbd2, fi, ri, hled.elim .inl fun z => .inr (le.trans z)⟩
  · exact wpAny_pure (hR _ but1 ⟨_, es1, _, tb2, hob1, hex, rfl, hall, hsz, hbd, hfit, hris, hled⟩)
/-- one more key, which is not among them -/
theorem setN_new {k : κ} {x : Value} {Q : Bool → Shared → Prop} (N : SetN knd s.heap a ks) (hkey : knd.is k x = true) (hscan : x.scannable = true) (hnew : k ∉ ks) (hroom : ks.length + 1 < scanBound)
    (hQ : ∀ h', Heap.SameBut a s.heap h' → SetN knd h' a (k :: ks) → Q true { s with heap := h' }) : wpAny (model P w) A (setAddHashed a x (knd.hash k)) Q E s := by
  obtain ⟨ob, es, ep, tb, hob, hex, hdt, hall, hsz, hbd, hfit, hris, hled⟩ := N
  have elems : ElemsOf knd es.toList := fun e he => by
    obtain ⟨⟨j, _, h2, h3⟩, h4⟩ := hall e he
    exact ⟨⟨j, h2, h3⟩, h4⟩
  have miss : List.findIdx? (fun e : Int × Value => knd.is k e.2) es.toList = none := by
    rw [List.findIdx?_eq_none_iff]
    intro e he
    cases q : knd.is k e.2 with
    | false => rfl
    | true =>
      obtain ⟨⟨j, h1, h2, _⟩, _⟩ := hall e he
      exact absurd (knd.inj e.2 k j q h2 ▸ h1) hnew
  unfold setAddHashed
  unfold setAddHashedIn
  refine wpAny_holding (wpAny_bind (wpAny_setState_of hob hdt hfit ?_))
  dsimp only
  rw [byScan_of hscan hbd elems]
  simp only [↓reduceIte]
  unfold setAddByScan
  refine wpAny_bind ?_
  refine wpAny_bind (wpAny_rule ?_)
  refine wpAny_bind (wpAny_setScan_of hkey hob hdt hfit elems ?_)
  rw [miss]
  dsimp only
  have quiet : ∀ (b : Bool) {s1 : Shared} {Q' : Unit → Shared → Prop}, Q' () s1 → wpAny (model P w) A (match b with | true => rule "set.scan.the-table-gave-way" | false => pure ()) Q' E s1 := fun b s1 Q' q => by
    cases b
    · exact wpAny_pure q
    · exact wpAny_rule q
  have pe := layNew_perm tb es (knd.hash k) x
  have fi := layNew_fits tb es (knd.hash k) x
  have ri := layNew_ris tb es (knd.hash k) x hris
  have le := layNew_led tb es (knd.hash k) x
  generalize layNew tb es (knd.hash k) x = out at pe fi ri le ⊢
  obtain ⟨es1, tb1, old, gave⟩ := out
  dsimp only at pe fi ri le ⊢
  rw [Array.toList_push] at pe
  have hsz1 : es1.size = (k :: ks).length := by
    have q := pe.length_eq
    rw [Array.length_toList, List.length_append, Array.length_toList, hsz] at q
    exact q
  have hbd1 : es1.size < scanBound := by
    rw [hsz1]
    exact hroom
  have hall1 : ∀ e ∈ es1.toList, (∃ j, j ∈ k :: ks ∧ knd.is j e.2 = true ∧ e.1 = knd.hash j) ∧ e.2.scannable = true := fun e he => by
    rcases List.mem_append.mp (pe.mem_iff.mp he) with z | z
    · obtain ⟨⟨j, h1, h2⟩, h3⟩ := hall e z
      exact ⟨⟨j, List.mem_cons_of_mem _ h1, h2⟩, h3⟩
    · rw [List.mem_singleton] at z
      subst z
      exact ⟨⟨k, List.mem_cons_self, hkey, rfl⟩, hscan⟩
  have led1 : w.params.followText "set-order" = true ∨ tb1.led = true := hled.elim .inl fun z => .inr (le.trans z)
  refine wpAny_bind (quiet _ ?_)
  split
  · refine wpAny_bind ?_
    rw [hashByValue_scannable 8 hscan]
    refine wpAny_pure ?_
    refine setN_tail ?_ hob hex hdt hall1 hsz1 hbd1 ?_ ?_ ?_ ?_
    · intro b s1 Q' q
      cases b
      · exact wpAny_pure q
      · exact wpAny_rule q
    · first | (split <;> first | exact fi | exact SetTable.fits_plain_off fi) | exact fi
    · first | (split <;> exact ri) | exact ri
    · first | (split <;> exact led1) | exact led1
    · intro h' but N1
      dsimp only
      exact wpAny_pure (hQ h' but N1)
  · refine wpAny_bind (wpAny_pure ?_)
    simp only [↓reduceIte]
    refine setN_tail ?_ hob hex hdt hall1 hsz1 hbd1 fi ri led1 ?_
    · intro b s1 Q' q
      cases b
      · exact wpAny_pure q
      · exact wpAny_rule q
    · intro h' but N1
      dsimp only
      exact wpAny_pure (hQ h' but N1)
end
section
variable {prog : Program} {w : World} {κ : Type} [DecidableEq κ] {knd : KeyKind prog w κ} {A : Around} {R : Result → Shared → Prop} {I : Addr} {fp wr : List Addr} {G : Array GenState → Array GenState → Prop} {n : Nat} {Pv : Nat → Value → Prop} {St : Nat → Shared → Prop}
/-- set.update's loop over keys that are all different -/
theorem setN_loop (W : WalksS prog w A.in1 I fp wr G n Pv St) (S : Addr) (hfp : S ∉ fp) (ks : List κ) (hlen : ks.length = n) (hdiff : ks.Nodup) (hroom : n + 1 < scanBound)
    (hval : ∀ i v, Pv i v → ∃ k, ks[i]? = some k ∧ knd.is k v = true ∧ v.scannable = true) :
    ∀ (m i : Nat) (s : Shared), n - i = m → i ≤ n → St i s → SetN knd s.heap S (ks.take i).reverse →
      (∀ s', Moved (S :: wr) G s s' → SetN knd s'.heap S ks.reverse → R (.ok (.ret .none)) s') → codeAny (model prog w) A (.builtin "set.update.loop" ⟨[.ref S, .ref I], []⟩) R s := by
  have hwr : S ∉ wr := fun z => hfp (W.sub _ z)
  have more : ∀ b ∈ wr, b ∈ S :: wr := fun b hb => List.mem_cons_of_mem _ hb
  intro m
  induction m with
  | zero =>
    intro i s hm hi st N fin
    obtain rfl : i = n := by omega
    refine codeAny_builtin PyProof.Rows.F.entry_set_update_loop ?_
    rw [Around.under_plainId PyProof.Rows.F.plain_set_update_loop _]
    show wpAny _ A.in1 (pyNext (.ref I) >>= _) _ _ s
    refine wpAny_bind (W.done s _ _ st fun s' mv => ?_)
    show wpAny _ A.in1 (ret Value.none) _ _ s'
    rw [List.take_of_length_le (Nat.le_of_eq hlen)] at N
    exact wpAny_pure (fin s' (mv.mono more) (N.at fun o e => mv.heap S _ hwr e))
  | succ m ih =>
    intro i s hm hi st N fin
    have hlt : i < n := by omega
    refine codeAny_builtin PyProof.Rows.F.entry_set_update_loop ?_
    rw [Around.under_plainId PyProof.Rows.F.plain_set_update_loop _]
    show wpAny _ A.in1 (pyNext (.ref I) >>= _) _ _ s
    refine wpAny_bind (W.item i s _ _ hlt st fun v s1 hv st1 mv => ?_)
    obtain ⟨k, hk, his, hsc⟩ := hval i v hv
    have N1 : SetN knd s1.heap S (ks.take i).reverse := N.at fun o e => mv.heap S _ hwr e
    have hi2 : i < ks.length := hlen ▸ hlt
    have ek : ks[i] = k := by
      rw [List.getElem?_eq_getElem hi2] at hk
      exact Option.some.inj hk
    have fresh : k ∉ (ks.take i).reverse := fun z => by
      rw [List.mem_reverse] at z
      have d := hdiff
      rw [← List.take_append_drop i ks] at d
      exact (List.nodup_append.mp d).2.2 k z k (by rw [List.drop_eq_getElem_cons hi2, ek]; exact List.mem_cons_self) rfl
    have etake : (ks.take (i + 1)).reverse = k :: (ks.take i).reverse := by
      rw [List.take_add_one, hk]
      show (ks.take i ++ [k]).reverse = _
      rw [List.reverse_append]
      rfl
    show wpAny _ A.in1 (holding [v] (setAdd S v) >>= _) _ _ s1
    refine wpAny_bind (wpAny_holding ?_)
    unfold setAdd
    refine wpAny_holding ?_
    refine wpAny_bind (knd.pyHash (k := k) his ?_)
    refine setN_new (s := { s1 with toks := s1.toks + 1 }) N1 his hsc fresh ?_ fun h' but N2 => ?_
    · rw [List.length_reverse, List.length_take]
      omega
    have N3 : SetN knd h' S (ks.take (i + 1)).reverse := by
      rw [etake]
      exact N2
    refine wpAny_pure ⟨plainId_quiet PyProof.Rows.F.plain_set_update_loop _, ih (i + 1) _ (by omega) hlt (W.frame _ s1 _ _ st1 (Nat.le_succ _) fun b hb o e => ?_) N3 fun s2 mv2 N4 => ?_⟩
    · have nb : b ≠ S := fun z => hfp (z ▸ hb)
      rw [but.2 b nb]
      exact e
    · refine fin s2 (Moved.trans W.gtrans ((mv.mono more).then_heap (Nat.le_succ _) fun b o hb e => ?_) mv2) N4
      have nb : b ≠ S := fun z => hb (z ▸ List.mem_cons_self)
      rw [but.2 b nb]
      exact e
end
section
variable {P : Program} {w : World} {κ : Type} [DecidableEq κ] {knd : KeyKind P w κ} {A : Around} {E : Value → Shared → Prop} {s : Shared}
abbrev bareSet (w : World) : Obj := { cls := .type "set", dict := none, data := .set #[] 0 (.fresh 0 0 (!w.params.followText "set-order")) }
theorem setN_bare {h : Heap} {a : Addr} (e : h.get? a = some (bareSet w)) : SetN knd h a [] := by
  refine ⟨_, #[], 0, _, e, ⟨rfl, rfl, rfl⟩, rfl, fun e he => ?_, rfl, by decide, by rfl, List.Pairwise.nil, ?_⟩
  · simp at he
  · show _ ∨ (!w.params.followText "set-order") = true
    cases w.params.followText "set-order"
    · exact .inr rfl
    · exact .inl rfl
set_option maxHeartbeats 3200000 in
/-- set(a list) -/
theorem call_setN {l : Addr} {its : Array Value} {ks : List κ} {Q : Value → Shared → Prop} (hand : A.handled = none) (hlist : s.heap.IsList l its) (hlen : ks.length = its.size) (hdiff : ks.Nodup) (hroom : its.size + 1 < scanBound)
    (hits : ∀ (i : Nat) (v : Value), its[i]? = some v → ∃ k, ks[i]? = some k ∧ knd.is k v = true ∧ v.scannable = true)
    (hQ : ∀ (h' : Heap) (tk : Nat), SetN knd h' s.heap.objs.size ks.reverse → (∀ b o, s.heap.get? b = some o → h'.get? b = some o) → Q (.ref s.heap.objs.size) { s with heap := h', toks := tk }) :
    wpAny (model P w) A (call (.type "set") [.ref l]) Q E s := by
  obtain ⟨c, tl, hmro⟩ := PySem.F.called_set.mro
  have hmade := PySem.F.called_set.made
  have hsub := PySem.F.called_set.sub
  refine wpAny_call (codeAny_of_tree ?_)
  show wpAny _ _ (callAny (.type "set") _) _ _ _
  refine wpAny_pure ⟨Code.quiet_builtin _ (by decide +kernel), codeAny_builtin PySem.F.entry_type_call ?_⟩
  rw [Around.under_plain (weight_type_call_type "set" [.ref l] []) rfl]
  have hnt := PySem.F.called_set.notType
  have hcc := PySem.F.called_set.canCreate
  have hct := PySem.F.typeCall_set_1 (.ref l)
  repeat (any_goals (first | assumption | wp_step))
  refine codeAny_mono (code_set_led1 (.ref l) (E := E) (Q₁ := fun ob s1 => ob = .ref s.heap.objs.size ∧ s1 = { s with heap := s.heap.push (bareSet w) }) ⟨rfl, rfl⟩) fun r s1 hr => ?_
  cases r with
  | error e => exact hr
  | ok fl =>
    cases fl with
    | ret ob =>
      obtain ⟨rfl, rfl⟩ := hr
      have hnew : (s.heap.push (bareSet w)).get? s.heap.objs.size = some (bareSet w) := Heap.get?_push_size _ rfl
      have hty : Shared.TypeIs { s with heap := s.heap.push (bareSet w) } (.ref s.heap.objs.size) "set" := ⟨_, hnew, rfl⟩
      have hli := PySem.F.called_set.init.lookup
      have hbi := PySem.F.called_set.init.bind (.ref s.heap.objs.size)
      repeat (any_goals (first | assumption | wp_step))
      refine codeAny_mono (codeAny_call_builtin (R := wants (fun r s2 => r = .none ∧ ∃ h' tk, s2 = { s with heap := h', toks := tk } ∧ SetN knd h' s.heap.objs.size ks.reverse ∧
          (∀ b o, s.heap.get? b = some o → h'.get? b = some o)) E) PySem.F.called_set.init.plain PySem.F.entry_set_init (check_set_init_1 hty ?_)) fun r2 s2 hr2 => ?_
      · obtain ⟨ol, hol, hcl, nl, hdl⟩ := hlist
        obtain ⟨ocls, odict, odata, oslots⟩ := ol
        simp only at hcl hdl
        subst hcl
        subst hdl
        have hol1 : (s.heap.push (bareSet w)).get? l = some { cls := .type "list", dict := odict, data := .seq its nl, slots := oslots } := Heap.get?_push_of_some _ hol
        have hsls := PySem.F.sub_list_set
        have hslf := PySem.F.sub_list_frozenset
        have hne : (Value.type "list" == Value.type "dict") = false := by decide
        have hl1 : (s.heap.push (bareSet w)).IsList l its := ⟨_, hol1, rfl, nl, rfl⟩
        unfold Builtin.«set.__init__»
        unfold noKeywords
        unfold Builtin.Frozenset.updateFrom
        generalize hPI : pyIter = PI
        wp_walk
        subst hPI
        refine wpAny_pyIter_list hl1 ?_
        refine wpAny_bind (wpAny_runValue ?_)
        have hlS : l < s.heap.objs.size := Heap.lt_size hol
        have hh3 : A.in1.in1.in1.handled = none := by simp [hand]
        have hzz : (s.heap.push (bareSet w)).objs.size = s.heap.objs.size + 1 := Heap.size_push ..
        have hneI : l ≠ (s.heap.push (bareSet w)).objs.size := by
          rw [hzz]
          exact Nat.ne_of_lt (Nat.lt_succ_of_lt hlS)
        have hfp : s.heap.objs.size ∉ [(s.heap.push (bareSet w)).objs.size, l] := by
          rw [hzz]
          intro z
          rcases List.mem_cons.mp z with z | z
          · exact absurd z (Nat.ne_of_lt (Nat.lt_succ_self _))
          · exact absurd (List.mem_singleton.mp z) (Nat.ne_of_gt hlS)
        refine setN_loop (knd := knd) ((Walks.list hh3 _ l hneI its).toS) s.heap.objs.size hfp ks hlen hdiff hroom hits (its.size - 0) 0 _ rfl (Nat.zero_le _) ⟨⟨_, Heap.get?_push_size _ rfl, rfl, rfl⟩, (hl1.push _)⟩ ?hS0 ?hR
        case hS0 => exact setN_bare (Heap.get?_push_of_some _ hnew)
        case hR =>
          intro s3 mv N
          obtain ⟨h', g2, d2, tk2, os2⟩ := s3
          have eg : g2 = s.gens := mv.gens
          have ed : d2 = s.drawn := mv.drawn
          have eo : os2 = s.os := mv.os
          subst eg
          subst ed
          subst eo
          show wpAny _ _ _ _ _ _
          refine wpAny_pure ?_
          show wpAny _ _ (ret Value.none) _ _ _
          refine wpAny_pure ⟨rfl, h', tk2, rfl, N, fun b o e => ?_⟩
          have hb := Heap.lt_size e
          refine mv.heap b o (fun z => ?_) (Heap.get?_push_of_some _ (Heap.get?_push_of_some _ e))
          rcases List.mem_cons.mp z with z | z
          · exact absurd z (Nat.ne_of_lt hb)
          · rw [List.mem_singleton, hzz] at z
            exact absurd z (Nat.ne_of_lt (Nat.lt_succ_of_lt hb))
      · cases r2 with
        | error e => exact hr2
        | ok fl2 =>
          cases fl2 with
          | ret r =>
            obtain ⟨rfl, h', tk, rfl, N, keep⟩ := hr2
            repeat (any_goals (first | assumption | wp_step))
            exact hQ _ _ N keep
          | _ => exact hr2.elim
    | _ => exact hr.elim
end
end Lo
namespace Lo
open PySem PySem.Spec PyProof.Rows L2
section
variable {P : Program} {w : World} {A : Around} {E : Value → Shared → Prop} {s : Shared} {a : Addr}
/-- sorted of a set of texts: as many as there are -/
theorem sorted_setS {ks : List Str} {Q : Value → Shared → Prop} (N : SetN (PySem.strKind P w) s.heap a ks) (hand : A.handled = none) (h64 : ks.length < 64)
    (hQ : ∀ (s2 : Shared) (p : Addr) (out : Array Value) (c : Nat) (ss : List Str), (∀ b o, s.heap.get? b = some o → s2.heap.get? b = some o) → s2.gens = s.gens → s2.os = s.os → s.heap.objs.size ≤ p →
      s2.heap.get? p = some (seqObj "list" out c) → StrsAre out.toList ss → ss.length = ks.length → Q (.ref p) s2) : wpAny (model P w) A (call (.builtin "sorted") [.ref a]) Q E s := by
  obtain ⟨ob, es, ep, tb, hob, hex, hdt, hall, hsz, hbd, hfit, hris, hled⟩ := N
  refine Calls.call_function_entry kind_sorted plain_sorted entry_sorted (args_sorted1 _) ?_
  unfold Builtin.«sorted»
  refine wpAny_bind (m := checkCount "sorted" 1 1 _) (wpAny_pure ?_)
  refine wpAny_bind (collect_set (A := A.in1) hand ⟨ob, hob, hex.1, hdt⟩ hfit hbd hris hled fun s1 vs keep hz eg eo pe => ?_)
  have hlen : vs.length = ks.length := by
    rw [pe.length_eq, List.length_map, Array.length_toList]
    exact hsz
  have hS : StrsAre vs (vs.map strOf) := strsAre_map vs fun v hv => by
    obtain ⟨e, he, q⟩ := List.mem_map.mp (pe.mem_iff.mp hv)
    obtain ⟨⟨k, _, h2, _⟩, _⟩ := hall e he
    obtain ⟨t, ht⟩ := Value.isStrOf_shape (x := k) (v := e.2) h2
    exact ⟨k, t, by rw [← q]; exact ht⟩
  have h64' : vs.length < 64 := by
    rw [hlen]
    exact h64
  refine wpAny_bind (wpAny_newList ?_ (by rw [sizeLine_eq]; omega))
  have hL : (s1.heap.push (seqObj "list" vs.toArray 0)).get? s1.heap.objs.size = some (seqObj "list" vs.toArray 0) := Heap.get?_push_size _ rfl
  refine wpAny_bind (wpAny_holding (wpAny_call_entry slot_list_sort ⟨_, hL, rfl⟩ entry_list_sort (list_sort_treeK strKind_oneLt hL hS.keysOf (fun v1 v2 rest e => keyKind_strs (by rw [← e]; exact hS)) h64' fun st hp hs => ⟨_, rfl, ?_⟩) (args_list_sort _)))
  obtain ⟨ss, h1, h2, _⟩ := sorted_out_str hS hp hs
  obtain ⟨c, hc⟩ := sortedHeap_at (vs := vs) (out := (arrOf st).map (·.2)) hL
  refine wpAny_pure ⟨_, rfl, hQ _ s1.heap.objs.size _ c ss (fun b o e => ?_) eg eo hz hc h1 ?_⟩
  · have q := keep b o e
    have lt := Heap.lt_size q
    show (sortedHeap (s1.heap.push (seqObj "list" vs.toArray 0)) s1.heap.objs.size vs ((arrOf st).map (·.2))).get? b = some o
    rw [sortedHeap_old (Nat.ne_of_lt lt) (by rw [size_push']; exact Nat.lt_succ_of_lt lt)]
    exact Heap.get?_push_of_some _ q
  · rw [h2.length_eq, List.length_map]
    exact hlen
/-- .. of ints -/
theorem sorted_setI {ks : List Int} {Q : Value → Shared → Prop} (N : SetN (intKind P w) s.heap a ks) (hand : A.handled = none) (h64 : ks.length < 64)
    (hQ : ∀ (s2 : Shared) (p : Addr) (out : Array Value) (c : Nat) (ns : List Int), (∀ b o, s.heap.get? b = some o → s2.heap.get? b = some o) → s2.gens = s.gens → s2.os = s.os → s.heap.objs.size ≤ p →
      s2.heap.get? p = some (seqObj "list" out c) → IntsAre out.toList ns → ns.length = ks.length → Q (.ref p) s2) : wpAny (model P w) A (call (.builtin "sorted") [.ref a]) Q E s := by
  obtain ⟨ob, es, ep, tb, hob, hex, hdt, hall, hsz, hbd, hfit, hris, hled⟩ := N
  refine Calls.call_function_entry kind_sorted plain_sorted entry_sorted (args_sorted1 _) ?_
  unfold Builtin.«sorted»
  refine wpAny_bind (m := checkCount "sorted" 1 1 _) (wpAny_pure ?_)
  refine wpAny_bind (collect_set (A := A.in1) hand ⟨ob, hob, hex.1, hdt⟩ hfit hbd hris hled fun s1 vs keep hz eg eo pe => ?_)
  have hlen : vs.length = ks.length := by
    rw [pe.length_eq, List.length_map, Array.length_toList]
    exact hsz
  have hS : IntsAre vs (vs.map Builtin.Re.reRawOf) := ints_of vs fun v hv => by
    obtain ⟨e, he, q⟩ := List.mem_map.mp (pe.mem_iff.mp hv)
    obtain ⟨⟨k, _, h2, _⟩, _⟩ := hall e he
    obtain ⟨t, ht⟩ := Value.isInt_shape (k := k) (v := e.2) h2
    exact ⟨k, t, by rw [← q]; exact ht⟩
  have h64' : vs.length < 64 := by
    rw [hlen]
    exact h64
  refine wpAny_bind (wpAny_newList ?_ (by rw [sizeLine_eq]; omega))
  have hL : (s1.heap.push (seqObj "list" vs.toArray 0)).get? s1.heap.objs.size = some (seqObj "list" vs.toArray 0) := Heap.get?_push_size _ rfl
  refine wpAny_bind (wpAny_holding (wpAny_call_entry slot_list_sort ⟨_, hL, rfl⟩ entry_list_sort (list_sort_tree hL hS h64' fun out ns h1 h2 _ => ⟨_, rfl, ?_⟩) (args_list_sort _)))
  obtain ⟨c, hc⟩ := sortedHeap_at (vs := vs) (out := out) hL
  refine wpAny_pure ⟨_, rfl, hQ _ s1.heap.objs.size _ c ns (fun b o e => ?_) eg eo hz hc h1 ?_⟩
  · have q := keep b o e
    have lt := Heap.lt_size q
    show (sortedHeap (s1.heap.push (seqObj "list" vs.toArray 0)) s1.heap.objs.size vs out).get? b = some o
    rw [sortedHeap_old (Nat.ne_of_lt lt) (by rw [size_push']; exact Nat.lt_succ_of_lt lt)]
    exact Heap.get?_push_of_some _ q
  · rw [h2.length_eq, List.length_map]
    exact hlen
end
/-! ### as rules of the layer -/
def SetSO (P : Program) (w : World) (a : Addr) (n : Nat) : HO := .ext fun h => ∃ ks : List Str, ks.length = n ∧ SetN (PySem.strKind P w) h a ks
def SetIO (P : Program) (w : World) (a : Addr) (n : Nat) : HO := .ext fun h => ∃ ks : List Int, ks.length = n ∧ SetN (intKind P w) h a ks
theorem setSO_new {P : Program} {w : World} {H : Hp} {h : Heap} {a : Addr} {ks : List Str} (N : SetN (PySem.strKind P w) h a ks) : ObjOk P w H h a (SetSO P w a ks.length) := by
  have ⟨ob, _, _, _, hob, _⟩ := N
  exact ⟨⟨ks, rfl, N⟩, ⟨ob, hob⟩, fun h1 h2 ⟨js, e, N1⟩ keep => ⟨js, e, N1.at keep⟩⟩
theorem setIO_new {P : Program} {w : World} {H : Hp} {h : Heap} {a : Addr} {ks : List Int} (N : SetN (intKind P w) h a ks) : ObjOk P w H h a (SetIO P w a ks.length) := by
  have ⟨ob, _, _, _, hob, _⟩ := N
  exact ⟨⟨ks, rfl, N⟩, ⟨ob, hob⟩, fun h1 h2 ⟨js, e, N1⟩ keep => ⟨js, e, N1.at keep⟩⟩
section
variable {X : Cx}
/-- set(xs), texts that are all different -/
theorem cr_setS (hc : X.calm = true) : CallR X (.type "set") (fun xs H Q => ∃ (l : Addr) (zs : List Str), xs = [V.ref l] ∧ SqL X.K H l (zs.map V.str) ∧ zs.Nodup ∧ zs.length < 64 ∧ ∀ a, H a = none → Q (.ref a) (upd H a (SetSO X.prog X.w a zs.length))) := by
  intro pins s σ H xs us Q I r h
  obtain ⟨l, zs, rfl, hl, hd, h64, q⟩ := h
  rw [Vals.ref1 r]
  obtain ⟨its, rv, pl, hz⟩ := I.list hl
  have hn : H s.heap.objs.size = none := I.hok.fresh (Nat.le_refl _)
  have hlen : zs.length = its.toArray.size := by
    have := rv.length
    rw [List.length_map] at this
    simpa using this
  refine call_setN (knd := PySem.strKind X.prog X.w) (ks := zs) (I.ok.hd hc) pl.isList hlen hd (by rw [← hlen]; unfold scanBound; omega) (fun i v hv => ?_) fun h' tk N keep => ?_
  · have hi : i < zs.length := by
      rw [hlen]
      exact (Array.getElem?_eq_some_iff.mp hv).1
    obtain ⟨u, e1, r1⟩ := rv.get (i := i) (x := .str zs[i]) (by rw [List.getElem?_map, List.getElem?_eq_getElem hi]; rfl)
    obtain ⟨t, rfl⟩ := r1
    have ev : v = .str zs[i] t := by
      rw [List.getElem?_toArray, e1] at hv
      exact (Option.some.inj hv).symm
    subst ev
    exact ⟨zs[i], List.getElem?_eq_getElem hi, strKind_is _ _ _ _, rfl⟩
  · have nw := setSO_new (H := upd H s.heap.objs.size (SetSO X.prog X.w s.heap.objs.size zs.reverse.length)) N
    rw [List.length_reverse] at nw
    exact ⟨.ref _, _, I.laid (t' := tk) keep (Nat.le_refl _) nw, rfl, q _ hn⟩
/-- set(xs), ints that are all different -/
theorem cr_setI (hc : X.calm = true) : CallR X (.type "set") (fun xs H Q => ∃ (l : Addr) (zs : List Int), xs = [V.ref l] ∧ SqL X.K H l (zs.map V.int) ∧ zs.Nodup ∧ zs.length < 64 ∧ ∀ a, H a = none → Q (.ref a) (upd H a (SetIO X.prog X.w a zs.length))) := by
  intro pins s σ H xs us Q I r h
  obtain ⟨l, zs, rfl, hl, hd, h64, q⟩ := h
  rw [Vals.ref1 r]
  obtain ⟨its, rv, pl, hz⟩ := I.list hl
  have hn : H s.heap.objs.size = none := I.hok.fresh (Nat.le_refl _)
  have hlen : zs.length = its.toArray.size := by
    have := rv.length
    rw [List.length_map] at this
    simpa using this
  refine call_setN (knd := intKind X.prog X.w) (ks := zs) (I.ok.hd hc) pl.isList hlen hd (by rw [← hlen]; unfold scanBound; omega) (fun i v hv => ?_) fun h' tk N keep => ?_
  · have hi : i < zs.length := by
      rw [hlen]
      exact (Array.getElem?_eq_some_iff.mp hv).1
    obtain ⟨u, e1, r1⟩ := rv.get (i := i) (x := .int zs[i]) (by rw [List.getElem?_map, List.getElem?_eq_getElem hi]; rfl)
    obtain ⟨t, rfl⟩ := r1
    have ev : v = .int zs[i] t := by
      rw [List.getElem?_toArray, e1] at hv
      exact (Option.some.inj hv).symm
    subst ev
    exact ⟨zs[i], List.getElem?_eq_getElem hi, intKind_is _ _ _ _, rfl⟩
  · have nw := setIO_new (H := upd H s.heap.objs.size (SetIO X.prog X.w s.heap.objs.size zs.reverse.length)) N
    rw [List.length_reverse] at nw
    exact ⟨.ref _, _, I.laid (t' := tk) keep (Nat.le_refl _) nw, rfl, q _ hn⟩
/-- sorted(set) of texts -/
theorem cr_sortedN (hc : X.calm = true) : CallR X (.builtin "sorted") (fun xs H Q => ∃ (a : Addr) (n : Nat), xs = [V.ref a] ∧ H a = some (SetSO X.prog X.w a n) ∧ n < 64 ∧ ∀ (ss : List Str) (p : Addr), ss.length = n → H p = none → Q (.ref p) (upd H p (.lst (ss.map V.str)))) := by
  intro pins s σ H xs us Q I r h
  obtain ⟨a, n, rfl, ha, h64, q⟩ := h
  obtain ⟨⟨ks, rfl, N⟩, _⟩ := I.hok a _ ha
  rw [Vals.ref1 r]
  refine sorted_setS N (I.ok.hd hc) h64 fun s2 p out c ss keep eg eo hp hpo hss hlen => ?_
  have hn : H p = none := I.hok.fresh hp
  have hsz : (ss.map V.str).length ≤ sizeLine := by
    rw [List.length_map, hlen, sizeLine_eq]
    omega
  have J : Inv X pins σ (upd H p (.lst (ss.map V.str))) { s with heap := s2.heap, gens := s2.gens, drawn := s2.drawn, toks := s2.toks } :=
    I.call (ch := []) (Un.laid keep hp hn) (I.hok.laid keep hp ⟨hsz, out.toList, c, vals_of_strs hss, hpo⟩) (by rw [eg]; exact I.bare) (fun _ z => nomatch z)
  obtain ⟨h2, g2, d2, t2, o2⟩ := s2
  obtain rfl : o2 = s.os := eo
  exact ⟨.ref p, _, J, rfl, q ss p hlen hn⟩
/-- sorted(set) of ints -/
theorem cr_sortedM (hc : X.calm = true) : CallR X (.builtin "sorted") (fun xs H Q => ∃ (a : Addr) (n : Nat), xs = [V.ref a] ∧ H a = some (SetIO X.prog X.w a n) ∧ n < 64 ∧ ∀ (ns : List Int) (p : Addr), ns.length = n → H p = none → Q (.ref p) (upd H p (.lst (ns.map V.int)))) := by
  intro pins s σ H xs us Q I r h
  obtain ⟨a, n, rfl, ha, h64, q⟩ := h
  obtain ⟨⟨ks, rfl, N⟩, _⟩ := I.hok a _ ha
  rw [Vals.ref1 r]
  refine sorted_setI N (I.ok.hd hc) h64 fun s2 p out c ns keep eg eo hp hpo hss hlen => ?_
  have hn : H p = none := I.hok.fresh hp
  have hsz : (ns.map V.int).length ≤ sizeLine := by
    rw [List.length_map, hlen, sizeLine_eq]
    omega
  have J : Inv X pins σ (upd H p (.lst (ns.map V.int))) { s with heap := s2.heap, gens := s2.gens, drawn := s2.drawn, toks := s2.toks } :=
    I.call (ch := []) (Un.laid keep hp hn) (I.hok.laid keep hp ⟨hsz, out.toList, c, vals_of_ints hss, hpo⟩) (by rw [eg]; exact I.bare) (fun _ z => nomatch z)
  obtain ⟨h2, g2, d2, t2, o2⟩ := s2
  obtain rfl : o2 = s.os := eo
  exact ⟨.ref p, _, J, rfl, q ns p hlen hn⟩
end
end Lo
/-! Sorted texts are told by what is in them; data of texts and rows. -/
namespace Lo
open PySem PySem.Spec L2 PyProof.Rows
def leS (x y : Str) : Prop := x.cps.toList ≤ y.cps.toList
theorem str_ext {x y : Str} (h : x.cps.toList = y.cps.toList) : x = y := by
  obtain ⟨a⟩ := x
  obtain ⟨b⟩ := y
  have e : a = b := Array.ext' h
  rw [e]
theorem leS_of {x y : Str} (h : (!ltCps y.cps.toList x.cps.toList) = true) : leS x y := by
  rw [ltCps_eq, Bool.not_eq_true', decide_eq_false_iff_not] at h
  exact List.not_lt.mp h
theorem rising_pw : ∀ (l : List Str) (p : Str), risingS p l = true → (p :: l).Pairwise leS
  | [], p, _ => List.pairwise_cons.mpr ⟨fun x h => absurd h List.not_mem_nil, List.Pairwise.nil⟩
  | x :: r, p, h => by
    have h2 : (!ltCps x.cps.toList p.cps.toList && risingS x r) = true := h
    rw [Bool.and_eq_true] at h2
    have ih := rising_pw r x h2.2
    have px := leS_of h2.1
    refine List.pairwise_cons.mpr ⟨fun y hy => ?_, ih⟩
    rcases List.mem_cons.mp hy with e | e
    · exact e ▸ px
    · exact List.le_trans px ((List.pairwise_cons.mp ih).1 y e)
theorem sorted_pw : ∀ l : List Str, sortedS l = true → l.Pairwise leS
  | [], _ => List.Pairwise.nil
  | x :: r, h => rising_pw r x h
theorem sorted_one : ∀ (l m : List Str), l.Perm m → l.Pairwise leS → m.Pairwise leS → l = m
  | [], m, p, _, _ => (List.nil_perm.mp p).symm
  | x :: l, [], p, _, _ => absurd p.length_eq (by simp)
  | x :: l, y :: m, p, hl, hm => by
    obtain ⟨l1, l2⟩ := List.pairwise_cons.mp hl
    obtain ⟨m1, m2⟩ := List.pairwise_cons.mp hm
    have e : x = y := by
      rcases List.mem_cons.mp (p.mem_iff.mp (List.mem_cons_self (a := x) (l := l))) with h | h
      · exact h
      · rcases List.mem_cons.mp (p.mem_iff.mpr (List.mem_cons_self (a := y) (l := m))) with h' | h'
        · exact h'.symm
        · exact str_ext (List.le_antisymm (l1 y h') (m1 x h))
    subst e
    rw [sorted_one l m (List.Perm.cons_inv p) l2 m2]
/-- two lists without repetition that have the same things -/
theorem perm_same {α : Type} [DecidableEq α] : ∀ (l m : List α), l.Nodup → m.Nodup → (∀ x, x ∈ l ↔ x ∈ m) → l.Perm m
  | [], m, _, _, h => by
    cases m with
    | nil => exact List.Perm.nil
    | cons y m => exact absurd ((h y).mpr List.mem_cons_self) List.not_mem_nil
  | x :: l, m, hl, hm, h => by
    obtain ⟨h1, h2⟩ := List.nodup_cons.mp hl
    have hx := (h x).mp List.mem_cons_self
    have hp := List.perm_cons_erase hx
    refine (List.Perm.cons x (perm_same l (m.erase x) h2 (hm.erase x) fun y => ?_)).trans hp.symm
    rw [hm.mem_erase_iff]
    constructor
    · intro hy
      exact ⟨fun e => h1 (e ▸ hy), (h y).mp (List.mem_cons_of_mem _ hy)⟩
    · rintro ⟨h3, h4⟩
      exact (List.mem_cons.mp ((h y).mpr h4)).resolve_left h3
theorem sorted_same {l m l' m' : List Str} (p : l'.Perm l) (q : m'.Perm m) (hl : sortedS l' = true) (hm : sortedS m' = true) (h1 : l.Nodup) (h2 : m.Nodup) (h : ∀ x, x ∈ l ↔ x ∈ m) : l' = m' :=
  sorted_one l' m' ((p.trans (perm_same l m h1 h2 h)).trans q.symm) (sorted_pw _ hl) (sorted_pw _ hm)
/-! ### data -/
def strsD (zs : List Str) : PyData := .list (zs.map PyData.str)
def rowD (r : SRow) : PyData := .tuple [.str r.1, .str r.2.1, .int r.2.2]
def rowsD (rows : List SRow) : PyData := .list (rows.map rowD)
def OkR (r : SRow) : Prop := PyData.strOk r.1 = true ∧ PyData.strOk r.2.1 = true
theorem lay_strs : ∀ zs : List Str, (∀ z ∈ zs, PyData.strOk z = true) → PyData.canLayAll0 (zs.map PyData.str) = true
  | [], _ => rfl
  | z :: zs, h => by
    have h1 := h z List.mem_cons_self
    have h2 := lay_strs zs fun x hx => h x (List.mem_cons_of_mem _ hx)
    simp [PyData.canLayAll0, PyData.canLay0, h1, h2]
theorem deep_strs : ∀ zs : List Str, PyData.depthAll (zs.map PyData.str) = 0
  | [] => rfl
  | z :: zs => by simp [PyData.depthAll, PyData.depth, deep_strs zs]
theorem shaped_strs {zs : List Str} (h : ∀ z ∈ zs, PyData.strOk z = true) : SeqAt.shaped (strsD zs) = true := by
  unfold strsD
  simp [SeqAt.shaped, PyData.canLay0, PyData.depth, lay_strs zs h, deep_strs]
theorem lay_rows : ∀ rows : List SRow, (∀ r ∈ rows, OkR r) → PyData.canLayAll0 (rows.map rowD) = true
  | [], _ => rfl
  | r :: rows, h => by
    obtain ⟨h1, h2⟩ := h r List.mem_cons_self
    have h3 := lay_rows rows fun x hx => h x (List.mem_cons_of_mem _ hx)
    simp [PyData.canLayAll0, PyData.canLay0, rowD, h1, h2, h3]
theorem deep_rows : ∀ rows : List SRow, PyData.depthAll (rows.map rowD) ≤ 1
  | [] => by simp [PyData.depthAll]
  | r :: rows => by
    have ih := deep_rows rows
    simp [PyData.depthAll, PyData.depth, rowD]
    omega
theorem shaped_rows {rows : List SRow} (hr : ∀ r ∈ rows, OkR r) : SeqAt.shaped (rowsD rows) = true := by
  have h := deep_rows rows
  unfold rowsD
  simp [SeqAt.shaped, PyData.canLay0, PyData.depth, lay_rows rows hr]
  omega
theorem eqv_strs : ∀ zs : List Str, PyData.eqvAll (zs.map PyData.str) (zs.map PyData.str) = true
  | [] => by simp [PyData.eqvAll]
  | z :: zs => by simp [PyData.eqvAll, PyData.eqv, eqv_strs zs]
theorem eqv_strsD (zs : List Str) : PyData.eqv (strsD zs) (strsD zs) = true := by
  unfold strsD
  simp [PyData.eqv, eqv_strs]
theorem eqv_rows : ∀ rows : List SRow, PyData.eqvAll (rows.map rowD) (rows.map rowD) = true
  | [] => by simp [PyData.eqvAll]
  | r :: rows => by simp [PyData.eqvAll, PyData.eqv, rowD, eqv_rows rows]
theorem eqv_rowsD (rows : List SRow) : PyData.eqv (rowsD rows) (rowsD rows) = true := by
  unfold rowsD
  simp [PyData.eqv, eqv_rows]
theorem eqv_rows0 (rows : List SRow) : PyData.eqv (rowsD rows) (.list []) = decide (rows = []) := by
  cases rows with
  | nil =>
    unfold rowsD
    simp [PyData.eqv, PyData.eqvAll]
  | cons r rows =>
    unfold rowsD
    simp [PyData.eqv, PyData.eqvAll]
theorem dp_strs {K : PySem.W.Frag} {H : Hp} : ∀ zs : List Str, DpAll K H (zs.map V.str) (zs.map PyData.str)
  | [] => .nil
  | z :: zs => .cons (.str z) (dp_strs zs)
theorem dp_rows {K : PySem.W.Frag} {H : Hp} : ∀ (ps : List Addr) (rows : List SRow), ps.length = rows.length → (∀ (i : Nat) (p : Addr) (r : SRow), ps[i]? = some p → rows[i]? = some r → RowT H p r) → DpAll K H (ps.map V.ref) (rows.map rowD)
  | [], [], _, _ => .nil
  | p :: ps, r :: rows, hl, h => .cons (.tup (SqT.of (h 0 p r rfl rfl)) (.cons (.str _) (.cons (.str _) (.cons (.int _) .nil)))) (dp_rows ps rows (Nat.succ.inj hl) fun i p' r' h1 h2 => h (i + 1) p' r' h1 h2)
  | [], _ :: _, hl, _ => absurd hl (by simp)
  | _ :: _, [], hl, _ => absurd hl (by simp)
theorem dp_sys {K : PySem.W.Frag} {H : Hp} {a : Addr} {rows : List SRow} (h : Sys RowT H a rows) : Dp K H (.ref a) (rowsD rows) := by
  obtain ⟨ps, h1, h2, h3⟩ := h
  exact .lst (SqL.of h1) (dp_rows ps rows h2 h3)
end Lo
namespace Lo
open PySem L2
def top (i : Nat) : Stmt := PySem.Challenge.pw_loopsheds_k02_whole_limits.main.body.getD i (.Pass ⟨0, 0, 0, 0⟩)
abbrev sWhole : Stmt := top 6
abbrev sSide : Stmt := top 7
abbrev sDiff : Stmt := top 8
abbrev sRead : Stmt := top 9
abbrev sNames : Stmt := top 10
section
variable {P : Program} {w : World} {K : PySem.W.Frag} {mg : Str → Option Value} {base : Heap}
/-! ### is_whole, is_side, is_difference -/
def spWhole : Sp := fun vs H Q _ => ∃ i : Int, vs = [.int i] ∧ Q (.bl true) H
theorem scWhole : FnScope ["thing"] ["thing"] (defScope sWhole) := ⟨rfl, rfl, rfl, by decide +kernel, rfl, by decide +kernel, by decide +kernel⟩
theorem ok_whole {f : Addr} {fd : FuncData} (F : Fun K "is_whole" "is_whole" sWhole f fd) (T : Blt mg) : FnOk P w K mg base CX0 1 f fd ["thing"] spWhole := by
  refine F.ok scWhole (fun vs H Q E h => ?_) (fun cdv A outer s H vs Q E hr h => ?_)
  · obtain ⟨i, rfl, _⟩ := h
    rfl
  · obtain ⟨i, rfl, q⟩ := h
    refine ⟨_, pss_one (ps_ret (pe_and (pe_callB call_isi (by rfl) T.isi PyProof.Rows.boot_isinstance (pa_cons (pv 0) (pa_cons (pe_bltn (v := .ty "int") rfl T.int PyProof.Rows.boot_int rfl) pa_nil)))
      (pe_one (pe_not (pe_callB call_isi (by rfl) T.isi PyProof.Rows.boot_isinstance (pa_cons (pv 0) (pa_cons (pe_bltn (v := .ty "bool") rfl T.bool PyProof.Rows.boot_bool rfl) pa_nil))))))), ?_⟩
    refine ⟨_, rfl, _, _, _, _, true, rfl, .ty _, .base (.int _), kit_ty (by decide +kernel), true, rfl, iteT ?_⟩
    exact ⟨_, rfl, _, _, _, _, false, rfl, .ty _, .base (.int _), kit_ty (by decide +kernel), false, rfl, q⟩
def spSide : Sp := fun vs H Q _ => ∃ x : Str, vs = [.str x] ∧ x ≠ ("" : Str) ∧ Q (.bl true) H
theorem scSide : FnScope ["thing"] ["thing"] (defScope sSide) := ⟨rfl, rfl, rfl, by decide +kernel, rfl, by decide +kernel, by decide +kernel⟩
theorem ok_side {f : Addr} {fd : FuncData} (F : Fun K "is_side" "is_side" sSide f fd) (T : Blt mg) : FnOk P w K mg base CX0 1 f fd ["thing"] spSide := by
  refine F.ok scSide (fun vs H Q E h => ?_) (fun cdv A outer s H vs Q E hr h => ?_)
  · obtain ⟨i, rfl, _⟩ := h
    rfl
  · obtain ⟨x, rfl, hx, q⟩ := h
    refine ⟨_, pss_one (ps_ret (pe_and (pe_callB call_isi (by rfl) T.isi PyProof.Rows.boot_isinstance (pa_cons (pv 0) (pa_cons (pe_bltn (v := .ty "str") rfl T.str PyProof.Rows.boot_str rfl) pa_nil)))
      (pe_one (pe_cmpR op_ne (pv 0) pe_str (nomark _))))), ?_⟩
    refine ⟨_, rfl, _, _, _, _, true, rfl, .ty _, .base (.str _), kit_ty (by decide +kernel), true, rfl, iteT ?_⟩
    refine ⟨_, rfl, rfl, ?_⟩
    rw [decide_eq_false (fun e => hx (V.str.inj e))]
    exact q
def spDiff : Sp := fun vs H Q _ => ∃ (p : Addr) (r : SRow), vs = [.ref p] ∧ RowA H p r ∧ Good1 r ∧ ∀ H', Same H H' → Q (.bl true) H'
theorem scDiff : FnScope ["thing", "left", "right", "limit"] ["thing"] (defScope sDiff) := ⟨rfl, rfl, rfl, by decide +kernel, rfl, by decide +kernel, by decide +kernel⟩
/-- a, b, c = a tuple or a list -/
theorem pg_either {X : Cx} {pos : Pos} {es : List Expr} {k : Nat} {t : TGs} {n : Nat} (hc : X.calm = true) (h : PGs X es t)
    (hn : (assignEach es X.env).length = n := by rfl) (hst : (assignEach es X.env).findIdx? (·.1) = none := by rfl) :
    PG X (.Tuple es k pos) (fun v σ H Q => gTup X.K n t v σ H Q ∨ gUnl X.K n t v σ H Q) := by
  refine ⟨fun pins s σ H v u Q I r hw => ?_⟩
  rcases hw with hw | hw
  · exact (pg_tup hc h hn hst).run pins s σ H v u Q I r hw
  · exact (pg_unl hc h hn hst).run pins s σ H v u Q I r hw
theorem ok_diff {f fS fW : Addr} {fd fdS fdW : FuncData} (F : Fun K "is_difference" "is_difference" sDiff f fd) (T : Blt mg) (FS : Fun K "is_side" "is_side" sSide fS fdS) (bS : Binds K fdS ["thing"] []) (gS : mg "is_side" = some (.ref fS))
    (FW : Fun K "is_whole" "is_whole" sWhole fW fdW) (bW : Binds K fdW ["thing"] []) (gW : mg "is_whole" = some (.ref fW)) : FnOk P w K mg base CX0 2 f fd ["thing"] spDiff := by
  have GS : FnOk P w K mg base CX0 1 fS fdS ["thing"] spSide := ok_side FS T
  have GW : FnOk P w K mg base CX0 1 fW fdW ["thing"] spWhole := ok_whole FW T
  refine F.ok scDiff (fun vs H Q E h => ?_) (fun cdv A outer s H vs Q E hr h => ?_)
  · obtain ⟨p, r, rfl, _⟩ := h
    rfl
  · obtain ⟨p, r, rfl, hR, ⟨g1, g2, g3⟩, q⟩ := h
    refine ⟨_, pss_cons (ps_if (PW.pt (pw_or (pt_not (pt_val (pe_callB call_isiT (by rfl) T.isi PyProof.Rows.boot_isinstance (pa_cons (pv 0)
            (pa_cons (pe_tup (pa_cons (pe_bltn (v := .ty "tuple") rfl T.tuple PyProof.Rows.boot_tuple rfl) (pa_cons (pe_bltn (v := .ty "list") rfl T.list PyProof.Rows.boot_list rfl) pa_nil))) pa_nil)))))
          (pw_or1 (pt_cmpR op_ne (pe_callB call_len_seq (by rfl) T.len PySem.boot_len (pa_cons (pv 0) pa_nil)) pe_int (nomark _)))))
        (pss_one (ps_ret pe_bl)) pss_nil)
      (pss_cons (ps_asg (pv 0) (pg_either rfl (pgs_cons (pg_name (i := 1) scDiff.nd rfl (.inl rfl)) (pgs_cons (pg_name (i := 2) scDiff.nd rfl (.inl rfl)) (pgs_cons (pg_name (i := 3) scDiff.nd rfl (.inl rfl)) pgs_nil)))))
      (pss_one (ps_ret (pe_and (pe_call GS hr (by rfl) gS FS.kp bS .nil pass0 (pa_cons (pv 1) pa_nil)) (pe_and (pe_call GS hr (by rfl) gS FS.kp bS .nil pass0 (pa_cons (pv 2) pa_nil))
        (pe_and (pe_cmpR op_ne (pv 1) (pv 2) (nomark _)) (pe_one (pe_call GW hr (by rfl) gW FW.kp bW .nil pass0 (pa_cons (pv 3) pa_nil))))))))), ?_⟩
    refine ⟨_, rfl, by show 2 ≤ sizeLine; decide, fun tp ntp => ?_⟩
    have s1 : Same H (upd H tp (.tup [.ty "tuple", .ty "list"])) := same_upd ntp
    have hR1 := hR.same s1
    rcases hR1 with hR1 | hR1
    · refine ⟨.ref p, tp, _, _, [.type "tuple", .type "list"], true, rfl, upd_same, .cons (.ty _) (.cons (.ty _) .nil), .base (.tup hR1), ?_, ?_⟩
      · exact kitAny_cons (b := true) (kit_ty (by decide +kernel)) (fun z => nomatch z) (fun _ => rfl)
      · refine ⟨true, rfl, iteF ⟨.ref p, rfl, p, rowV r, rfl, .inr (SqT.of hR1), rfl, false, rfl, iteF ?_⟩⟩
        refine ⟨.ref p, rfl, .inl ⟨p, rowV r, rfl, SqT.of hR1, rfl, ?_⟩⟩
        refine ⟨_, _, rfl, _, _, rfl, _, _, rfl, rfl, ?_⟩
        refine ⟨_, rfl, _, rfl, g2, true, rfl, iteT ?_⟩
        refine ⟨_, rfl, _, rfl, g3, true, rfl, iteT ?_⟩
        refine ⟨_, rfl, _, rfl, rfl, _, rfl, ?_⟩
        rw [decide_eq_false (fun e => g1 (V.str.inj e))]
        exact iteT ⟨_, rfl, _, rfl, q _ s1⟩
    · refine ⟨.ref p, tp, _, _, [.type "tuple", .type "list"], true, rfl, upd_same, .cons (.ty _) (.cons (.ty _) .nil), .base (.lst hR1), ?_, ?_⟩
      · exact kitAny_cons (b := false) (kit_ty (by decide +kernel)) (fun _ => kitAny_cons (b := true) (kit_ty (by decide +kernel)) (fun z => nomatch z) (fun _ => rfl)) (fun z => nomatch z)
      · refine ⟨true, rfl, iteF ⟨.ref p, rfl, p, rowV r, rfl, .inl (SqL.of hR1), rfl, false, rfl, iteF ?_⟩⟩
        refine ⟨.ref p, rfl, .inr ⟨p, rowV r, rfl, SqL.of hR1, rfl, ?_⟩⟩
        refine ⟨_, _, rfl, _, _, rfl, _, _, rfl, rfl, ?_⟩
        refine ⟨_, rfl, _, rfl, g2, true, rfl, iteT ?_⟩
        refine ⟨_, rfl, _, rfl, g3, true, rfl, iteT ?_⟩
        refine ⟨_, rfl, _, rfl, rfl, _, rfl, ?_⟩
        rw [decide_eq_false (fun e => g1 (V.str.inj e))]
        exact iteT ⟨_, rfl, _, rfl, q _ s1⟩
end
end Lo
namespace Lo
open PySem L2
section
variable {P : Program} {w : World} {K : PySem.W.Frag} {mg : Str → Option Value} {base : Heap}
/-! ### read_system -/
def spRead : Sp := fun vs H Q _ => ∃ (a : Addr) (rows : List SRow), vs = [.ref a] ∧ Sys RowA H a rows ∧ Good rows ∧ ∀ H' q, Same H H' → H q = none → Sys RowT H' q rows → Q (.ref q) H'
theorem scRead : FnScope ["system", "found", "place", "entry"] ["system"] (defScope sRead) := ⟨rfl, rfl, rfl, by decide +kernel, rfl, by decide +kernel, by decide +kernel⟩
theorem ok_read {f fD : Addr} {fd fdD : FuncData} (F : Fun K "read_system" "read_system" sRead f fd) (T : Blt mg) (GD : FnOk P w K mg base CX0 2 fD fdD ["thing"] spDiff) (kD : PySem.W.keepIn K (.ref fD) = true) (bD : Binds K fdD ["thing"] []) (gD : mg "is_difference" = some (.ref fD)) :
    FnOk P w K mg base CX0 3 f fd ["system"] spRead := by
  refine F.ok scRead (fun vs H Q E h => ?_) (fun cdv A outer s H vs Q E hr h => ?_)
  · obtain ⟨a, rows, rfl, _⟩ := h
    rfl
  · obtain ⟨a, rows, rfl, ⟨ps, hA, hl, hat⟩, g, q⟩ := h
    refine ⟨_, pss_cons (ps_set (i := 1) scRead.nd rfl (.inl rfl) (pe_lst pa_nil))
      (pss_cons (ps_for PassesOwn.never rfl (pi_enum (by rfl) T.enum (pa_cons (pv 0) pa_nil)) (pg_tup rfl (pgs_cons (pg_name (i := 2) scRead.nd rfl (.inl rfl)) (pgs_cons (pg_name (i := 3) scRead.nd rfl (.inl rfl)) pgs_nil)))
        (pss_cons (ps_if (pt_not (pt_val (pe_call GD hr (by rfl) gD kD bD .nil pass0 (pa_cons (pv 3) pa_nil)))) (pss_one ps_never) pss_nil)
        (pss_one (ps_expr (pe_bm PySem.F.plainAttrs_list PySem.F.slot_list_append PySem.F.type_list_append mt_append (pv 1)
          (pa_cons (pe_callTy call_tuple_of (by rfl) T.tuple PyProof.Rows.boot_tuple (pa_cons (pv 3) pa_nil)) pa_nil))))))
      (pss_one (ps_ret (pv 1)))), ?_⟩
    refine ⟨Nat.zero_le _, fun o no => ?_⟩
    have s1 : Same H (upd H o (.lst [])) := same_upd no
    refine ⟨.ref a, rfl, a, ps.map V.ref, rfl, SqL.of (s1 _ _ hA), for_it walk_enum (fun i σ H' => ∃ (y2 y3 : Option V) (qs : List Addr), σ = [some (.ref a), some (.ref o), y2, y3] ∧ Same H H' ∧ H' o = some (.lst (qs.map V.ref)) ∧ qs.length = i ∧
        ∀ (j : Nat) (p : Addr) (r : SRow), qs[j]? = some p → rows[j]? = some r → RowT H' p r) ⟨none, none, [], rfl, s1, upd_same, rfl, fun j p r e => nomatch e⟩ (fun i σ H' _ ⟨_, _, _, _, sm, _⟩ => SqL.of (sm _ _ hA)) ?_ ?_⟩
    · rintro i x σ H1 H2 hi ⟨y2, y3, qs, rfl, sm, ho, hq, hrow⟩ ⟨tp, x1, x2, rfl, ntp, rfl, e1, e2⟩
      obtain ⟨p, r, rfl, hp, hrr, hmem, hlt, hR⟩ := Sys.at hl hat e2
      have smT : Same H1 (upd H1 tp (.tup [x1, .ref p])) := same_upd ntp
      refine ⟨tp, _, rfl, SqT.of upd_same, rfl, _, _, rfl, _, _, rfl, rfl, ?_⟩
      refine ⟨.ref p, rfl, p, r, rfl, (hR.same sm).same smT, g.row r hmem, fun H3 s3 => ⟨true, rfl, iteF ?_⟩⟩
      have ho3 : H3 o = some (.lst (qs.map V.ref)) := s3 _ _ (smT _ _ ho)
      have sm3 : Same H1 H3 := smT.trans s3
      have fin : ∀ (H4 : Hp) (p' : Addr), Same H3 H4 → RowT H4 p' r → ∃ y2' y3' qs', [some (V.ref a), some (.ref o), some x1, some (.ref p)] = [some (.ref a), some (.ref o), y2', y3'] ∧ Same H (upd H4 o (.lst (qs.map V.ref ++ [.ref p']))) ∧
          upd H4 o (.lst (qs.map V.ref ++ [.ref p'])) o = some (.lst (List.map V.ref qs')) ∧ qs'.length = i + 1 ∧ ∀ (j : Nat) (p : Addr) (r : SRow), qs'[j]? = some p → rows[j]? = some r → RowT (upd H4 o (.lst (qs.map V.ref ++ [.ref p']))) p r := by
        intro H4 p' s4 hR4
        have out : ∀ (b : Addr) (r : SRow), RowT H4 b r → RowT (upd H4 o (.lst (qs.map V.ref ++ [.ref p']))) b r := fun b r hb => by
          have nb : b ≠ o := ne_of hb (s4 _ _ ho3) (by intro z; cases z)
          show upd H4 o _ b = _
          rw [upd_ne nb]
          exact hb
        refine ⟨_, _, qs ++ [p'], rfl, ((sm.trans sm3).trans s4).later no, ?_, by rw [List.length_append, hq]; rfl, fun j pj rj hj hr' => ?_⟩
        · rw [upd_same, List.map_append]
          rfl
        · by_cases k : j < i
          · rw [List.getElem?_append_left (by omega)] at hj
            exact out _ _ ((hrow j pj rj hj hr').same (sm3.trans s4))
          · have hj2 : j = i := by
              have := (List.getElem?_eq_some_iff.mp hj).1
              rw [List.length_append, List.length_singleton] at this
              omega
            subst hj2
            rw [List.getElem?_append_right (by omega), hq, Nat.sub_self] at hj
            have e : p' = pj := Option.some.inj hj
            rw [hrr] at hr'
            have e' : r = rj := Option.some.inj hr'
            subst e e'
            exact out _ _ hR4
      have hlen : (qs.map V.ref).length < sizeLine := by
        rw [List.length_map, hq]
        exact small1000 (by have := g.few; omega)
      have hR3 := ((hR.same sm).same sm3)
      refine ⟨.ref o, rfl, .inl ⟨rfl, _, SqL.of ho3⟩, .ref p, rfl, p, rowV r, rfl, ?_⟩
      rcases hR3 with hR3 | hR3
      · exact .inr ⟨SqT.of hR3, o, _, _, rfl, rfl, ho3, hlen, fin H3 p (Same.refl _) hR3⟩
      · refine .inl ⟨SqL.of hR3, fun l nl => ?_⟩
        have s4 : Same H3 (upd H3 l (.tup (rowV r))) := same_upd nl
        exact ⟨o, _, _, rfl, rfl, s4 _ _ ho3, hlen, fin _ l s4 upd_same⟩
    · rintro σ H1 ⟨y2, y3, qs, rfl, sm, ho, hq, hrow⟩
      rw [List.length_map] at hq
      exact ⟨.ref o, rfl, q H1 o sm no ⟨qs, ho, hq.trans hl, hrow⟩⟩
/-! ### names_of -/
def Named (rows : List SRow) (x : Str) : Prop := ∃ r ∈ rows, x = r.1 ∨ x = r.2.1
def spNames : Sp := fun vs H Q _ => ∃ (a : Addr) (rows : List SRow), vs = [.ref a] ∧ Sys RowT H a rows ∧ Good rows ∧
  ∀ H' q (ks : List Str), Same H H' → H q = none → H' q = some (.lst (ks.map V.str)) → ks.Nodup → ks.length ≤ 200 → (∀ x, x ∈ ks ↔ x ≠ "0" ∧ Named rows x) → Q (.ref q) H'
theorem scNames : FnScope ["differences", "found", "left", "right", "_", "name"] ["differences"] (defScope sNames) := ⟨rfl, rfl, rfl, by decide +kernel, rfl, by decide +kernel, by decide +kernel⟩
/-- the names of the first i rows -/
def namesTo (rows : List SRow) : Nat → List Str
  | 0 => []
  | i + 1 => match rows[i]? with
    | some r => addN (addN (namesTo rows i) r.1) r.2.1
    | none => namesTo rows i
theorem namesTo_succ {rows : List SRow} {i : Nat} {r : SRow} (h : rows[i]? = some r) : namesTo rows (i + 1) = addN (addN (namesTo rows i) r.1) r.2.1 := by
  show (match rows[i]? with
    | some r => addN (addN (namesTo rows i) r.1) r.2.1
    | none => namesTo rows i) = _
  rw [h]
theorem namesTo_len (rows : List SRow) : ∀ i, (namesTo rows i).length ≤ 2 * i
  | 0 => Nat.le_refl _
  | i + 1 => by
    have ih := namesTo_len rows i
    show (match rows[i]? with
      | some r => addN (addN (namesTo rows i) r.1) r.2.1
      | none => namesTo rows i).length ≤ _
    cases rows[i]? with
    | none => simp only; omega
    | some r =>
      have h1 := length_addN (l := namesTo rows i) (x := r.1)
      have h2 := length_addN (l := addN (namesTo rows i) r.1) (x := r.2.1)
      simp only
      omega
theorem namesTo_nd (rows : List SRow) : ∀ i, (namesTo rows i).Nodup
  | 0 => List.nodup_nil
  | i + 1 => by
    have ih := namesTo_nd rows i
    show (match rows[i]? with
      | some r => addN (addN (namesTo rows i) r.1) r.2.1
      | none => namesTo rows i).Nodup
    cases rows[i]? with
    | none => exact ih
    | some r => exact nodup_addN (nodup_addN ih)
theorem namesTo_mem (rows : List SRow) (x : Str) : ∀ i, i ≤ rows.length → (x ∈ namesTo rows i ↔ ∃ (j : Nat) (r : SRow), j < i ∧ rows[j]? = some r ∧ (x = r.1 ∨ x = r.2.1))
  | 0, _ => ⟨fun h => absurd h List.not_mem_nil, fun ⟨j, _, h, _⟩ => absurd h (Nat.not_lt_zero _)⟩
  | i + 1, hi => by
    have ih := namesTo_mem rows x i (by omega)
    have e : rows[i]? = some rows[i] := List.getElem?_eq_getElem (by omega)
    rw [namesTo_succ e, mem_addN, mem_addN, ih]
    constructor
    · rintro ((⟨j, r, h1, h2, h3⟩ | h) | h)
      · exact ⟨j, r, by omega, h2, h3⟩
      · exact ⟨i, _, by omega, e, .inl h⟩
      · exact ⟨i, _, by omega, e, .inr h⟩
    · rintro ⟨j, r, h1, h2, h3⟩
      by_cases k : j = i
      · subst k
        rw [e] at h2
        have := Option.some.inj h2
        subst this
        exact h3.elim (fun z => .inl (.inr z)) .inr
      · exact .inl (.inl ⟨j, r, by omega, h2, h3⟩)
theorem namesTo_all {rows : List SRow} {x : Str} : x ∈ namesTo rows rows.length ↔ Named rows x := by
  rw [namesTo_mem rows x _ (Nat.le_refl _)]
  constructor
  · rintro ⟨j, r, _, h2, h3⟩
    exact ⟨r, List.mem_of_getElem? h2, h3⟩
  · rintro ⟨r, h2, h3⟩
    obtain ⟨j, hj, e⟩ := List.getElem_of_mem h2
    exact ⟨j, r, hj, by rw [List.getElem?_eq_getElem hj, e], h3⟩
theorem ok_names {f : Addr} {fd : FuncData} (F : Fun K "names_of" "names_of" sNames f fd) : FnOk P w K mg base CX0 1 f fd ["differences"] spNames := by
  refine F.ok scNames (fun vs H Q E h => ?_) (fun cdv A outer s H vs Q E hr h => ?_)
  · obtain ⟨a, rows, rfl, _⟩ := h
    rfl
  · obtain ⟨a, rows, rfl, ⟨ps, hA, hl, hat⟩, g, q⟩ := h
    have hu := hu_of hr
    refine ⟨_, pss_cons (ps_set (i := 1) scNames.nd rfl (.inl rfl) pe_dnewK)
      (pss_cons (ps_for PassesOwn.never rfl (pi_list (pv 0)) (pg_tup rfl (pgs_cons (pg_name (i := 2) scNames.nd rfl (.inl rfl)) (pgs_cons (pg_name (i := 3) scNames.nd rfl (.inl rfl)) (pgs_cons (pg_name (i := 4) scNames.nd rfl (.inl rfl)) pgs_nil))))
        (pss_cons (ps_dput hu (pv 1) (pv 2) pe_bl rfl) (pss_one (ps_dput hu (pv 1) (pv 3) pe_bl rfl))))
      (pss_one (ps_ret (pe_lock (pe_lc (own := [("name", 5)]) (g := gName 5) rfl scNames.nd (pi_keys (pv 1)) (blkOk_by (N := ["differences", "found", "left", "right", "_", "name"]) (sc := defScope sNames) (by decide +kernel))
        (fun _ _ _ _ _ => pg_name (i := 5) scNames.nd rfl (.inl rfl)) (fun _ _ _ _ _ => pts_one (pt_cmpR op_ne (pv 5) pe_str (nomark _))) (fun _ _ _ _ _ => pv 5)))))), ?_⟩
    intro d nd
    have s1 : Same H (upd H d (.dK [])) := same_upd nd
    refine ⟨.ref a, rfl, a, rfl, ⟨_, SqL.of (s1 _ _ hA)⟩, for_list (K := K) (a := a) (xs := ps.map V.ref) (fun i σ H' => ∃ (y2 y3 y4 : Option V), σ = [some (.ref a), some (.ref d), y2, y3, y4, none] ∧ Same H H' ∧ H' d = some (.dK (dS (namesTo rows i) fun _ => .bl true)))
      ⟨none, none, none, rfl, s1, upd_same⟩ (fun i σ H' _ ⟨_, _, _, _, sm, _⟩ => SqL.of (sm _ _ hA)) ?_ ?_⟩
    · rintro i x σ H1 hi ⟨y2, y3, y4, rfl, sm, hd⟩
      obtain ⟨p, r, rfl, hp, hrr, hmem, hlt, hR⟩ := Sys.at hl hat hi
      have hR1 : RowT H1 p r := hR.same sm
      have few := g.few
      have l0 := namesTo_len rows i
      have l1 := length_addN (l := namesTo rows i) (x := r.1)
      refine ⟨p, rowV r, rfl, SqT.of hR1, rfl, _, _, rfl, _, _, rfl, _, _, rfl, rfl, ?_⟩
      have hput : ∀ (f : Str → V) (x : Str), (fun _ : Str => V.bl true) = put (fun _ : Str => V.bl true) x (.bl true) := fun f x => by
        funext y
        unfold put
        split <;> rfl
      refine ⟨.ref d, rfl, .str r.1, rfl, d, _, rfl, dput r.1 (.bl true) hd (by omega), ?_⟩
      rw [← hput (fun _ => .bl true)]
      refine ⟨.ref d, rfl, .str r.2.1, rfl, d, _, rfl, dput r.2.1 (.bl true) upd_same (by omega), ?_⟩
      rw [← hput (fun _ => .bl true)]
      exact ⟨_, _, _, rfl, (sm.later nd).later nd, by rw [upd_same, namesTo_succ hrr]⟩
    · rintro σ H1 ⟨y2, y3, y4, rfl, sm, hd⟩
      rw [List.length_map, hl] at hd
      have hlen : (namesTo rows rows.length).length ≤ 200 := by
        have := namesTo_len rows rows.length
        have := g.few
        omega
      refine ⟨d, _, hd, trivial, fun od => ?_⟩
      refine ⟨.ref d, rfl, d, od, rfl, .inl ⟨_, upd_same, fun L nL => ?_⟩⟩
      have nLd : d ≠ L := fun e => by
        rw [← e, upd_same] at nL
        cases nL
      have nL0 : H L = none := (sm.later (o := .frz od (.dK (dS (namesTo rows rows.length) fun _ => .bl true))) nd).free nL
      have hn : ∀ i, i ≤ (dS (namesTo rows rows.length) fun _ => V.bl true).length → ((namesTo rows rows.length).take i).length ≤ 200 := fun i _ => by
        rw [List.length_take]
        omega
      refine lc_it walk_keys (fun i H' => Same H H' ∧ H' d = some (.frz od (.dK (dS (namesTo rows rows.length) fun _ => .bl true))) ∧ H' L = some (.lst ((((namesTo rows rows.length).take i).filter fun x => decide (x ≠ ("0" : Str))).map V.str)))
        ⟨(sm.later nd).later nL0, ?_, ?_⟩ (fun i H' _ h => h.2.1) ?_ ?_
      · rw [upd_ne nLd]
        exact upd_same
      · exact upd_same
      · rintro i x H2 H3 hi ⟨sm2, hd2, hL2⟩ ⟨rfl, k, v, hk, rfl⟩
        have hi' : i < (namesTo rows rows.length).length := by
          rw [dS_len] at hi
          exact hi
        have ek : k = Sum.inr (namesTo rows rows.length)[i] := by
          unfold dS at hk
          rw [List.getElem?_map, List.getElem?_eq_getElem hi'] at hk
          exact (congrArg Prod.fst (Option.some.inj hk)).symm
        subst ek
        have et : (namesTo rows rows.length).take (i + 1) = (namesTo rows rows.length).take i ++ [(namesTo rows rows.length)[i]] := by
          rw [List.take_add_one, List.getElem?_eq_getElem hi']
          rfl
        refine ⟨rfl, _, rfl, rfl, _, rfl, ?_⟩
        have key : ∀ c, (decide (V.str (namesTo rows rows.length)[i] = V.str "0")) = c → (!c) = decide ((namesTo rows rows.length)[i] ≠ ("0" : Str)) := fun c hc => by
          rw [← hc]
          by_cases e : (namesTo rows rows.length)[i] = ("0" : Str)
          · rw [decide_eq_true (show V.str _ = V.str "0" by rw [e]), decide_eq_false (fun n => n e)]
            rfl
          · rw [decide_eq_false (fun n => e (V.str.inj n)), decide_eq_true e]
            rfl
        have key2 : (!decide (kV (Sum.inr (namesTo rows rows.length)[i]) = V.str ("0" : Str))) = decide ((namesTo rows rows.length)[i] ≠ ("0" : Str)) := key _ rfl
        rw [key2]
        refine ite2 (fun e => ?_) (fun e => ?_)
        · refine ⟨_, rfl, _, hL2, ?_, ?_, ?_, ?_⟩
          · rw [List.length_map]
            have h1 := List.length_filter_le (fun x => decide (x ≠ ("0" : Str))) ((namesTo rows rows.length).take i)
            have h2 := hn i (Nat.le_of_lt hi)
            exact small1000 (by omega)
          · exact sm2.later nL0
          · rw [upd_ne nLd]
            exact hd2
          · rw [upd_same, et, List.filter_append, List.map_append]
            have : List.filter (fun x => decide (x ≠ ("0" : Str))) [(namesTo rows rows.length)[i]] = [(namesTo rows rows.length)[i]] := by
              rw [List.filter_cons, if_pos e]
              rfl
            rw [this]
            rfl
        · refine ⟨sm2, hd2, ?_⟩
          rw [et, List.filter_append]
          have : List.filter (fun x => decide (x ≠ ("0" : Str))) [(namesTo rows rows.length)[i]] = [] := by
            rw [List.filter_cons, if_neg e]
            rfl
          rw [this, List.append_nil]
          exact hL2
      · rintro H2 ⟨sm2, hd2, hL2⟩
        rw [dS_len, List.take_length] at hL2
        refine ⟨hd2, q _ L ((namesTo rows rows.length).filter fun x => decide (x ≠ ("0" : Str))) (sm2.later nd) nL0 (by rw [upd_ne nLd.symm]; exact hL2) ((namesTo_nd rows _).filter _) (Nat.le_trans (List.length_filter_le _ _) hlen) fun x => ?_⟩
        rw [List.mem_filter, namesTo_all, decide_eq_true_eq]
        exact And.comm
end
end Lo
namespace Lo
open PySem L2
abbrev sThrough : Stmt := top 19
abbrev sTurn : Stmt := top 18
theorem Ch.first {α : Type} [DecidableEq α] {g : Gr α} {x y : α} {l : List α} {s : Int} (h : Ch g x l y s) : ∃ l' s', Ch g x l' y s' ∧ ∀ a ∈ l', a ≠ y := by
  induction h with
  | nil x => exact ⟨[], 0, Ch.nil x, fun a ha => absurd ha List.not_mem_nil⟩
  | @cons x y z c s l e h ih =>
    by_cases j : x = z
    · subst j
      exact ⟨[], 0, Ch.nil x, fun a ha => absurd ha List.not_mem_nil⟩
    · obtain ⟨l'', s'', h1, h2⟩ := ih
      exact ⟨x :: l'', _, Ch.cons e h1, fun a ha => (List.mem_cons.mp ha).elim (fun q => q ▸ j) (h2 a)⟩
theorem Ch.distinct {α : Type} [DecidableEq α] {g : Gr α} {start name : α} {v l : List α} {s t : Int} (h : Ch g start (start :: v) name s) (hv : ∀ x ∈ v, x ≠ start) (h2 : Ch g name l start t) : (start :: v).Nodup := by
  obtain ⟨l3, s3, h3, hl3⟩ := h2.first
  cases h with
  | cons e h =>
    have h5 := (h.append h3).nodup (S := fun x => x = start) rfl fun x hx => (List.mem_append.mp hx).elim (hv x) (hl3 x)
    exact List.nodup_cons.mpr ⟨fun n => hv _ n rfl, (List.nodup_append.mp h5).1⟩
section
variable {P : Program} {w : World} {K : PySem.W.Frag} {mg : Str → Option Value} {base : Heap}
/-- causes: a dict of places at c -/
def Caus (H : Hp) (c : Addr) (cs : List Str) (cz : Str → Nat) : Prop := H c = some (.dK (dS cs fun x => .int (cz x : Nat)))
theorem Caus.same {H H' : Hp} {c : Addr} {cs : List Str} {cz : Str → Nat} (s : Same H H') (h : Caus H c cs cz) : Caus H' c cs cz := s _ _ h
/-- a ring that was found: a list of its places at q -/
def RingAt (H : Hp) (q : Addr) (rows : List SRow) : Prop := ∃ found : List Nat, H q = some (.lst (found.map fun i : Nat => V.int (i : Int))) ∧ RingOk rows found ∧ found.length ≤ 200
theorem RingAt.same {H H' : Hp} {q : Addr} {rows : List SRow} (s : Same H H') (h : RingAt H q rows) : RingAt H' q rows := by
  obtain ⟨f, h1, h2⟩ := h
  exact ⟨f, s _ _ h1, h2⟩
/-! ### _ring_through -/
def spThrough : Sp := fun vs H Q _ => ∃ (a c : Addr) (start : Str) (rows : List SRow) (cs : List Str) (cz : Str → Nat) (val : Str → Int) (l : List Str) (s : Int), vs = [.ref a, .ref c, .str start] ∧ Sys RowT H a rows ∧ Good rows ∧ Caus H c cs cz ∧ cs.length ≤ 200 ∧
  Lk rows cs cz ∧ Low rows val (gOf rows cs cz) ∧ l ≠ [] ∧ Ch (gOf rows cs cz) start l start s ∧ ∀ H' q, Same H H' → RingAt H' q rows → Q (.ref q) H'
theorem scThrough : FnScope ["differences", "causes", "start", "found", "name"] ["differences", "causes", "start"] (defScope sThrough) := ⟨rfl, rfl, rfl, by decide +kernel, rfl, by decide +kernel, by decide +kernel⟩
theorem ok_through {f : Addr} {fd : FuncData} (F : Fun K "_ring_through" "_ring_through" sThrough f fd) : FnOk P w K mg base CX0 1 f fd ["differences", "causes", "start"] spThrough := by
  refine F.ok scThrough (fun vs H Q E h => ?_) (fun cdv A outer s H vs Q E hr h => ?_)
  · obtain ⟨a, c, start, rows, cs, cz, val, l, s, rfl, _⟩ := h
    rfl
  · obtain ⟨a, c, start, rows, cs, cz, val, l, sm, rfl, ⟨ps, hA, hl, hat⟩, g, hC, hcs, lk, L, hne, hch, q⟩ := h
    have hu := hu_of hr
    refine ⟨_, pss_cons (ps_set (i := 3) scThrough.nd rfl (.inl rfl) (pe_lst (pa_cons (pe_dget hu (pv 1) (pv 2) (fun _ _ => rfl)) pa_nil)))
      (pss_cons (ps_set (i := 4) scThrough.nd rfl (.inl rfl) (pe_ix ix_tup (pe_ix ix_list (pv 0) (pe_dget hu (pv 1) (pv 2) (fun _ _ => rfl)) (fun _ _ => rfl)) pe_int (fun _ _ => rfl)))
      (pss_cons (ps_while PassesOwn.never (pt_cmpR op_ne (pv 4) (pv 2) (nomark _))
        (pss_cons (ps_expr (pe_bm PySem.F.plainAttrs_list PySem.F.slot_list_append PySem.F.type_list_append mt_append (pv 3) (pa_cons (pe_dget hu (pv 1) (pv 4) (fun _ _ => rfl)) pa_nil)))
        (pss_one (ps_set (i := 4) scThrough.nd rfl (.inl rfl) (pe_ix ix_tup (pe_ix ix_list (pv 0) (pe_dget hu (pv 1) (pv 4) (fun _ _ => rfl)) (fun _ _ => rfl)) pe_int (fun _ _ => rfl))))))
      (pss_one (ps_ret (pv 3))))), ?_⟩
    -- the row of a name with a cause
    have rowOf : ∀ {H' : Hp} {x y : Str} {k : Int}, Same H H' → gOf rows cs cz x = some (y, k) → x ∈ cs ∧ ∃ p, (ps.map V.ref)[cz x]? = some (.ref p) ∧ H' p = some (.tup (rowV (x, y, k))) := fun {H' x y k} s1 e => by
      obtain ⟨m, e2⟩ := gOf_some lk e
      have hi : cz x < ps.length := by
        rw [hl]
        exact (List.getElem?_eq_some_iff.mp e2).1
      refine ⟨m, ps[cz x], by rw [List.getElem?_map, List.getElem?_eq_getElem hi]; rfl, ?_⟩
      exact (hat (cz x) _ _ (List.getElem?_eq_getElem hi) e2).same s1
    obtain ⟨y0, k0, s0, l0, e0, h0, hl0⟩ : ∃ y k s' l', gOf rows cs cz start = some (y, k) ∧ Ch (gOf rows cs cz) y l' start s' ∧ l = start :: l' := by
      cases hch with
      | nil => exact absurd rfl hne
      | @cons _ y _ k s' l' e h => exact ⟨y, k, s', l', e, h, rfl⟩
    obtain ⟨m0, p0, hp0, hr0⟩ := rowOf (Same.refl H) e0
    refine ⟨.ref c, rfl, .str start, rfl, c, _, rfl, dget hC m0, by show 1 ≤ sizeLine; decide, fun o no => ?_⟩
    have s1 : Same H (upd H o (.lst [.int (cz start : Nat)])) := same_upd no
    have gC1 := hC.same s1
    refine ⟨.ref a, rfl, .ref c, rfl, .str start, rfl, c, _, rfl, dget gC1 m0, a, _, _, _, rfl, rfl, SqL.of (s1 _ _ hA), atI_nat hp0, p0, _, 1, _, rfl, rfl, SqT.of (s1 _ _ hr0), atI_nat (j := 1) rfl, ?_⟩
    refine ⟨fun m σ H' => ∃ (v2 : List Str) (name : Str) (l2 : List Str) (s1 s2 : Int), σ = [some (.ref a), some (.ref c), some (.str start), some (.ref o), some (.str name)] ∧ Same H H' ∧
      H' o = some (.lst ((start :: v2).map fun x => V.int (cz x : Nat))) ∧ Ch (gOf rows cs cz) start (start :: v2) name s1 ∧ (∀ x ∈ v2, x ≠ start) ∧ Ch (gOf rows cs cz) name l2 start s2 ∧ m = l2.length,
      ⟨l0.length, [], y0, l0, _, s0, rfl, s1, upd_same, Ch.cons e0 (Ch.nil y0), fun x hx => absurd hx List.not_mem_nil, h0, rfl⟩, ?_⟩
    rintro m σ H1 ⟨v2, name, l2, t1, t2, rfl, sm1, ho, hw, hv, hw2, rfl⟩
    have few : (start :: v2).length ≤ 200 := by
      refine Nat.le_trans (nodup_le (start :: v2) cs ?_ ?_) hcs
      · exact hw.distinct hv hw2
      · intro x hx
        cases e : gOf rows cs cz x with
        | none => exact absurd e (hw.mem_some x hx)
        | some yk => exact (gOf_some lk (y := yk.1) (c := yk.2) e).1
    refine ⟨_, rfl, _, rfl, rfl, _, rfl, ?_⟩
    by_cases z : name = start
    · subst z
      have ez : (!decide (V.str name = V.str name)) = false := by rw [decide_eq_true rfl]; rfl
      rw [ez]
      refine iteF ⟨.ref o, rfl, q H1 o sm1 ⟨(name :: v2).map cz, ?_, ring_read lk L (fun r hr => (g.row r hr).1) hw hv, ?_⟩⟩
      · rw [ho, List.map_map]
        rfl
      · rw [List.length_map]
        exact few
    · have ez : (!decide (V.str name = V.str start)) = true := by
        rw [decide_eq_false fun e => z (V.str.inj e)]
        rfl
      rw [ez]
      obtain ⟨y, k, s', l', e, h, rfl⟩ : ∃ y k s' l', gOf rows cs cz name = some (y, k) ∧ Ch (gOf rows cs cz) y l' start s' ∧ l2 = name :: l' := by
        cases hw2 with
        | nil => exact absurd rfl z
        | @cons _ y _ k s' l' e h => exact ⟨y, k, s', l', e, h, rfl⟩
      obtain ⟨mN, pN, hpN, hrN⟩ := rowOf sm1 e
      have gC2 := hC.same sm1
      refine iteT ⟨fun σ' H' => ∃ (v2 : List Str) (s1 s2 : Int), σ' = [some (.ref a), some (.ref c), some (.str start), some (.ref o), some (.str y)] ∧ Same H H' ∧
        H' o = some (.lst ((start :: v2).map fun x => V.int (cz x : Nat))) ∧ Ch (gOf rows cs cz) start (start :: v2) y s1 ∧ (∀ x ∈ v2, x ≠ start) ∧ Ch (gOf rows cs cz) y l' start s2,
        fun σ' H' hN => ?_, ?_⟩
      · obtain ⟨v3, s3, s4, r1, r2, r3, r4, r5, r6⟩ := hN
        exact ⟨l'.length, Nat.lt_succ_self _, v3, y, l', s3, s4, r1, r2, r3, r4, r5, r6, rfl⟩
      · refine ⟨.ref o, rfl, .inl ⟨rfl, _, SqL.of ho⟩, .ref c, rfl, .str name, rfl, c, _, rfl, dget gC2 mN, o, _, _, rfl, rfl, ho, by rw [List.length_map]; exact small1000 (by omega), ?_⟩
        have nco : c ≠ o := ne_of gC2 ho (by intro z; cases z)
        have sm2 : Same H (upd H1 o (.lst ((start :: v2).map (fun x => V.int (cz x : Nat)) ++ [.int (cz name : Nat)]))) := sm1.later no
        obtain ⟨mN2, pN2, hpN2, hrN2⟩ := rowOf sm2 e
        refine ⟨.ref a, rfl, .ref c, rfl, .str name, rfl, c, _, rfl, dget (hC.same sm2) mN, a, _, _, _, rfl, rfl, SqL.of (sm2 _ _ hA), atI_nat hpN2, pN2, _, 1, _, rfl, rfl, SqT.of hrN2, atI_nat (j := 1) rfl, ?_⟩
        refine ⟨v2 ++ [name], _, s', rfl, sm2, ?_, hw.snoc e, fun x hx => ?_, h⟩
        · rw [upd_same, ← List.cons_append, List.map_append]
          rfl
        · rcases List.mem_append.mp hx with r | r
          · exact hv x r
          · rw [List.mem_singleton] at r
            exact r ▸ z
end
end Lo
namespace Lo
open PySem L2
theorem put_map {α β γ : Type} [DecidableEq α] (F : β → γ) (f : α → β) (a : α) (b : β) : put (fun x => F (f x)) a (F b) = fun x => F (put f a b x) := by
  funext x
  unfold put
  split <;> rfl
section
variable {P : Program} {w : World} {K : PySem.W.Frag} {mg : Str → Option Value} {base : Heap}
def spTurn : Sp := fun vs H Q _ => ∃ (a c : Addr) (rows : List SRow) (cs : List Str) (cz : Str → Nat) (val : Str → Int), vs = [.ref a, .ref c] ∧ Sys RowT H a rows ∧ Good rows ∧ Caus H c cs cz ∧ cs.length ≤ 200 ∧
  Lk rows cs cz ∧ Low rows val (gOf rows cs cz) ∧ ∀ H' x, Same H H' → ((x = .non ∧ ∀ y, Ends (gOf rows cs cz) y) ∨ ∃ q, x = .ref q ∧ RingAt H' q rows) → Q x H'
theorem scTurn : FnScope ["differences", "causes", "rounds", "number", "start", "name"] ["differences", "causes"] (defScope sTurn) := ⟨rfl, rfl, rfl, by decide +kernel, rfl, by decide +kernel, by decide +kernel⟩
theorem ok_turn {f fR : Addr} {fd fdR : FuncData} (F : Fun K "_turn" "_turn" sTurn f fd) (T : Blt mg) (GR : FnOk P w K mg base CX0 1 fR fdR ["differences", "causes", "start"] spThrough) (kR : PySem.W.keepIn K (.ref fR) = true)
    (bR : Binds K fdR ["differences", "causes", "start"] []) (gR : mg "_ring_through" = some (.ref fR)) : FnOk P w K mg base CX0 2 f fd ["differences", "causes"] spTurn := by
  refine F.ok scTurn (fun vs H Q E h => ?_) (fun cdv A outer s H vs Q E hr h => ?_)
  · obtain ⟨a, c, rows, cs, cz, val, rfl, _⟩ := h
    rfl
  · obtain ⟨a, c, rows, cs, cz, val, rfl, hS, g, hC, hcs, lk, L, q⟩ := h
    have hS0 := hS
    obtain ⟨ps, hA, hl, hat⟩ := hS
    have hu := hu_of hr
    refine ⟨_, pss_cons (ps_set (i := 2) scTurn.nd rfl (.inl rfl) pe_dnewK)
      (pss_cons (ps_for PassesOwn.never rfl (pi_enum (by rfl) T.enum (pa_cons (pe_callTy (call_listD rfl) (by rfl) T.list PyProof.Rows.boot_list (pa_cons (pv 1) pa_nil)) pa_nil))
          (pg_tup rfl (pgs_cons (pg_name (i := 3) scTurn.nd rfl (.inl rfl)) (pgs_cons (pg_name (i := 4) scTurn.nd rfl (.inl rfl)) pgs_nil)))
        (pss_cons (ps_set (i := 5) scTurn.nd rfl (.inl rfl) (pv 4))
        (pss_cons (ps_while PassesOwn.never (PW.pt (pw_and (pt_cmp (pc_din hu (pv 5) (pv 1))) (pw_and1 (pt_cmp (pc_dnotin hu (pv 5) (pv 2))))))
          (pss_cons (ps_dput hu (pv 2) (pv 5) (pv 3) rfl)
          (pss_one (ps_set (i := 5) scTurn.nd rfl (.inl rfl) (pe_ix ix_tup (pe_ix ix_list (pv 0) (pe_dget hu (pv 1) (pv 5) (fun _ _ => rfl)) (fun _ _ => rfl)) pe_int (fun _ _ => rfl))))))
        (pss_one (ps_if (PW.pt (pw_and (pt_cmp (pc_din hu (pv 5) (pv 1))) (pw_and1 (pt_cmpR op_eq (pe_dget hu (pv 2) (pv 5) (fun _ _ => rfl)) (pv 3) (nomark _)))))
          (pss_one (ps_ret (pe_call GR hr (by rfl) gR kR bR .nil pass0 (pa_cons (pv 0) (pa_cons (pv 1) (pa_cons (pv 5) pa_nil)))))) pss_nil)))))
      (pss_one (ps_ret pe_non))), ?_⟩
    intro d nd
    have s1 : Same H (upd H d (.dK [])) := same_upd nd
    refine ⟨.ref c, rfl, c, _, rfl, Rd.of (hC.same s1), fun lc nlc => ?_⟩
    have s2 : Same (upd H d (.dK [])) (upd (upd H d (.dK [])) lc (.lst ((dS cs fun x => V.int (cz x : Nat)).map fun kv => kV kv.1))) := same_upd nlc
    have nld : lc ≠ d := fun e => by
      rw [e, upd_same] at nlc
      cases nlc
    rw [dS_keys] at s2 ⊢
    refine ⟨lc, cs.map V.str, rfl, SqL.of upd_same, for_it walk_enum (fun i σ H' => ∃ (y3 y4 y5 : Option V) (rs : List Str) (rn : Str → Nat), σ = [some (.ref a), some (.ref c), some (.ref d), y3, y4, y5] ∧ Same H H' ∧
        H' lc = some (.lst (cs.map V.str)) ∧ H' d = some (.dK (dS rs fun x => .int (rn x : Nat))) ∧ Met (gOf rows cs cz) cs rs rn i)
      ⟨none, none, none, [], fun _ => 0, rfl, s1.trans s2, upd_same, by rw [upd_ne nld.symm, upd_same]; rfl, Met.start _ _ _⟩ (fun i σ H' _ ⟨_, _, _, _, _, _, _, hlc, _⟩ => SqL.of hlc) ?_ ?_⟩
    · rintro i x σ H1 H2 hi ⟨y3, y4, y5, rs, rn, rfl, sm, hlc, hd, M⟩ ⟨tp, x1, x2, rfl, ntp, rfl, e1, e2⟩
      have hi' : i < cs.length := by
        rw [List.length_map] at hi
        exact hi
      obtain rfl : V.int ((i : Nat) : Int) = x1 := Option.some.inj e1
      obtain ⟨start, hst, rfl⟩ : ∃ start, cs[i]? = some start ∧ x2 = .str start := by
        have e2' : (cs.map V.str)[i]? = some x2 := e2
        rw [List.getElem?_map, List.getElem?_eq_getElem hi'] at e2'
        exact ⟨_, List.getElem?_eq_getElem hi', (Option.some.inj e2').symm⟩
      have smT : Same H1 (upd H1 tp (.tup [.int (i : Nat), .str start])) := same_upd ntp
      refine ⟨tp, _, rfl, SqT.of upd_same, rfl, _, _, rfl, _, _, rfl, rfl, ?_⟩
      refine ⟨.str start, rfl, ?_⟩
      refine ⟨fun m σ H' => ∃ (name : Str) (t : List Str) (rn : Str → Nat), σ = [some (.ref a), some (.ref c), some (.ref d), some (.int (i : Nat)), some (.str start), some (.str name)] ∧ Same H H' ∧
        H' lc = some (.lst (cs.map V.str)) ∧ H' d = some (.dK (dS (rs ++ t) fun x => .int (rn x : Nat))) ∧ MetIn (gOf rows cs cz) cs rs rn i start t name ∧ m = cs.length - (rs ++ t).length,
        ⟨cs.length - (rs ++ []).length, start, [], rn, rfl, sm.trans smT, smT _ _ hlc, by rw [List.append_nil]; exact smT _ _ hd, MetIn.start M start, rfl⟩, ?_⟩
      rintro m σ H3 ⟨name, t, rn3, rfl, sm3, hlc3, hd3, M3, rfl⟩
      have gC3 := hC.same sm3
      refine ⟨.str name, rfl, .ref c, rfl, c, _, rfl, dgetI name gC3, _, rfl, ?_⟩
      by_cases hc : name ∈ cs
      · rw [if_pos hc]
        refine iteT ⟨.str name, rfl, .ref d, rfl, d, _, rfl, dgetI name hd3, _, rfl, ?_⟩
        by_cases hn : name ∈ rs ++ t
        · rw [if_pos hn]
          -- met before: of this turn, or of an earlier one
          refine iteF ⟨.str name, rfl, .ref c, rfl, c, _, rfl, dget gC3 hc, _, rfl, iteT ?_⟩
          refine ⟨.ref d, rfl, .str name, rfl, d, _, rfl, dget hd3 hn, .int (i : Nat), rfl, rfl, _, rfl, ite2 (fun e => ?_) (fun e => ?_)⟩
          · have ei : ((rn3 name : Nat) : Int) = (i : Nat) := V.int.inj (of_decide_eq_true e)
            rcases List.mem_append.mp hn with k | k
            · have := (M3.ends name k).2
              omega
            · obtain ⟨_, l, s, hne, hch⟩ := M3.now name k
              refine ⟨.ref a, rfl, .ref c, rfl, .str name, rfl, a, c, name, rows, cs, cz, val, l, s, rfl, hS0.sameT sm3, g, gC3, hcs, lk, L, hne, hch, fun H' q' s' hR => ?_⟩
              exact q H' (.ref q') (sm3.trans s') (.inr ⟨q', rfl, hR⟩)
          · have hE : Ends (gOf rows cs cz) name := by
              rcases List.mem_append.mp hn with k | k
              · exact (M3.ends name k).1
              · have := (M3.now name k).1
                exact absurd (decide_eq_true (by rw [this])) e
            exact ⟨_, _, _, rs ++ t, rn3, rfl, sm3, hlc3, hd3, M3.close hst hE M.past⟩
        · rw [if_neg hn]
          obtain ⟨y, k, ey⟩ := lk name hc
          have eg := gOf_in hc ey
          have room := M3.room hc hn
          have eadd : addN (rs ++ t) name = rs ++ (t ++ [name]) := by
            unfold addN
            rw [if_neg hn, List.append_assoc]
          refine iteT ⟨fun σ' H' => ∃ (rn : Str → Nat), σ' = [some (.ref a), some (.ref c), some (.ref d), some (.int (i : Nat)), some (.str start), some (.str y)] ∧ Same H H' ∧
            H' lc = some (.lst (cs.map V.str)) ∧ H' d = some (.dK (dS (rs ++ (t ++ [name])) fun x => .int (rn x : Nat))) ∧ MetIn (gOf rows cs cz) cs rs rn i start (t ++ [name]) y, fun σ' H' hN => ?_, ?_⟩
          · obtain ⟨rn4, r1, r2, r3, r4, r5⟩ := hN
            refine ⟨cs.length - (rs ++ (t ++ [name])).length, ?_, y, t ++ [name], rn4, r1, r2, r3, r4, r5, rfl⟩
            rw [← List.append_assoc, List.length_append, List.length_singleton]
            omega
          · refine ⟨.int (i : Nat), rfl, .ref d, rfl, .str name, rfl, d, _, rfl, dput name (.int (i : Nat)) hd3 (by omega), ?_⟩
            have sm4 : ∀ o, Same H (upd H3 d o) := fun o => sm3.later nd
            have hi2 : cz name < ps.length := by
              rw [hl]
              exact (List.getElem?_eq_some_iff.mp ey).1
            have hp2 : (ps.map V.ref)[cz name]? = some (.ref ps[cz name]) := by
              rw [List.getElem?_map, List.getElem?_eq_getElem hi2]
              rfl
            have hr2 := hat (cz name) _ _ (List.getElem?_eq_getElem hi2) ey
            refine ⟨.ref a, rfl, .ref c, rfl, .str name, rfl, c, _, rfl, dget (hC.same (sm4 _)) hc, a, _, _, _, rfl, rfl, SqL.of (sm4 _ _ _ hA), atI_nat hp2, ps[cz name], _, 1, _, rfl, rfl, SqT.of (sm4 _ _ _ hr2), atI_nat (j := 1) rfl, ?_⟩
            refine ⟨put rn3 name i, rfl, sm4 _, by rw [upd_ne nld]; exact hlc3, ?_, M3.step hc hn eg⟩
            rw [upd_same, eadd, put_map (fun n : Nat => V.int (n : Int))]
      · rw [if_neg hc]
        -- a name without a cause
        refine iteF ?_
        refine iteF ⟨.str name, rfl, .ref c, rfl, c, _, rfl, dget0 gC3 hc, _, rfl, iteF (iteF ?_)⟩
        exact ⟨_, _, _, rs ++ t, rn3, rfl, sm3, hlc3, hd3, M3.close hst (ends_none (gOf_out hc)) M.past⟩
    · rintro σ H1 ⟨y3, y4, y5, rs, rn, rfl, sm, hlc, hd, M⟩
      rw [List.length_map] at M
      exact q H1 .non sm (.inl ⟨rfl, M.all fun x hx => gOf_out hx⟩)
end
end Lo
namespace Lo
open PySem L2
abbrev sSettled : Stmt := top 17
section
variable {P : Program} {w : World} {K : PySem.W.Frag} {mg : Str → Option Value} {base : Heap}
/-- what the pair at t tells of rows: a ring, or values at which all holds -/
def Settled (H : Hp) (t : Addr) (rows : List SRow) : Prop := (∃ q, H t = some (.tup [.ref q, .non]) ∧ RingAt H q rows) ∨
  ∃ (d : Addr) (ks : List Str) (val : Str → Int), H t = some (.tup [.non, .ref d]) ∧ H d = some (.dK (dS ks fun x => .int (val x))) ∧ (∀ x, x ∈ ks ↔ Named rows x) ∧ ks.length ≤ 200 ∧ Sat rows val
def spSettled : Sp := fun vs H Q _ => ∃ (a : Addr) (rows : List SRow), vs = [.ref a] ∧ Sys RowT H a rows ∧ Good rows ∧ ∀ H' t, Same H H' → Settled H' t rows → Q (.ref t) H'
abbrev nSettled : List Str := ["differences", "values", "left", "right", "_", "causes", "changed", "place", "limit", "found"]
theorem scSettled : FnScope nSettled ["differences"] (defScope sSettled) := ⟨rfl, rfl, rfl, by decide +kernel, rfl, by decide +kernel, by decide +kernel⟩
/-- what holds of the values and the causes, at the loops of _settled -/
structure Mid (H0 H : Hp) (d c : Addr) (rows : List SRow) (cs : List Str) (cz : Str → Nat) (val : Str → Int) : Prop where
  same : Same H0 H
  vals : H d = some (.dK (dS (namesTo rows rows.length) fun x => .int (val x)))
  caus : Caus H c cs cz
  nd : cs.Nodup
  sub : ∀ x ∈ cs, x ∈ namesTo rows rows.length
  lk : Lk rows cs cz
  low : Low rows val (gOf rows cs cz)
theorem ok_settled {f fT : Addr} {fd fdT : FuncData} (F : Fun K "_settled" "_settled" sSettled f fd) (T : Blt mg) (GT : FnOk P w K mg base CX0 2 fT fdT ["differences", "causes"] spTurn) (kT : PySem.W.keepIn K (.ref fT) = true)
    (bT : Binds K fdT ["differences", "causes"] []) (gT : mg "_turn" = some (.ref fT)) : FnOk P w K mg base CX0 3 f fd ["differences"] spSettled := by
  refine F.ok scSettled (fun vs H Q E h => ?_) (fun cdv A outer s H vs Q E hr h => ?_)
  · obtain ⟨a, rows, rfl, _⟩ := h
    rfl
  · obtain ⟨a, rows, rfl, hS, g, q⟩ := h
    have hS0 := hS
    obtain ⟨ps, hA, hl, hat⟩ := hS
    have hu := hu_of hr
    have nd := scSettled.nd
    refine ⟨_, pss_cons (ps_set (i := 1) nd rfl (.inl rfl) pe_dnewK)
      (pss_cons (ps_for PassesOwn.never rfl (pi_list (pv 0)) (pg_tup rfl (pgs_cons (pg_name (i := 2) nd rfl (.inl rfl)) (pgs_cons (pg_name (i := 3) nd rfl (.inl rfl)) (pgs_cons (pg_name (i := 4) nd rfl (.inl rfl)) pgs_nil))))
        (pss_cons (ps_dput hu (pv 1) (pv 2) pe_int rfl) (pss_one (ps_dput hu (pv 1) (pv 3) pe_int rfl))))
      (pss_cons (ps_set (i := 5) nd rfl (.inl rfl) pe_dnewK)
      (pss_cons (ps_set (i := 6) nd rfl (.inl rfl) pe_bl)
      (pss_cons (ps_while PassesOwn.never (pt_val (pv 6))
        (pss_cons (ps_set (i := 6) nd rfl (.inl rfl) pe_bl)
        (pss_cons (ps_for PassesOwn.never rfl (pi_enum (by rfl) T.enum (pa_cons (pv 0) pa_nil))
            (pg_tup rfl (pgs_cons (pg_name (i := 7) nd rfl (.inl rfl)) (pgs_cons (pg_tup rfl (pgs_cons (pg_name (i := 2) nd rfl (.inl rfl)) (pgs_cons (pg_name (i := 3) nd rfl (.inl rfl)) (pgs_cons (pg_name (i := 8) nd rfl (.inl rfl)) pgs_nil)))) pgs_nil)))
          (pss_one (ps_if (pt_cmpR op_lt (pe_op op_add (pe_dget hu (pv 1) (pv 3) (fun _ _ => rfl)) (pv 8)) (pe_dget hu (pv 1) (pv 2) (fun _ _ => rfl)) (nomark _))
            (pss_cons (ps_dput hu (pv 1) (pv 2) (pe_op op_add (pe_dget hu (pv 1) (pv 3) (fun _ _ => rfl)) (pv 8)) rfl)
            (pss_cons (ps_dput hu (pv 5) (pv 2) (pv 7) rfl)
            (pss_one (ps_set (i := 6) nd rfl (.inl rfl) pe_bl)))) pss_nil)))
        (pss_cons (ps_set (i := 9) nd rfl (.inl rfl) (pe_call GT hr (by rfl) gT kT bT .nil pass0 (pa_cons (pv 0) (pa_cons (pv 5) pa_nil))))
        (pss_one (ps_if (pt_cmpR op_notN (pv 9) pe_non (nomark _)) (pss_one (ps_ret (pe_tup (pa_cons (pv 9) (pa_cons pe_non pa_nil))))) pss_nil))))))
      (pss_one (ps_ret (pe_tup (pa_cons pe_non (pa_cons (pv 1) pa_nil))))))))), ?_⟩
    have few := g.few
    have hks : (namesTo rows rows.length).length ≤ 200 := by
      have := namesTo_len rows rows.length
      omega
    intro d ndd
    have s1 : Same H (upd H d (.dK [])) := same_upd ndd
    refine ⟨.ref a, rfl, a, rfl, ⟨_, SqL.of (s1 _ _ hA)⟩, for_list (K := K) (a := a) (xs := ps.map V.ref) (fun i σ H' => ∃ (y2 y3 y4 : Option V), σ = [some (.ref a), some (.ref d), y2, y3, y4, none, none, none, none, none] ∧ Same H H' ∧ H' d = some (.dK (dS (namesTo rows i) fun _ => .int 0)))
      ⟨none, none, none, rfl, s1, upd_same⟩ (fun i σ H' _ ⟨_, _, _, _, sm, _⟩ => SqL.of (sm _ _ hA)) ?_ ?_⟩
    · rintro i x σ H1 hi ⟨y2, y3, y4, rfl, sm, hd⟩
      obtain ⟨p, r, rfl, hp, hrr, hmem, hlt, hR⟩ := Sys.at hl hat hi
      have hR1 : RowT H1 p r := hR.same sm
      have l0 := namesTo_len rows i
      have l1 := length_addN (l := namesTo rows i) (x := r.1)
      refine ⟨p, rowV r, rfl, SqT.of hR1, rfl, _, _, rfl, _, _, rfl, _, _, rfl, rfl, ?_⟩
      have hput : ∀ (x : Str), (fun _ : Str => V.int 0) = put (fun _ : Str => V.int 0) x (.int 0) := fun x => by
        funext y
        unfold put
        split <;> rfl
      refine ⟨.ref d, rfl, .str r.1, rfl, d, _, rfl, dput r.1 (.int 0) hd (by omega), ?_⟩
      rw [← hput]
      refine ⟨.ref d, rfl, .str r.2.1, rfl, d, _, rfl, dput r.2.1 (.int 0) upd_same (by omega), ?_⟩
      rw [← hput]
      exact ⟨_, _, _, rfl, (sm.later ndd).later ndd, by rw [upd_same, namesTo_succ hrr]⟩
    · rintro σ H1 ⟨y2, y3, y4, rfl, sm, hd⟩
      rw [List.length_map, hl] at hd
      intro c nc
      have ndc : d ≠ c := ne_of_none hd nc
      have nc0 : H c = none := sm.free nc
      have g0 : gOf rows [] (fun _ => 0) = fun _ => none := funext fun x => gOf_out List.not_mem_nil
      have mid0 : Mid H (upd H1 c (.dK [])) d c rows [] (fun _ => 0) (fun _ => 0) := by
        refine ⟨sm.later nc0, ?_, upd_same, List.nodup_nil, fun x h => absurd h List.not_mem_nil, fun x h => absurd h List.not_mem_nil, ?_⟩
        · rw [upd_ne ndc]
          exact hd
        · rw [g0]
          exact Low.start rows
      refine ⟨fun m σ H' => ∃ (y2 y3 y4 y7 y8 y9 : Option V) (b : Bool) (cs : List Str) (cz : Str → Nat) (val : Str → Int), σ = [some (.ref a), some (.ref d), y2, y3, y4, some (.ref c), some (.bl b), y7, y8, y9] ∧
        Mid H H' d c rows cs cz val ∧ (∀ x, Ends (gOf rows cs cz) x) ∧ (b = false → Sat rows val) ∧ m = if b = true then (pot rows (namesTo rows rows.length) val).toNat + 1 else 0,
        ⟨_, y2, y3, y4, none, none, none, true, [], fun _ => 0, fun _ => 0, rfl, mid0, fun x => by rw [g0]; exact ends_none rfl, (fun h => nomatch h), rfl⟩, ?_⟩
      rintro m σ H2 ⟨y2, y3, y4, y7, y8, y9, b, cs, cz, val, rfl, M, hE, hsat, rfl⟩
      refine ⟨_, rfl, b, rfl, ?_⟩
      cases b with
      | false =>
        refine iteF ⟨.ref d, rfl, by show 2 ≤ sizeLine; decide, fun t nt => ?_⟩
        have s3 : Same H2 (upd H2 t (.tup [.non, .ref d])) := same_upd nt
        exact q _ t (M.same.trans s3) (.inr ⟨d, namesTo rows rows.length, val, upd_same, s3 _ _ M.vals, fun x => namesTo_all, hks, hsat rfl⟩)
      | true =>
        have p0 := pot_nonneg (namesTo rows rows.length) M.low hE
        refine iteT ⟨fun σ' H' => ∃ (y2 y3 y4 y7 y8 y9 : Option V) (b : Bool) (cs : List Str) (cz : Str → Nat) (val' : Str → Int), σ' = [some (.ref a), some (.ref d), y2, y3, y4, some (.ref c), some (.bl b), y7, y8, y9] ∧
          Mid H H' d c rows cs cz val' ∧ (∀ x, Ends (gOf rows cs cz) x) ∧ (b = false → Sat rows val') ∧ (b = true → pot rows (namesTo rows rows.length) val' < pot rows (namesTo rows rows.length) val), fun σ' H' hN => ?_, ?_⟩
        · obtain ⟨z2, z3, z4, z7, z8, z9, b, cs', cz', val', e1, M', hE', hs', hp'⟩ := hN
          refine ⟨_, ?_, z2, z3, z4, z7, z8, z9, b, cs', cz', val', e1, M', hE', hs', rfl⟩
          cases b with
          | false =>
            rw [if_neg Bool.false_ne_true, if_pos rfl]
            exact Nat.succ_pos _
          | true =>
            have p1 := pot_nonneg (namesTo rows rows.length) M'.low hE'
            have := hp' rfl
            rw [if_pos rfl, if_pos rfl]
            omega
        · refine ⟨.ref a, rfl, a, ps.map V.ref, rfl, SqL.of (M.same _ _ hA), for_it walk_enum (fun i σ H' => ∃ (y2 y3 y4 y7 y8 y9 : Option V) (b : Bool) (cs : List Str) (cz : Str → Nat) (val' : Str → Int), σ = [some (.ref a), some (.ref d), y2, y3, y4, some (.ref c), some (.bl b), y7, y8, y9] ∧
            Mid H H' d c rows cs cz val' ∧ (b = false → ∀ (j : Nat) (r : SRow), j < i → rows[j]? = some r → val' r.1 - val' r.2.1 ≤ r.2.2) ∧ (pot rows (namesTo rows rows.length) val' ≤ pot rows (namesTo rows rows.length) val ∧ (b = true → pot rows (namesTo rows rows.length) val' < pot rows (namesTo rows rows.length) val)))
            ⟨y2, y3, y4, y7, y8, y9, false, cs, cz, val, rfl, M, fun _ j r h => absurd h (Nat.not_lt_zero _), Int.le_refl _, fun h => nomatch h⟩ (fun i σ H' _ ⟨_, _, _, _, _, _, _, _, _, _, _, M, _⟩ => SqL.of (M.same _ _ hA)) ?_ ?_⟩
          · rintro i x σ H3 H4 hi ⟨y2, y3, y4, y7, y8, y9, b, cs, cz, val', rfl, M3, hb, hp⟩ ⟨tp, x1, x2, rfl, ntp, rfl, e1, e2⟩
            obtain ⟨p, ⟨x, y, k⟩, rfl, hpp, hrr, hmem, hlt, hR⟩ := Sys.at hl hat e2
            obtain rfl : V.int ((i : Nat) : Int) = x1 := Option.some.inj e1
            have smT : Same H3 (upd H3 tp (.tup [.int (i : Nat), .ref p])) := same_upd ntp
            have nxy : x ≠ y := (g.row _ hmem).1
            have hx : x ∈ namesTo rows rows.length := namesTo_all.mpr ⟨_, hmem, .inl rfl⟩
            have hy : y ∈ namesTo rows rows.length := namesTo_all.mpr ⟨_, hmem, .inr rfl⟩
            have hd4 := smT _ _ M3.vals
            have hc4 : Caus (upd H3 tp (.tup [.int (i : Nat), .ref p])) c cs cz := M3.caus.same smT
            have sm4 := M3.same.trans smT
            have hR4 := hR.same sm4
            refine ⟨tp, _, rfl, SqT.of upd_same, rfl, _, _, rfl, _, _, rfl, ⟨p, _, rfl, SqT.of hR4, rfl, _, _, rfl, _, _, rfl, _, _, rfl, rfl, rfl, ?_⟩⟩
            refine ⟨.ref d, rfl, .str y, rfl, d, _, rfl, dget hd4 hy, .int k, rfl, _, _, rfl, rfl, .ref d, rfl, .str x, rfl, d, _, rfl, dget hd4 hx, _, _, rfl, rfl, _, rfl, ite2 (fun e => ?_) (fun e => ?_)⟩
            · have hlt2 : val' y + k < val' x := of_decide_eq_true e
              refine ⟨.ref d, rfl, .str y, rfl, d, _, rfl, dget hd4 hy, .int k, rfl, _, _, rfl, rfl, .ref d, rfl, .str x, rfl, d, _, rfl, dput x (.int (val' y + k)) hd4 (by omega), ?_⟩
              have hcs : cs.length ≤ 200 := Nat.le_trans (nodup_le cs _ M3.nd M3.sub) hks
              have hc5 : Caus (upd (upd H3 tp (.tup [.int (i : Nat), .ref p])) d (.dK (dS (addN (namesTo rows rows.length) x) (put (fun x => V.int (val' x)) x (.int (val' y + k)))))) c cs cz := by
                show upd _ d _ c = _
                rw [upd_ne ndc.symm]
                exact hc4
              refine ⟨.int (i : Nat), rfl, .ref c, rfl, .str x, rfl, c, _, rfl, dput x (.int (i : Nat)) hc5 (by omega), ?_⟩
              have ead : addN (namesTo rows rows.length) x = namesTo rows rows.length := if_pos hx
              rw [ead, put_map (fun n : Int => V.int n), put_map (fun n : Nat => V.int (n : Int))]
              refine ⟨_, _, _, _, _, _, true, addN cs x, put cz x i, put val' x (val' y + k), rfl, ⟨(sm4.later ndd).later nc0, ?_, upd_same, nodup_addN M3.nd, fun z hz => ?_, lk_put M3.lk hrr, ?_⟩, (fun h => nomatch h), ?_⟩
              · rw [upd_ne ndc, upd_same]
              · exact (mem_addN.mp hz).elim (M3.sub z) fun z => z ▸ hx
              · rw [gOf_put hrr]
                exact M3.low.step hmem nxy hlt2
              · have h1 := pot_put (rows := rows) (val := val') hx hlt2
                exact ⟨Int.le_of_lt (Int.lt_of_lt_of_le h1 hp.1), fun _ => Int.lt_of_lt_of_le h1 hp.1⟩
            · have hge : ¬ val' y + k < val' x := fun z => e (decide_eq_true z)
              refine ⟨_, _, _, _, _, _, b, cs, cz, val', rfl, ⟨sm4, hd4, hc4, M3.nd, M3.sub, M3.lk, M3.low⟩, fun hbf j r hj hjr => ?_, hp⟩
              by_cases ji : j = i
              · subst ji
                rw [hrr] at hjr
                have := Option.some.inj hjr
                subst this
                show val' x - val' y ≤ k
                omega
              · exact hb hbf j r (by omega) hjr
          · rintro σ H3 ⟨y2, y3, y4, y7, y8, y9, b, cs, cz, val', rfl, M3, hb, hp⟩
            rw [List.length_map, hl] at hb
            have hcs : cs.length ≤ 200 := Nat.le_trans (nodup_le cs _ M3.nd M3.sub) hks
            refine ⟨.ref a, rfl, .ref c, rfl, a, c, rows, cs, cz, val', rfl, hS0.sameT M3.same, g, M3.caus, hcs, M3.lk, M3.low, fun H4 x s4 hx => ?_⟩
            rcases hx with ⟨rfl, hE4⟩ | ⟨t, rfl, hR⟩
            · refine ⟨_, rfl, rfl, _, rfl, iteF ?_⟩
              refine ⟨_, _, _, _, _, _, b, cs, cz, val', rfl, ⟨M3.same.trans s4, s4 _ _ M3.vals, M3.caus.same s4, M3.nd, M3.sub, M3.lk, M3.low⟩, hE4, fun h r hr => ?_, hp.2⟩
              obtain ⟨j, hj, e⟩ := List.getElem_of_mem hr
              exact hb h j r hj (by rw [List.getElem?_eq_getElem hj, e])
            · refine ⟨_, rfl, rfl, _, rfl, iteT ⟨.ref t, rfl, by show 2 ≤ sizeLine; decide, fun tt nt => ?_⟩⟩
              have s5 : Same H4 (upd H4 tt (.tup [.ref t, .non])) := same_upd nt
              exact q _ tt ((M3.same.trans s4).trans s5) (.inl ⟨t, upd_same, hR.same s5⟩)
end
end Lo
namespace Lo
open PySem L2
abbrev sReached : Stmt := top 20
/-- the item of a row: its place, its right side, its limit -/
def itemV (j : Nat) (y : Str) (c : Int) : List V := [.int (j : Nat), .str y, .int c]
/-- the rows below i, by their left sides -/
structure StepsTo (H0 H : Hp) (sd : Addr) (rows : List SRow) (i : Nat) (sk : List Str) (sa : Str → Addr) : Prop where
  dict : H sd = some (.dK (dS sk fun x => .ref (sa x)))
  few : sk.length ≤ i
  new : ∀ x ∈ sk, H0 (sa x) = none
  apart : ∀ x ∈ sk, ∀ y ∈ sk, sa x = sa y → x = y
  lists : ∀ x ∈ sk, ∃ qs : List Addr, H (sa x) = some (.lst (qs.map V.ref)) ∧ qs.length ≤ i ∧ (∀ q ∈ qs, ∃ (j : Nat) (y : Str) (c : Int), rows[j]? = some (x, y, c) ∧ H q = some (.tup (itemV j y c))) ∧
    ∀ (j : Nat) (y : Str) (c : Int), j < i → rows[j]? = some (x, y, c) → ∃ q ∈ qs, H q = some (.tup (itemV j y c))
  has : ∀ (j : Nat) (r : SRow), j < i → rows[j]? = some r → r.1 ∈ sk
theorem StepsTo.same {H0 H H' : Hp} {sd : Addr} {rows : List SRow} {i : Nat} {sk : List Str} {sa : Str → Addr} (s : Same H H') (h : StepsTo H0 H sd rows i sk sa) : StepsTo H0 H' sd rows i sk sa := by
  refine ⟨s _ _ h.dict, h.few, h.new, h.apart, fun x hx => ?_, h.has⟩
  obtain ⟨qs, h1, h2, h3, h4⟩ := h.lists x hx
  refine ⟨qs, s _ _ h1, h2, fun q hq => ?_, fun j y c hj hr => ?_⟩
  · obtain ⟨j, y, c, e1, e2⟩ := h3 q hq
    exact ⟨j, y, c, e1, s _ _ e2⟩
  · obtain ⟨q, hq, e⟩ := h4 j y c hj hr
    exact ⟨q, hq, s _ _ e⟩
/-- one more row: its item is put behind the list of its left side -/
theorem StepsTo.put {H0 H : Hp} {sd : Addr} {rows : List SRow} {i : Nat} {sk : List Str} {sa : Str → Addr} {x y : Str} {c : Int} {t l : Addr} {qs : List Addr} (hr : rows[i]? = some (x, y, c)) (hx : x ∈ sk) (hl : sa x = l)
    (dict : H sd = some (.dK (dS sk fun x => .ref (sa x)))) (few : sk.length ≤ i + 1) (new : ∀ x ∈ sk, H0 (sa x) = none) (apart : ∀ x ∈ sk, ∀ y ∈ sk, sa x = sa y → x = y) (nsd : sd ≠ l)
    (lists : ∀ z ∈ sk, z ≠ x → ∃ qs : List Addr, H (sa z) = some (.lst (qs.map V.ref)) ∧ qs.length ≤ i ∧ (∀ q ∈ qs, ∃ (j : Nat) (y : Str) (c : Int), rows[j]? = some (z, y, c) ∧ H q = some (.tup (itemV j y c))) ∧
      ∀ (j : Nat) (y : Str) (c : Int), j < i → rows[j]? = some (z, y, c) → ∃ q ∈ qs, H q = some (.tup (itemV j y c)))
    (h1 : H l = some (.lst (qs.map V.ref))) (h2 : qs.length ≤ i) (h3 : ∀ q ∈ qs, ∃ (j : Nat) (y : Str) (c : Int), rows[j]? = some (x, y, c) ∧ H q = some (.tup (itemV j y c)))
    (h4 : ∀ (j : Nat) (y : Str) (c : Int), j < i → rows[j]? = some (x, y, c) → ∃ q ∈ qs, H q = some (.tup (itemV j y c))) (ht : H t = some (.tup (itemV i y c)))
    (has : ∀ (j : Nat) (r : SRow), j < i → rows[j]? = some r → r.1 ∈ sk) : StepsTo H0 (upd H l (.lst (qs.map V.ref ++ [.ref t]))) sd rows (i + 1) sk sa := by
  have tup : ∀ (q : Addr) (xs : List V), H q = some (.tup xs) → upd H l (.lst (qs.map V.ref ++ [.ref t])) q = some (.tup xs) := fun q xs h => by
    rw [upd_ne (ne_of h h1 (by intro z; cases z))]
    exact h
  refine ⟨by rw [upd_ne nsd]; exact dict, few, new, apart, fun z hz => ?_, fun j r hj hjr => ?_⟩
  · by_cases k : z = x
    · subst k
      refine ⟨qs ++ [t], ?_, ?_, fun q hq => ?_, fun j y' c' hj hjr => ?_⟩
      · rw [hl, upd_same, List.map_append]
        rfl
      · rw [List.length_append, List.length_singleton]
        omega
      · rcases List.mem_append.mp hq with q1 | q1
        · obtain ⟨j, y', c', e1, e2⟩ := h3 q q1
          exact ⟨j, y', c', e1, tup _ _ e2⟩
        · rw [List.mem_singleton] at q1
          subst q1
          exact ⟨i, y, c, hr, tup _ _ ht⟩
      · by_cases ji : j = i
        · subst ji
          rw [hr] at hjr
          have e := Option.some.inj hjr
          injection e with _ e
          injection e with e1 e2
          subst e1 e2
          exact ⟨t, List.mem_append_right _ (List.mem_singleton.mpr rfl), tup _ _ ht⟩
        · obtain ⟨q, hq, e⟩ := h4 j y' c' (by omega) hjr
          exact ⟨q, List.mem_append_left _ hq, tup _ _ e⟩
    · obtain ⟨qs', e1, e2, e3, e4⟩ := lists z hz k
      have nz : sa z ≠ l := fun e => k (apart z hz x hx (e.trans hl.symm))
      refine ⟨qs', by rw [upd_ne nz]; exact e1, by omega, fun q hq => ?_, fun j y' c' hj hjr => ?_⟩
      · obtain ⟨j, y', c', f1, f2⟩ := e3 q hq
        exact ⟨j, y', c', f1, tup _ _ f2⟩
      · by_cases ji : j = i
        · subst ji
          rw [hr] at hjr
          have e := Option.some.inj hjr
          injection e with e _
          exact absurd e.symm k
        · obtain ⟨q, hq, e⟩ := e4 j y' c' (by omega) hjr
          exact ⟨q, hq, tup _ _ e⟩
  · by_cases ji : j = i
    · subst ji
      rw [hr] at hjr
      have e := Option.some.inj hjr
      subst e
      exact hx
    · exact has j r (by omega) hjr
/-- the state of the search at a heap -/
structure Ph (Hs H : Hp) (su ca : Addr) (rows : List SRow) (left : Str) (ss : List Str) (sv : Str → Int) (cs : List Str) (cz : Str → Nat) : Prop where
  same : Same Hs H
  sums : H su = some (.dK (dS ss fun x => .int (sv x)))
  caus : H ca = some (.dK (dS cs fun x => .int (cz x : Nat)))
  nd : cs.Nodup
  sub : ∀ x ∈ cs, x ∈ ss
  S : SW rows left ss sv cs cz
def optV : Option Int → V
  | some k => .int k
  | none => .non
/-- one lowering: three dicts are changed -/
theorem Ph.step {Hs H : Hp} {su ca ch : Addr} {rows : List SRow} {left : Str} {ss : List Str} {sv : Str → Int} {cs : List Str} {cz : Str → Nat} {hs : List Str} {name y : Str} {c : Int} {j : Nat}
    (M : Ph Hs H su ca rows left ss sv cs cz) {v : Str → Int} (hv : Sat rows v) (nab : name ≠ y) (n1 : su ≠ ca) (n2 : su ≠ ch) (n3 : ca ≠ ch) (f1 : Hs su = none) (f2 : Hs ca = none) (f3 : Hs ch = none) (hr : rows[j]? = some (name, y, c)) (hn : name ∈ ss) (h : y ∈ ss → sv name + c < sv y) :
    Ph Hs (upd (upd (upd H su (.dK (dS (addN ss y) (put (fun x => V.int (sv x)) y (.int (sv name + c)))))) ca (.dK (dS (addN cs y) (put (fun x => V.int (cz x : Nat)) y (.int (j : Nat)))))) ch (.dK (dS (addN hs y) (put (fun _ => V.bl true) y (.bl true)))))
      su ca rows left (addN ss y) (put sv y (sv name + c)) (addN cs y) (put cz y j) := by
  refine ⟨((M.same.later f1).later f2).later f3, ?_, ?_, nodup_addN M.nd, fun x hx => ?_, M.S.step hv hr nab hn h⟩
  · rw [upd_ne n2, upd_ne n1, upd_same, put_map (fun n : Int => V.int n)]
  · rw [upd_ne n3, upd_same, put_map (fun n : Nat => V.int (n : Int))]
  · rcases mem_addN.mp hx with q | q
    · exact mem_addN.mpr (.inl (M.sub x q))
    · exact mem_addN.mpr (.inr q)
theorem put_true (hs : List Str) (y : Str) : dS (addN hs y) (put (fun _ => V.bl true) y (.bl true)) = dS (addN hs y) fun _ => V.bl true := by
  have e : put (fun _ : Str => V.bl true) y (.bl true) = fun _ => V.bl true := by
    funext z
    unfold put
    split <;> rfl
  rw [e]
/-- what is no dict stays where dicts are changed -/
theorem stays {H : Hp} {p b : Addr} {kvs kvs' : List (Key × V)} {o : HO} (hp : H p = some (.dK kvs)) (h : H b = some o) (no : ∀ k, o ≠ .dK k) : upd H p (.dK kvs') b = some o := by
  rw [upd_ne (ne_of h hp (no _))]
  exact h
section
variable {P : Program} {w : World} {K : PySem.W.Frag} {mg : Str → Option Value} {base : Heap}
/-- the last causes, as a dict; where there is a sum, a chain of it is read off them -/
def Causes (H : Hp) (ca : Addr) (rows : List SRow) (left right : Str) (b : Option Int) : Prop := ∃ (cs : List Str) (cz : Str → Nat), H ca = some (.dK (dS cs fun x => .int (cz x : Nat))) ∧ ∀ k, b = some k → ∃ l, Cway rows left cs cz right l ∧ Chain rows left right k l
def spReached : Sp := fun vs H Q _ => ∃ (a : Addr) (left right : Str) (rows : List SRow) (v : Str → Int), vs = [.ref a, .str left, .str right] ∧ Sys RowT H a rows ∧ Good rows ∧ Sat rows v ∧
  ∀ H' t ca b, Same H H' → H' t = some (.tup [optV b, .ref ca]) → Best rows left right b → Causes H' ca rows left right b → Q (.ref t) H'
abbrev nReached : List Str := ["differences", "left", "right", "steps", "place", "one", "other", "limit", "sums", "causes", "waiting", "changed", "name"]
theorem scReached : FnScope nReached ["differences", "left", "right"] (defScope sReached) := ⟨rfl, rfl, rfl, by decide +kernel, rfl, by decide +kernel, by decide +kernel⟩
theorem ok_reached {f : Addr} {fd : FuncData} (F : Fun K "_reached" "_reached" sReached f fd) (T : Blt mg) : FnOk P w K mg base CX0 1 f fd ["differences", "left", "right"] spReached := by
  refine F.ok scReached (fun vs H Q E h => ?_) (fun cdv A outer s H vs Q E hr h => ?_)
  · obtain ⟨a, left, right, rows, v, rfl, _⟩ := h
    rfl
  · obtain ⟨a, left, right, rows, v, rfl, ⟨ps, hA, hl, hat⟩, g, hv, q⟩ := h
    have hu := hu_of hr
    have nd := scReached.nd
    have few := g.few
    refine ⟨_, pss_cons (ps_set (i := 3) nd rfl (.inl rfl) pe_dnewK)
      (pss_cons (ps_for PassesOwn.never rfl (pi_enum (by rfl) T.enum (pa_cons (pv 0) pa_nil))
          (pg_tup rfl (pgs_cons (pg_name (i := 4) nd rfl (.inl rfl)) (pgs_cons (pg_tup rfl (pgs_cons (pg_name (i := 5) nd rfl (.inl rfl)) (pgs_cons (pg_name (i := 6) nd rfl (.inl rfl)) (pgs_cons (pg_name (i := 7) nd rfl (.inl rfl)) pgs_nil)))) pgs_nil)))
        (pss_one (ps_expr (pe_bm PySem.F.plainAttrs_list PySem.F.slot_list_append PySem.F.type_list_append mt_append (pe_dsetd (pv 3) (pv 5) (pe_lst pa_nil) ⟨rfl, rfl, rfl, rfl⟩)
          (pa_cons (pe_tup (pa_cons (pv 4) (pa_cons (pv 6) (pa_cons (pv 7) pa_nil)))) pa_nil)))))
      (pss_cons (ps_set (i := 8) nd rfl (.inl rfl) (pe_disp (pps_cons (pv 1) pe_int pps_nil) rfl rfl (fun z => nomatch z) (by decide)))
      (pss_cons (ps_set (i := 9) nd rfl (.inl rfl) pe_dnewK)
      (pss_cons (ps_set (i := 10) nd rfl (.inl rfl) (pe_lst (pa_cons (pv 1) pa_nil)))
      (pss_cons (ps_while PassesOwn.never (pt_truth (pv 10) (by intro _; rfl))
        (pss_cons (ps_set (i := 11) nd rfl (.inl rfl) pe_dnewK)
        (pss_cons (ps_for PassesOwn.never rfl (pi_list (pv 10)) (pg_name (i := 12) nd rfl (.inl rfl))
          (pss_one (ps_for PassesOwn.never rfl (pi_list (pe_dget2 hu (pv 3) (pv 12) (pe_lst pa_nil) ⟨rfl, rfl, rfl, rfl⟩)) (pg_tup rfl (pgs_cons (pg_name (i := 4) nd rfl (.inl rfl)) (pgs_cons (pg_name (i := 6) nd rfl (.inl rfl)) (pgs_cons (pg_name (i := 7) nd rfl (.inl rfl)) pgs_nil))))
            (pss_one (ps_if (PW.pt (pw_or (pt_cmp (pc_dnotin hu (pv 6) (pv 8))) (pw_or1 (pt_cmpR op_lt (pe_op op_add (pe_dget hu (pv 8) (pv 12) (fun _ _ => rfl)) (pv 7)) (pe_dget hu (pv 8) (pv 6) (fun _ _ => rfl)) (nomark _)))))
              (pss_cons (ps_dput hu (pv 8) (pv 6) (pe_op op_add (pe_dget hu (pv 8) (pv 12) (fun _ _ => rfl)) (pv 7)) rfl)
              (pss_cons (ps_dput hu (pv 9) (pv 6) (pv 4) rfl)
              (pss_one (ps_dput hu (pv 11) (pv 6) pe_bl rfl)))) pss_nil)))))
        (pss_one (ps_set (i := 10) nd rfl (.inl rfl) (pe_callTy (call_listD rfl) (by rfl) T.list PyProof.Rows.boot_list (pa_cons (pv 11) pa_nil))))))
      )
      (pss_one (ps_ret (pe_tup (pa_cons (pe_dget1 hu (pv 8) (pv 2) ⟨rfl, rfl, rfl, rfl⟩) (pa_cons (pv 9) pa_nil)))))))))), ?_⟩
    intro sd nsd
    have s1 : Same H (upd H sd (.dK [])) := same_upd nsd
    -- the rows by their left sides
    refine ⟨.ref a, rfl, a, ps.map V.ref, rfl, SqL.of (s1 _ _ hA), for_it walk_enum (fun i σ H' => ∃ (y4 y5 y6 y7 : Option V) (sk : List Str) (sa : Str → Addr), σ = [some (.ref a), some (.str left), some (.str right), some (.ref sd), y4, y5, y6, y7, none, none, none, none, none] ∧ Same H H' ∧ StepsTo H H' sd rows i sk sa)
      ⟨none, none, none, none, [], fun _ => 0, rfl, s1, upd_same, Nat.le_refl _, fun x h => absurd h List.not_mem_nil, fun x h => absurd h List.not_mem_nil, fun x h => absurd h List.not_mem_nil, fun j r h => absurd h (Nat.not_lt_zero _)⟩
      (fun i σ H' _ ⟨_, _, _, _, _, _, _, sm, _⟩ => SqL.of (sm _ _ hA)) ?_ ?_⟩
    · rintro i x σ H1 H2 hi ⟨y4, y5, y6, y7, sk, sa, rfl, sm, St⟩ ⟨tp, x1, x2, rfl, ntp, rfl, e1, e2⟩
      obtain ⟨p, ⟨x, y, k⟩, rfl, hpp, hrr, hmem, hlt, hR⟩ := Sys.at hl hat e2
      obtain rfl : V.int ((i : Nat) : Int) = x1 := Option.some.inj e1
      have smT : Same H1 (upd H1 tp (.tup [.int (i : Nat), .ref p])) := same_upd ntp
      have hR4 := (hR.same sm).same smT
      refine ⟨tp, _, rfl, SqT.of upd_same, rfl, _, _, rfl, _, _, rfl, ⟨p, _, rfl, SqT.of hR4, rfl, _, _, rfl, _, _, rfl, _, _, rfl, rfl, rfl, ?_⟩⟩
      have St1 := St.same smT
      have sm1 := sm.trans smT
      generalize upd H1 tp (.tup [.int (i : Nat), .ref p]) = H3 at hR4 St1 sm1 ⊢
      refine ⟨.ref sd, rfl, sd, rfl, .inl ⟨_, Rd.of St1.dict⟩, .str x, rfl, Nat.zero_le _, fun z nz => ?_⟩
      have s4 : Same H3 (upd H3 z (.lst [])) := same_upd nz
      have St4 := St1.same s4
      have sm4 := sm1.trans s4
      have nz0 : H z = none := sm1.free nz
      have nsdz : sd ≠ z := ne_of_none St1.dict nz
      refine ⟨_, Sum.inr x, St4.dict, rfl, by rw [dS_len]; exact small1000 (by have := St4.few; omega), fun l hl' => ?_, fun hno => ?_⟩
      · -- there is a list of it
        have hx : x ∈ sk := by
          by_cases m : x ∈ sk
          · exact m
          · rw [dS_out m] at hl'
            cases hl'
        rw [dS_in hx] at hl'
        have := Option.some.inj hl'
        subst this
        obtain ⟨qs, h1, h2, h3, h4⟩ := St4.lists x hx
        refine ⟨.inl ⟨rfl, _, SqL.of h1⟩, .int (i : Nat), rfl, .str y, rfl, .int k, rfl, by show 3 ≤ sizeLine; decide, fun t nt => ?_⟩
        have s5 : Same (upd H3 z (.lst [])) (upd (upd H3 z (.lst [])) t (.tup [.int (i : Nat), .str y, .int k])) := same_upd nt
        have St5 := St4.same s5
        obtain ⟨qs, h1, h2, h3, h4⟩ := St5.lists x hx
        refine ⟨sa x, _, _, rfl, rfl, h1, by rw [List.length_map]; exact small1000 (by omega), ?_⟩
        have nsx : sd ≠ sa x := ne_of St5.dict h1 (by intro z; cases z)
        exact ⟨_, _, _, _, sk, sa, rfl, (sm4.trans s5).later (St5.new x hx), StepsTo.put hrr hx rfl St5.dict (Nat.le_succ_of_le St5.few) St5.new St5.apart nsx (fun z hz _ => St5.lists z hz) h1 h2 h3 h4 upd_same St5.has⟩
      · -- a new list
        have hx : x ∉ sk := fun m => by
          rw [dS_in m] at hno
          cases hno
        have nzsd : z ≠ sd := nsdz.symm
        have hz6 : upd (upd H3 z (.lst [])) sd (.dK (putK (dS sk fun x => .ref (sa x)) (Sum.inr x) (.ref z))) z = some (.lst []) := by
          rw [upd_ne nzsd, upd_same]
        refine ⟨.inl ⟨rfl, _, SqL.of hz6⟩, .int (i : Nat), rfl, .str y, rfl, .int k, rfl, by show 3 ≤ sizeLine; decide, fun t nt => ?_⟩
        have s5 := same_upd (o := HO.tup [.int (i : Nat), .str y, .int k]) nt
        have sm6 : Same H (upd (upd H3 z (.lst [])) sd (.dK (putK (dS sk fun x => .ref (sa x)) (Sum.inr x) (.ref z)))) := sm4.later nsd
        refine ⟨z, [], _, rfl, rfl, s5 _ _ hz6, by show 0 < sizeLine; decide, ?_⟩
        have ead : addN sk x = sk ++ [x] := if_neg hx
        have old : ∀ b o, H3 b = some o → b ≠ sd → upd (upd (upd H3 z (.lst [])) sd (.dK (putK (dS sk fun x => .ref (sa x)) (Sum.inr x) (.ref z)))) t (.tup [.int (i : Nat), .str y, .int k]) b = some o := fun b o e hb => s5 _ _ (by
          rw [upd_ne hb]
          exact s4 _ _ e)
        refine ⟨_, _, _, _, addN sk x, put sa x z, rfl, (sm6.trans s5).later nz0, StepsTo.put (qs := []) hrr (mem_addN.mpr (.inr rfl)) (put_at _ _ _) ?_ ?_ (fun u hu' => ?_) (fun u hu' u2 hu2 e => ?_) nsdz (fun u hu' hne => ?_) (s5 _ _ hz6) (Nat.zero_le _) (fun q h => absurd h List.not_mem_nil) (fun j y' c' hj hjr => ?_) upd_same (fun j r hj hjr => ?_)⟩
        · refine s5 _ _ ?_
          rw [upd_same, dS_put, put_map (fun n : Addr => V.ref n)]
        · rw [ead, List.length_append, List.length_singleton]
          have := St4.few
          omega
        · by_cases j : u = x
          · rw [j, put_at]
            exact nz0
          · rw [put_off j]
            exact St4.new u ((mem_addN.mp hu').resolve_right j)
        · have away : ∀ u ∈ sk, sa u ≠ z := fun u hu0 e => by
            obtain ⟨qs, h1, _⟩ := St1.lists u hu0
            rw [e, nz] at h1
            cases h1
          by_cases j : u = x
          · by_cases j2 : u2 = x
            · rw [j, j2]
            · rw [j, put_at, put_off j2] at e
              exact absurd e.symm (away u2 ((mem_addN.mp hu2).resolve_right j2))
          · by_cases j2 : u2 = x
            · rw [j2, put_at, put_off j] at e
              exact absurd e (away u ((mem_addN.mp hu').resolve_right j))
            · rw [put_off j, put_off j2] at e
              exact St4.apart u ((mem_addN.mp hu').resolve_right j) u2 ((mem_addN.mp hu2).resolve_right j2) e
        · have hu0 := (mem_addN.mp hu').resolve_right hne
          obtain ⟨qs, h1, h2, h3, h4⟩ := St1.lists u hu0
          rw [put_off hne]
          refine ⟨qs, old _ _ h1 (ne_of h1 St1.dict (by intro z; cases z)), h2, fun q hq => ?_, fun j y' c' hj hjr => ?_⟩
          · obtain ⟨j, y', c', f1, f2⟩ := h3 q hq
            exact ⟨j, y', c', f1, old _ _ f2 (ne_of f2 St1.dict (by intro z; cases z))⟩
          · obtain ⟨q, hq, f⟩ := h4 j y' c' hj hjr
            exact ⟨q, hq, old _ _ f (ne_of f St1.dict (by intro z; cases z))⟩
        · exact absurd (St4.has j _ hj hjr) hx
        · exact mem_addN.mpr (.inl (St4.has j r hj hjr))
    · rintro σ Hs ⟨y4, y5, y6, y7, sk, sa, rfl, smS, St⟩
      rw [List.length_map, hl] at St
      intro su nsu
      have s3 : Same Hs (upd Hs su (.dK [])) := same_upd nsu
      have em : mergeK [] [((Sum.inr left : Key), V.int 0)] = dS [left] fun _ => .int 0 := by
        show putK (dS [] fun _ => V.int 0) (Sum.inr left) (.int 0) = _
        rw [dS_put]
        have e : put (fun _ : Str => V.int 0) left (.int 0) = fun _ => V.int 0 := by
          funext z
          unfold put
          split <;> rfl
        rw [e]
        rfl
      refine ⟨.str left, rfl, upd_same, [((Sum.inr left : Key), V.int 0)], rfl, by show 1 ≤ 15; decide, ?_⟩
      rw [em, upd_upd]
      have sA : Same Hs (upd Hs su (.dK (dS [left] fun _ => .int 0))) := same_upd nsu
      intro ca nca
      have nsc : su ≠ ca := fun e => by
        rw [← e, upd_same] at nca
        cases nca
      have fca : Hs ca = none := sA.free nca
      have sB : Same (upd Hs su (.dK (dS [left] fun _ => .int 0))) (upd (upd Hs su (.dK (dS [left] fun _ => .int 0))) ca (.dK [])) := same_upd nca
      refine ⟨.str left, rfl, by show 1 ≤ sizeLine; decide, fun wl nwl => ?_⟩
      have sC := same_upd (o := HO.lst [V.str left]) nwl
      refine ⟨fun m σ H' => ∃ (y4 y5 y6 y7 y11 y12 : Option V) (ws ss : List Str) (sv : Str → Int) (cs : List Str) (cz : Str → Nat) (wl : Addr), σ = [some (.ref a), some (.str left), some (.str right), some (.ref sd), y4, y5, y6, y7, some (.ref su), some (.ref ca), some (.ref wl), y11, y12] ∧
        Ph Hs H' su ca rows left ss sv cs cz ∧ H' wl = some (.lst (ws.map V.str)) ∧ (∀ x ∈ ws, x ∈ ss) ∧ (∀ a ∈ ss, a ∈ ws ∨ Done rows ss sv a) ∧ m = 2 * (gap rows left v ss sv).toNat + if ws = [] then 0 else 1,
        ⟨_, y4, y5, y6, y7, none, none, [left], [left], fun _ => 0, [], fun _ => 0, wl, rfl, ⟨(sA.trans sB).trans sC, sC _ _ (sB _ _ upd_same), sC _ _ upd_same, List.nodup_nil, fun x h => absurd h List.not_mem_nil, SW.start rows left _ _ rfl⟩, upd_same, fun x h => h, fun a h => .inl h, rfl⟩, ?_⟩
      rintro m σ H2 ⟨y4, y5, y6, y7, y11, y12, ws, ss, sv, cs, cz, wl, rfl, M, hwl, hws, hdone, rfl⟩
      refine ⟨.ref wl, rfl, _, .inl ⟨_, SqL.of hwl, rfl⟩, ?_⟩
      by_cases hne : ws = []
      · subst hne
        refine iteF ?_
        have St2 := St.same M.same
        refine ⟨.ref su, rfl, su, rfl, .inl ⟨_, Rd.of M.sums⟩, .str right, rfl, _, dgetI right M.sums, .ref ca, rfl, by show 2 ≤ sizeLine; decide, fun t nt => ?_⟩
        have sD := same_upd (o := HO.tup [(if right ∈ ss then some (V.int (sv right)) else none).getD .non, .ref ca]) nt
        have B := M.S.toSums.best (fun a ha => (hdone a ha).resolve_left List.not_mem_nil) hv right
        refine q _ t ca (if right ∈ ss then some (sv right) else none) ((smS.trans M.same).trans sD) ?_ B ⟨cs, cz, sD _ _ M.caus, fun k e => ?_⟩
        rotate_left
        · by_cases m : right ∈ ss
          · rw [if_pos m] at e
            injection e with e
            subst e
            exact M.S.chain (fun a ha => (hdone a ha).resolve_left List.not_mem_nil) hv m
          · rw [if_neg m] at e
            cases e
        rw [upd_same]
        by_cases m : right ∈ ss
        · rw [if_pos m, if_pos m]
          rfl
        · rw [if_neg m, if_neg m]
          rfl
      · have ht : (!(ws.map V.str).isEmpty) = true := by
          cases ws with
          | nil => exact absurd rfl hne
          | cons _ _ => rfl
        rw [ht]
        rw [if_neg hne]
        refine iteT ⟨fun σ' H' => ∃ (y4 y5 y6 y7 y11 y12 : Option V) (ws ss' : List Str) (sv' : Str → Int) (cs : List Str) (cz : Str → Nat) (wl : Addr), σ' = [some (.ref a), some (.str left), some (.str right), some (.ref sd), y4, y5, y6, y7, some (.ref su), some (.ref ca), some (.ref wl), y11, y12] ∧
          Ph Hs H' su ca rows left ss' sv' cs cz ∧ H' wl = some (.lst (ws.map V.str)) ∧ (∀ x ∈ ws, x ∈ ss') ∧ (∀ a ∈ ss', a ∈ ws ∨ Done rows ss' sv' a) ∧ gap rows left v ss' sv' ≤ gap rows left v ss sv ∧ (ws ≠ [] → gap rows left v ss' sv' < gap rows left v ss sv), fun σ' H' hN => ?_, ?_⟩
        · obtain ⟨z4, z5, z6, z7, z11, z12, ws', ss', sv', cs', cz', wl', e1, M', hwl', hws', hd', g1, g2⟩ := hN
          refine ⟨_, ?_, z4, z5, z6, z7, z11, z12, ws', ss', sv', cs', cz', wl', e1, M', hwl', hws', hd', rfl⟩
          have p1 := M'.S.gap_nonneg hv
          by_cases k : ws' = []
          · rw [if_pos k]
            omega
          · rw [if_neg k]
            have := g2 k
            omega
        · intro ch nch
          have fch : Hs ch = none := M.same.free nch
          have nuh : su ≠ ch := ne_of_none M.sums nch
          have nah : ca ≠ ch := ne_of_none M.caus nch
          have sD := same_upd (o := HO.dK []) nch
          refine ⟨.ref wl, rfl, wl, rfl, ⟨_, SqL.of (sD _ _ hwl)⟩, for_list (K := K) (a := wl) (xs := ws.map V.str) (fun i σ H' => ∃ (y4 y5 y6 y7 y12 : Option V) (ss' : List Str) (sv' : Str → Int) (cs : List Str) (cz : Str → Nat) (hs : List Str),
              σ = [some (.ref a), some (.str left), some (.str right), some (.ref sd), y4, y5, y6, y7, some (.ref su), some (.ref ca), some (.ref wl), some (.ref ch), y12] ∧ Ph Hs H' su ca rows left ss' sv' cs cz ∧ H' wl = some (.lst (ws.map V.str)) ∧
              H' ch = some (.dK (dS hs fun _ => .bl true)) ∧ hs.Nodup ∧ (∀ x ∈ hs, x ∈ ss') ∧ (∀ x ∈ ws, x ∈ ss') ∧ (∀ a ∈ ss', a ∈ ws.drop i ∨ a ∈ hs ∨ Done rows ss' sv' a) ∧ gap rows left v ss' sv' ≤ gap rows left v ss sv ∧ (hs ≠ [] → gap rows left v ss' sv' < gap rows left v ss sv))
            ⟨y4, y5, y6, y7, y12, ss, sv, cs, cz, [], rfl, ⟨M.same.trans sD, sD _ _ M.sums, sD _ _ M.caus, M.nd, M.sub, M.S⟩, sD _ _ hwl, upd_same, List.nodup_nil, fun x h => absurd h List.not_mem_nil, hws, fun a ha => (hdone a ha).imp id .inr, Int.le_refl _, fun h => absurd rfl h⟩
            (fun i σ H' _ ⟨_, _, _, _, _, _, _, _, _, _, _, _, hwl', _⟩ => SqL.of hwl') ?_ ?_⟩
          · rintro i x σ H3 hi ⟨y4, y5, y6, y7, y12, ss1, sv1, cs1, cz1, hs1, rfl, M1, hwl1, hch1, hnd1, hsub1, hws1, hdone1, g1, g2⟩
            obtain ⟨name, hnm, rfl⟩ : ∃ name, ws[i]? = some name ∧ x = .str name := by
              rw [List.getElem?_map] at hi
              cases e : ws[i]? with
              | none =>
                rw [e] at hi
                cases hi
              | some n =>
                rw [e] at hi
                exact ⟨n, rfl, (Option.some.inj hi).symm⟩
            have hname : name ∈ ws := List.mem_of_getElem? hnm
            have edrop : ws.drop i = name :: ws.drop (i + 1) := by
              obtain ⟨hlt, e⟩ := List.getElem?_eq_some_iff.mp hnm
              rw [List.drop_eq_getElem_cons hlt, e]
            have St3 := St.same M1.same
            refine ⟨.ref sd, rfl, sd, rfl, .inl ⟨_, Rd.of St3.dict⟩, .str name, rfl, Nat.zero_le _, fun z nz => ?_⟩
            have sE := same_upd (o := HO.lst []) nz
            have St4 := St3.same sE
            refine ⟨_, dgetI name St4.dict, ?_⟩
            obtain ⟨l, qs, el, hl4, hitem, hall⟩ : ∃ (l : Addr) (qs : List Addr), (if name ∈ sk then some (V.ref (sa name)) else none).getD (.ref z) = .ref l ∧ upd H3 z (.lst []) l = some (.lst (qs.map V.ref)) ∧
                (∀ q ∈ qs, ∃ (j : Nat) (y : Str) (c : Int), rows[j]? = some (name, y, c) ∧ upd H3 z (.lst []) q = some (.tup (itemV j y c))) ∧
                ∀ (j : Nat) (y : Str) (c : Int), rows[j]? = some (name, y, c) → ∃ q ∈ qs, upd H3 z (.lst []) q = some (.tup (itemV j y c)) := by
              by_cases m : name ∈ sk
              · obtain ⟨qs, h1, h2, h3, h4⟩ := St4.lists name m
                exact ⟨sa name, qs, by rw [if_pos m]; rfl, h1, h3, fun j y c e => h4 j y c (List.getElem?_eq_some_iff.mp e).1 e⟩
              · refine ⟨z, [], by rw [if_neg m]; rfl, upd_same, fun q h => absurd h List.not_mem_nil, fun j y c e => absurd (St4.has j _ (List.getElem?_eq_some_iff.mp e).1 e) m⟩
            rw [el]
            have M4 : Ph Hs (upd H3 z (.lst [])) su ca rows left ss1 sv1 cs1 cz1 := ⟨M1.same.trans sE, sE _ _ M1.sums, sE _ _ M1.caus, M1.nd, M1.sub, M1.S⟩
            have hwl4 := sE _ _ hwl1
            have hch4 := sE _ _ hch1
            generalize upd H3 z (.lst []) = H4 at hl4 hitem hall M4 hwl4 hch4 ⊢
            refine ⟨l, rfl, ⟨_, SqL.of hl4⟩, for_list (K := K) (a := l) (xs := qs.map V.ref) (fun j σ H' => ∃ (y4 y5 y6 y7 : Option V) (ss' : List Str) (sv' : Str → Int) (cs : List Str) (cz : Str → Nat) (hs : List Str),
                σ = [some (.ref a), some (.str left), some (.str right), some (.ref sd), y4, y5, y6, y7, some (.ref su), some (.ref ca), some (.ref wl), some (.ref ch), some (.str name)] ∧ Ph Hs H' su ca rows left ss' sv' cs cz ∧ H' wl = some (.lst (ws.map V.str)) ∧
                H' ch = some (.dK (dS hs fun _ => .bl true)) ∧ hs.Nodup ∧ (∀ x ∈ hs, x ∈ ss') ∧ (∀ x ∈ ws, x ∈ ss') ∧ H' l = some (.lst (qs.map V.ref)) ∧ (∀ b xs, H4 b = some (.tup xs) → H' b = some (.tup xs)) ∧
                (∀ a ∈ ss', a ≠ name → a ∈ ws.drop (i + 1) ∨ a ∈ hs ∨ Done rows ss' sv' a) ∧ (∀ (j' : Nat) (q : Addr) (k : Nat) (y : Str) (c : Int), j' < j → qs[j']? = some q → H4 q = some (.tup (itemV k y c)) → y ∈ ss' ∧ sv' y ≤ sv' name + c) ∧
                gap rows left v ss' sv' ≤ gap rows left v ss sv ∧ (hs ≠ [] → gap rows left v ss' sv' < gap rows left v ss sv))
              ⟨y4, y5, y6, y7, ss1, sv1, cs1, cz1, hs1, rfl, M4, hwl4, hch4, hnd1, hsub1, hws1, hl4, fun b xs e => e, fun a ha hna => ?_, fun j' q k y c h => absurd h (Nat.not_lt_zero _), g1, g2⟩
              (fun j σ H' _ ⟨_, _, _, _, _, _, _, _, _, _, _, _, _, _, _, _, hl', _⟩ => SqL.of hl') ?_ ?_⟩
            · have := hdone1 a ha
              rw [edrop] at this
              exact this.imp (fun h => (List.mem_cons.mp h).resolve_left hna) id
            · rintro j x σ H5 hj ⟨y4, y5, y6, y7, ss2, sv2, cs2, cz2, hs2, rfl, M2, hwl2, hch2, hnd2, hsub2, hws2, hl2, htup, hdone2, hprev, g1, g2⟩
              obtain ⟨qa, hqa, rfl⟩ : ∃ qa, qs[j]? = some qa ∧ x = .ref qa := by
                rw [List.getElem?_map] at hj
                cases e : qs[j]? with
                | none =>
                  rw [e] at hj
                  cases hj
                | some n =>
                  rw [e] at hj
                  exact ⟨n, rfl, (Option.some.inj hj).symm⟩
              obtain ⟨k, y, c, hrow, hq4⟩ := hitem qa (List.mem_of_getElem? hqa)
              have hmem : (name, y, c) ∈ rows := List.mem_of_getElem? hrow
              have nny : name ≠ y := (g.row _ hmem).1
              have hn2 : name ∈ ss2 := hws2 name hname
              have hss : ss2.length ≤ 200 := by
                have := M2.S.few
                omega
              have hcs : cs2.length ≤ 200 := Nat.le_trans (nodup_le cs2 ss2 M2.nd M2.sub) hss
              have hhs : hs2.length ≤ 200 := Nat.le_trans (nodup_le hs2 ss2 hnd2 hsub2) hss
              refine ⟨qa, _, rfl, SqT.of (htup _ _ hq4), rfl, _, _, rfl, _, _, rfl, _, _, rfl, rfl, ?_⟩
              -- the three dicts, when the sum is set
              have hca2 : ∀ o, upd H5 su o ca = some (.dK (dS cs2 fun x => .int (cz2 x : Nat))) := fun o => by
                rw [upd_ne nsc.symm]
                exact M2.caus
              have hch3 : ∀ o o', upd (upd H5 su o) ca o' ch = some (.dK (dS hs2 fun _ => .bl true)) := fun o o' => by
                rw [upd_ne nah.symm, upd_ne nuh.symm]
                exact hch2
              have fin : (y ∈ ss2 → sv2 name + c < sv2 y) → ∀ (z4 z5 z6 z7 : Option V), ∃ (y4 y5 y6 y7 : Option V) (ss' : List Str) (sv' : Str → Int) (cs : List Str) (cz : Str → Nat) (hs : List Str),
                  [some (V.ref a), some (.str left), some (.str right), some (.ref sd), z4, z5, z6, z7, some (.ref su), some (.ref ca), some (.ref wl), some (.ref ch), some (.str name)] = [some (.ref a), some (.str left), some (.str right), some (.ref sd), y4, y5, y6, y7, some (.ref su), some (.ref ca), some (.ref wl), some (.ref ch), some (.str name)] ∧
                  Ph Hs (upd (upd (upd H5 su (.dK (dS (addN ss2 y) (put (fun x => V.int (sv2 x)) y (.int (sv2 name + c)))))) ca (.dK (dS (addN cs2 y) (put (fun x => V.int (cz2 x : Nat)) y (.int (k : Nat)))))) ch (.dK (dS (addN hs2 y) (put (fun _ => V.bl true) y (.bl true))))) su ca rows left ss' sv' cs cz ∧
                  upd (upd (upd H5 su (.dK (dS (addN ss2 y) (put (fun x => V.int (sv2 x)) y (.int (sv2 name + c)))))) ca (.dK (dS (addN cs2 y) (put (fun x => V.int (cz2 x : Nat)) y (.int (k : Nat)))))) ch (.dK (dS (addN hs2 y) (put (fun _ => V.bl true) y (.bl true)))) wl = some (.lst (ws.map V.str)) ∧
                  upd (upd (upd H5 su (.dK (dS (addN ss2 y) (put (fun x => V.int (sv2 x)) y (.int (sv2 name + c)))))) ca (.dK (dS (addN cs2 y) (put (fun x => V.int (cz2 x : Nat)) y (.int (k : Nat)))))) ch (.dK (dS (addN hs2 y) (put (fun _ => V.bl true) y (.bl true)))) ch = some (.dK (dS hs fun _ => .bl true)) ∧
                  hs.Nodup ∧ (∀ x ∈ hs, x ∈ ss') ∧ (∀ x ∈ ws, x ∈ ss') ∧
                  upd (upd (upd H5 su (.dK (dS (addN ss2 y) (put (fun x => V.int (sv2 x)) y (.int (sv2 name + c)))))) ca (.dK (dS (addN cs2 y) (put (fun x => V.int (cz2 x : Nat)) y (.int (k : Nat)))))) ch (.dK (dS (addN hs2 y) (put (fun _ => V.bl true) y (.bl true)))) l = some (.lst (qs.map V.ref)) ∧
                  (∀ b xs, H4 b = some (.tup xs) → upd (upd (upd H5 su (.dK (dS (addN ss2 y) (put (fun x => V.int (sv2 x)) y (.int (sv2 name + c)))))) ca (.dK (dS (addN cs2 y) (put (fun x => V.int (cz2 x : Nat)) y (.int (k : Nat)))))) ch (.dK (dS (addN hs2 y) (put (fun _ => V.bl true) y (.bl true)))) b = some (.tup xs)) ∧
                  (∀ a ∈ ss', a ≠ name → a ∈ ws.drop (i + 1) ∨ a ∈ hs ∨ Done rows ss' sv' a) ∧ (∀ (j' : Nat) (q : Addr) (k : Nat) (y : Str) (c : Int), j' < j + 1 → qs[j']? = some q → H4 q = some (.tup (itemV k y c)) → y ∈ ss' ∧ sv' y ≤ sv' name + c) ∧
                  gap rows left v ss' sv' ≤ gap rows left v ss sv ∧ (hs ≠ [] → gap rows left v ss' sv' < gap rows left v ss sv) := by
                intro h z4 z5 z6 z7
                have keep : ∀ b o, H5 b = some o → (∀ k, o ≠ .dK k) → upd (upd (upd H5 su (.dK (dS (addN ss2 y) (put (fun x => V.int (sv2 x)) y (.int (sv2 name + c)))))) ca (.dK (dS (addN cs2 y) (put (fun x => V.int (cz2 x : Nat)) y (.int (k : Nat)))))) ch (.dK (dS (addN hs2 y) (put (fun _ => V.bl true) y (.bl true)))) b = some o := fun b o e no =>
                  stays (hch3 _ _) (stays (hca2 _) (stays M2.sums e no) no) no
                have gs := M2.S.gap_step (v := v) hmem hn2 h
                refine ⟨z4, z5, z6, z7, addN ss2 y, put sv2 y (sv2 name + c), addN cs2 y, put cz2 y k, addN hs2 y, rfl, M2.step hv nny nsc nuh nah nsu fca fch hrow hn2 h, keep _ _ hwl2 (fun _ z => nomatch z), by rw [upd_same, put_true], nodup_addN hnd2, fun x hx => ?_, fun x hx => mem_addN.mpr (.inl (hws2 x hx)), keep _ _ hl2 (fun _ z => nomatch z),
                  fun b xs e => keep _ _ (htup b xs e) (fun _ z => nomatch z), fun x hx hnx => ?_, fun j' q k' y' c' hj' hq' e => ?_, by omega, fun _ => by omega⟩
                · exact (mem_addN.mp hx).elim (fun z => mem_addN.mpr (.inl (hsub2 x z))) fun z => mem_addN.mpr (.inr z)
                · by_cases xy : x = y
                  · exact .inr (.inl (mem_addN.mpr (.inr xy)))
                  · rcases hdone2 x ((mem_addN.mp hx).resolve_right xy) hnx with r | r | r
                    · exact .inl r
                    · exact .inr (.inl (mem_addN.mpr (.inl r)))
                    · exact .inr (.inr (r.step xy h))
                · by_cases ji : j' = j
                  · subst ji
                    rw [hqa] at hq'
                    have := Option.some.inj hq'
                    subst this
                    rw [hq4] at e
                    have e := HO.tup.inj (Option.some.inj e)
                    injection e with _ e
                    injection e with e1 e
                    injection e with e2 _
                    have e1 := V.str.inj e1
                    have e2 := V.int.inj e2
                    subst e1 e2
                    refine ⟨mem_addN.mpr (.inr rfl), ?_⟩
                    rw [put_at, put_off nny]
                    exact Int.le_refl _
                  · obtain ⟨p1, p2⟩ := hprev j' q k' y' c' (by omega) hq' e
                    refine ⟨mem_addN.mpr (.inl p1), ?_⟩
                    rw [put_off (x := name) nny]
                    by_cases yy : y' = y
                    · subst yy
                      rw [put_at]
                      have := h p1
                      omega
                    · rw [put_off yy]
                      exact p2
              by_cases hy : y ∈ ss2
              · refine ⟨.str y, rfl, .ref su, rfl, su, _, rfl, dget M2.sums hy, _, rfl, iteF ?_⟩
                refine ⟨.ref su, rfl, .str name, rfl, su, _, rfl, dget M2.sums hn2, .int c, rfl, _, _, rfl, rfl, .ref su, rfl, .str y, rfl, su, _, rfl, dget M2.sums hy, _, _, rfl, rfl, _, rfl, ite2 (fun e => ?_) (fun e => ?_)⟩
                · have hlt := of_decide_eq_true e
                  refine ⟨.ref su, rfl, .str name, rfl, su, _, rfl, dget M2.sums hn2, .int c, rfl, _, _, rfl, rfl, .ref su, rfl, .str y, rfl, su, _, rfl, dput y (.int (sv2 name + c)) M2.sums (by omega), ?_⟩
                  refine ⟨.int (k : Nat), rfl, .ref ca, rfl, .str y, rfl, ca, _, rfl, dput y (.int (k : Nat)) (hca2 _) (by omega), ?_⟩
                  refine ⟨.ref ch, rfl, .str y, rfl, ch, _, rfl, dput y (.bl true) (hch3 _ _) (by omega), ?_⟩
                  exact fin (fun _ => hlt) _ _ _ _
                · have hge : ¬ sv2 name + c < sv2 y := fun z => e (decide_eq_true z)
                  refine ⟨_, _, _, _, ss2, sv2, cs2, cz2, hs2, rfl, M2, hwl2, hch2, hnd2, hsub2, hws2, hl2, htup, hdone2, fun j' q k' y' c' hj' hq' e => ?_, g1, g2⟩
                  by_cases ji : j' = j
                  · subst ji
                    rw [hqa] at hq'
                    have := Option.some.inj hq'
                    subst this
                    rw [hq4] at e
                    have e := HO.tup.inj (Option.some.inj e)
                    injection e with _ e
                    injection e with e1 e
                    injection e with e2 _
                    have e1 := V.str.inj e1
                    have e2 := V.int.inj e2
                    subst e1 e2
                    exact ⟨hy, by omega⟩
                  · exact hprev j' q k' y' c' (by omega) hq' e
              · refine ⟨.str y, rfl, .ref su, rfl, su, _, rfl, dget0 M2.sums hy, _, rfl, iteT (iteT ?_)⟩
                refine ⟨.ref su, rfl, .str name, rfl, su, _, rfl, dget M2.sums hn2, .int c, rfl, _, _, rfl, rfl, .ref su, rfl, .str y, rfl, su, _, rfl, dput y (.int (sv2 name + c)) M2.sums (by omega), ?_⟩
                refine ⟨.int (k : Nat), rfl, .ref ca, rfl, .str y, rfl, ca, _, rfl, dput y (.int (k : Nat)) (hca2 _) (by omega), ?_⟩
                refine ⟨.ref ch, rfl, .str y, rfl, ch, _, rfl, dput y (.bl true) (hch3 _ _) (by omega), ?_⟩
                exact fin (fun z => absurd z hy) _ _ _ _
            · rintro σ H5 ⟨y4, y5, y6, y7, ss2, sv2, cs2, cz2, hs2, rfl, M2, hwl2, hch2, hnd2, hsub2, hws2, hl2, htup, hdone2, hprev, g1, g2⟩
              rw [List.length_map] at hprev
              refine ⟨_, _, _, _, _, ss2, sv2, cs2, cz2, hs2, rfl, M2, hwl2, hch2, hnd2, hsub2, hws2, fun x hx => ?_, g1, g2⟩
              by_cases xn : x = name
              · subst xn
                refine .inr (.inr fun r hr er => ?_)
                obtain ⟨x', y, c⟩ := r
                have er : x' = x := er
                subst er
                obtain ⟨j, hj, ej⟩ := List.getElem_of_mem hr
                obtain ⟨q1, hq1, eq1⟩ := hall j y c (by rw [List.getElem?_eq_getElem hj, ej])
                obtain ⟨j', hj', ej'⟩ := List.getElem_of_mem hq1
                exact hprev j' q1 j y c hj' (by rw [List.getElem?_eq_getElem hj', ej']) eq1
              · exact hdone2 x hx xn
          · rintro σ H3 ⟨y4, y5, y6, y7, y12, ss1, sv1, cs1, cz1, hs1, rfl, M1, hwl1, hch1, hnd1, hsub1, hws1, hdone1, g1, g2⟩
            rw [List.length_map, List.drop_length] at hdone1
            refine ⟨.ref ch, rfl, ch, _, rfl, Rd.of hch1, fun wl' nwl' => ?_⟩
            have sE := same_upd (o := HO.lst ((dS hs1 fun _ => V.bl true).map fun kv => kV kv.1)) nwl'
            refine ⟨_, _, _, _, _, _, hs1, ss1, sv1, cs1, cz1, wl', rfl, ⟨M1.same.trans sE, sE _ _ M1.sums, sE _ _ M1.caus, M1.nd, M1.sub, M1.S⟩, by rw [upd_same, dS_keys], hsub1, fun x hx => (hdone1 x hx).resolve_left List.not_mem_nil, g1, g2⟩
end
end Lo
namespace Lo
open PySem L2
abbrev sRing : Stmt := top 12
abbrev sSolution : Stmt := top 13
section
variable {P : Program} {w : World} {K : PySem.W.Frag} {mg : Str → Option Value} {base : Heap}
/-! ### ring -/
def spRing : Sp := fun vs H Q _ => ∃ (a : Addr) (rows : List SRow), vs = [.ref a] ∧ Sys RowA H a rows ∧ Good rows ∧
  ∀ H' x, Same H H' → ((x = .non ∧ ∃ v, Sat rows v) ∨ ∃ q, x = .ref q ∧ RingAt H' q rows) → Q x H'
theorem scRing : FnScope ["system"] ["system"] (defScope sRing) := ⟨rfl, rfl, rfl, by decide +kernel, rfl, by decide +kernel, by decide +kernel⟩
theorem ok_ring {f fS fR : Addr} {fd fdS fdR : FuncData} (F : Fun K "ring" "ring" sRing f fd) (GS : FnOk P w K mg base CX0 3 fS fdS ["differences"] spSettled) (kS : PySem.W.keepIn K (.ref fS) = true) (bS : Binds K fdS ["differences"] []) (gS : mg "_settled" = some (.ref fS))
    (GR : FnOk P w K mg base CX0 3 fR fdR ["system"] spRead) (kR : PySem.W.keepIn K (.ref fR) = true) (bR : Binds K fdR ["system"] []) (gR : mg "read_system" = some (.ref fR)) : FnOk P w K mg base CX0 4 f fd ["system"] spRing := by
  refine F.ok scRing (fun vs H Q E h => ?_) (fun cdv A outer s H vs Q E hr h => ?_)
  · obtain ⟨a, rows, rfl, _⟩ := h
    rfl
  · obtain ⟨a, rows, rfl, hS, g, q⟩ := h
    refine ⟨_, pss_one (ps_ret (pe_ix ix_tup (pe_call GS hr (by rfl) gS kS bS .nil pass0 (pa_cons (pe_call GR hr (by rfl) gR kR bR .nil pass0 (pa_cons (pv 0) pa_nil)) pa_nil)) pe_int (fun _ _ => rfl))), ?_⟩
    refine ⟨.ref a, rfl, a, rows, rfl, hS, g, fun H1 r s1 _ hr1 => ?_⟩
    refine ⟨r, rows, rfl, hr1, g, fun H2 t s2 hT => ?_⟩
    rcases hT with ⟨u, ht, hR⟩ | ⟨d, ks, val, ht, _, _, _, hs⟩
    · exact ⟨t, _, 0, _, rfl, rfl, SqT.of ht, atI_nat (j := 0) rfl, q _ _ (s1.trans s2) (.inr ⟨u, rfl, hR⟩)⟩
    · exact ⟨t, _, 0, _, rfl, rfl, SqT.of ht, atI_nat (j := 0) rfl, q _ _ (s1.trans s2) (.inl ⟨rfl, val, hs⟩)⟩
/-! ### solution -/
/-- the point at d -/
def PointAt (H : Hp) (d : Addr) (ks : List Str) (val : Str → Int) : Prop := H d = some (.dK (dS ks fun x => .int (val x)))
def worth (val : Str → Int) (x : Str) : Int := if x = ("0" : Str) then 0 else val x
def spSolution : Sp := fun vs H Q _ => ∃ (a : Addr) (rows : List SRow), vs = [.ref a] ∧ Sys RowA H a rows ∧ Good rows ∧
  ∀ H' x, Same H H' → ((x = .non ∧ ∀ v, ¬ Sat rows v) ∨ ∃ d ks val, x = .ref d ∧ PointAt H' d ks val ∧ ks.Nodup ∧ ks.length ≤ 200 ∧ (∀ x, x ∈ ks ↔ x ≠ "0" ∧ Named rows x) ∧ Sat rows (worth val)) → Q x H'
abbrev nSolution : List Str := ["system", "differences", "found", "values", "base", "name"]
theorem scSolution : FnScope nSolution ["system"] (defScope sSolution) := ⟨rfl, rfl, rfl, by decide +kernel, rfl, by decide +kernel, by decide +kernel⟩
theorem ok_solution {f fS fR fN : Addr} {fd fdS fdR fdN : FuncData} (F : Fun K "solution" "solution" sSolution f fd) (GS : FnOk P w K mg base CX0 3 fS fdS ["differences"] spSettled) (kS : PySem.W.keepIn K (.ref fS) = true) (bS : Binds K fdS ["differences"] []) (gS : mg "_settled" = some (.ref fS))
    (GR : FnOk P w K mg base CX0 3 fR fdR ["system"] spRead) (kR : PySem.W.keepIn K (.ref fR) = true) (bR : Binds K fdR ["system"] []) (gR : mg "read_system" = some (.ref fR))
    (GN : FnOk P w K mg base CX0 1 fN fdN ["differences"] spNames) (kN : PySem.W.keepIn K (.ref fN) = true) (bN : Binds K fdN ["differences"] []) (gN : mg "names_of" = some (.ref fN)) : FnOk P w K mg base CX0 4 f fd ["system"] spSolution := by
  refine F.ok scSolution (fun vs H Q E h => ?_) (fun cdv A outer s H vs Q E hr h => ?_)
  · obtain ⟨a, rows, rfl, _⟩ := h
    rfl
  · obtain ⟨a, rows, rfl, hS, g, q⟩ := h
    have hu := hu_of hr
    have nd := scSolution.nd
    refine ⟨_, pss_cons (ps_set (i := 1) nd rfl (.inl rfl) (pe_call GR hr (by rfl) gR kR bR .nil pass0 (pa_cons (pv 0) pa_nil)))
      (pss_cons (ps_asg (pe_call GS hr (by rfl) gS kS bS .nil pass0 (pa_cons (pv 1) pa_nil)) (pg_tup rfl (pgs_cons (pg_name (i := 2) nd rfl (.inl rfl)) (pgs_cons (pg_name (i := 3) nd rfl (.inr rfl)) pgs_nil))))
      (pss_cons (ps_if (pt_cmpR op_notN (pv 2) pe_non (nomark _)) (pss_one (ps_ret pe_non)) pss_nil)
      (pss_cons (ps_set (i := 4) nd rfl (.inr rfl) (pe_dget2 hu (pv 3) pe_str pe_int ⟨rfl, rfl, rfl, rfl⟩))
      (pss_one (ps_ret (pe_dc (own := [("name", 5)]) (g := gName 5) (tt := tYes) rfl nd (pi_list (pe_call GN (hr.mono (by decide)) (by rfl) gN kN bN .nil pass0 (pa_cons (pv 1) pa_nil))) (blkOk_by (N := nSolution) (sc := defScope sSolution) (by decide +kernel))
        (fun _ _ _ _ _ => pg_name (i := 5) nd rfl (.inl rfl)) (fun _ _ _ _ _ => pts_nil) (fun _ _ _ _ _ => pv 5) (fun _ _ _ _ _ => pe_op op_sub (pe_dget hu (pv 3) (pv 5) (fun _ _ => rfl)) (pv 4)))))))), ?_⟩
    refine ⟨.ref a, rfl, a, rows, rfl, hS, g, fun H1 r s1 _ hr1 => ?_⟩
    refine ⟨.ref r, rfl, r, rows, rfl, hr1, g, fun H2 t s2 hT => ?_⟩
    rcases hT with ⟨u, ht, hR⟩ | ⟨d, ks, val, ht, hd, hks, hlen, hs⟩
    · obtain ⟨found, _, hf, _⟩ := hR
      exact ⟨t, _, rfl, SqT.of ht, rfl, _, _, rfl, _, _, rfl, rfl, _, rfl, rfl, _, rfl, iteT (q _ _ (s1.trans s2) (.inl ⟨rfl, ringOk_not_sat hf⟩))⟩
    · refine ⟨t, _, rfl, SqT.of ht, rfl, _, _, rfl, _, _, rfl, rfl, _, rfl, rfl, _, rfl, iteF ?_⟩
      refine ⟨.ref d, rfl, d, rfl, .inl ⟨_, Rd.of hd⟩, _, dgetI "0" hd, ?_⟩
      obtain ⟨b, eb, hb⟩ : ∃ b : Int, (if ("0" : Str) ∈ ks then some (V.int (val "0")) else none).getD (.int 0) = .int b ∧ (("0" : Str) ∈ ks → val "0" = b) := by
        by_cases m : ("0" : Str) ∈ ks
        · exact ⟨val "0", by rw [if_pos m]; rfl, fun _ => rfl⟩
        · exact ⟨0, by rw [if_neg m]; rfl, fun z => absurd z m⟩
      rw [eb]
      refine ⟨.ref r, rfl, r, rows, rfl, hr1.sameT s2, g, fun H3 l ns s3 nl hl nnd nlen nmem => ?_⟩
      have hd3 := s3 _ _ hd
      refine ⟨l, rfl, ⟨_, SqL.of hl⟩, fun D nD => ?_⟩
      have sat' : Sat rows (worth fun x => val x - b) := fun row hrow => by
        have key : ∀ x, Named rows x → worth (fun x => val x - b) x = val x - b := fun x hx => by
          unfold worth
          by_cases z : x = ("0" : Str)
          · rw [if_pos z]
            subst z
            have := hb ((hks _).mpr hx)
            omega
          · rw [if_neg z]
        rw [key _ ⟨row, hrow, .inl rfl⟩, key _ ⟨row, hrow, .inr rfl⟩]
        have := hs row hrow
        omega
      refine ⟨fun i m H' => m = ns.length - i ∧ i ≤ ns.length ∧ Same H3 H' ∧ H' D = some (.dK (dS (ns.take i) fun x => .int (val x - b))), ⟨_, rfl, Nat.zero_le _, same_upd nD, upd_same⟩, ?_⟩
      rintro i m H4 ⟨rfl, hi, s4, hD⟩
      have hl4 := s4 _ _ hl
      by_cases hlt : i < ns.length
      · have hx : (ns.map V.str)[i]? = some (.str ns[i]) := by
          rw [List.getElem?_map, List.getElem?_eq_getElem hlt]
          rfl
        refine .inr ⟨⟨_, _, SqL.of hl4, hx⟩, fun H' => i + 1 ≤ ns.length ∧ Same H3 H' ∧ H' D = some (.dK (dS (ns.take (i + 1)) fun x => .int (val x - b))), fun H' hN => ⟨ns.length - (i + 1), by omega, rfl, hN⟩, fun x H' hy => ?_⟩
        obtain ⟨rfl, hy⟩ := hy
        have ex : x = .str ns[i] := Option.some.inj ((hy _ (SqL.of hl4)).symm.trans hx)
        subst ex
        have hmem : ns[i] ∈ ks := (hks _).mpr ((nmem _).mp (List.getElem_mem hlt)).2
        refine ⟨rfl, ?_⟩
        unfold tYes
        refine iteT ?_
        refine ⟨_, rfl, .ref d, rfl, .str ns[i], rfl, d, _, rfl, dget (s4 _ _ hd3) hmem, .int b, rfl, _, _, rfl, rfl, _, Sum.inr ns[i], rfl, hD, ?_, hlt, s4.later nD, ?_⟩
        · rw [dS_len, List.length_take]
          exact small1000 (by omega)
        · rw [upd_same, dS_put]
          have hout : ns[i] ∉ ns.take i := fun m => by
            have h1 := nnd
            rw [← List.take_append_drop i ns] at h1
            exact (List.nodup_append.mp h1).2.2 _ m _ (by rw [List.drop_eq_getElem_cons hlt]; exact List.mem_cons_self) rfl
          have e1 : addN (ns.take i) ns[i] = ns.take (i + 1) := by
            unfold addN
            rw [if_neg hout, List.take_add_one, List.getElem?_eq_getElem hlt]
            rfl
          have e2 : put (fun x => V.int (val x - b)) ns[i] (.int (val ns[i] - b)) = fun x => V.int (val x - b) := by
            funext y
            unfold put
            split
            · rename_i e
              rw [e]
            · rfl
          rw [e1, e2]
      · have ei : i = ns.length := by omega
        subst ei
        rw [List.take_length] at hD
        exact .inl ⟨⟨_, SqL.of hl4, by rw [List.length_map]; exact Nat.le_refl _⟩, q _ _ (((s1.trans s2).trans s3).trans s4) (.inr ⟨D, ns, fun x => val x - b, rfl, hD, nnd, nlen, nmem, sat'⟩)⟩
end
end Lo
namespace Lo
open PySem L2
abbrev sDraw : Stmt := top 22
abbrev sPool : Stmt := top 23
theorem fmod_in {i j : Int} (h : 0 < j) : 0 ≤ i.fmod j ∧ i.fmod j < j := by
  rw [Int.fmod_eq_emod_of_nonneg _ (Int.le_of_lt h)]
  exact ⟨Int.emod_nonneg _ (by omega), Int.emod_lt_of_pos _ h⟩
theorem other_ne {o d n : Int} (h0 : 0 ≤ o) (h1 : o < n) (h2 : 0 ≤ d) (h3 : d < n - 1) : 0 ≤ (o + 1 + d).fmod n ∧ (o + 1 + d).fmod n < n ∧ (o + 1 + d).fmod n ≠ o := by
  have hn : 0 < n := by omega
  obtain ⟨a, b⟩ := fmod_in (i := o + 1 + d) hn
  refine ⟨a, b, ?_⟩
  rw [Int.fmod_eq_emod_of_nonneg _ (Int.le_of_lt hn)]
  by_cases k : o + 1 + d < n
  · rw [Int.emod_eq_of_lt (by omega) k]
    omega
  · have e : o + 1 + d = (o + 1 + d - n) + n := by omega
    rw [e, Int.add_emod_right, Int.emod_eq_of_lt (by omega) (by omega)]
    omega
theorem dpInts {K : PySem.W.Frag} {H : Hp} : ∀ ns : List Int, DpAll K H (ns.map V.int) (ns.map PyData.int)
  | [] => .nil
  | n :: ns => .cons (.int n) (dpInts ns)
theorem eqv_nil (ns : List Int) : PyData.eqv (.list (ns.map PyData.int)) (.list []) = decide (ns = []) := by
  cases ns with
  | nil => rfl
  | cons n ns => exact (decide_eq_false (fun z => nomatch z)).symm
/-- int(e), e an int -/
theorem call_intI {X : Cx} : CallR X (.type "int") (fun xs H Q => ∃ i, xs = [.int i] ∧ Q (.int i) H) := fun pins s σ H xs us Q I r ⟨i, e, q⟩ => call_int1 pins s σ H xs us Q I r (.inl ⟨i, e, q⟩)
section
variable {P : Program} {w : World} {K : PySem.W.Frag} {mg : Str → Option Value} {base : Heap}
/-- the script at s -/
def Scr (K : PySem.W.Frag) (H : Hp) (s : Addr) : Prop := ∃ ns : List Int, SqL K H s (ns.map V.int) ∧ ns.length ≤ 63
theorem Scr.same {H H' : Hp} {s : Addr} (e : Same H H') (h : Scr K H s) : Scr K H' s := by
  obtain ⟨ns, h1, h2⟩ := h
  exact ⟨ns, e.seq h1, h2⟩
/-! ### _law_draw -/
def spDraw (K : PySem.W.Frag) : Sp := fun vs H Q _ => ∃ (s : Addr) (at_ many : Int), vs = [.ref s, .int at_, .int many] ∧ Scr K H s ∧ 1 ≤ many ∧ ∀ H' k, Same H H' → 0 ≤ k → k < many → Q (.int k) H'
abbrev nDraw : List Str := ["_law_script", "_law_at", "_law_many", "_law_row", "_law_cell", "_law_turn", "_law_step", "_law_mixed"]
theorem scDraw : FnScope nDraw ["_law_script", "_law_at", "_law_many"] (defScope sDraw) := ⟨rfl, rfl, rfl, by decide +kernel, rfl, by decide +kernel, by decide +kernel⟩
theorem ok_draw {f : Addr} {fd : FuncData} (F : Fun K "_law_draw" "_law_draw" sDraw f fd) (T : Blt mg) : FnOk P w K mg base CX0 1 f fd ["_law_script", "_law_at", "_law_many"] (spDraw K) := by
  refine F.ok scDraw (fun vs H Q E h => ?_) (fun cdv A outer s H vs Q E hr h => ?_)
  · obtain ⟨s, a, m, rfl, _⟩ := h
    rfl
  · obtain ⟨s, a, m, rfl, ⟨ns, hS, hlen⟩, hm, q⟩ := h
    have nd := scDraw.nd
    refine ⟨_, pss_cons (ps_set (i := 3) nd rfl (.inl rfl) (pe_ifExp (pt_cmpR (op_neD hr.units) (pv 0) (pe_lst pa_nil) (nomark _)) (pe_slice sl_list (pv 0) po_none (po_some pe_int)) (pe_lst (pa_cons pe_int pa_nil))))
      (pss_cons (ps_par (i := 4) (j := 5) rfl nd rfl rfl (by decide) rfl rfl (pa_cons (pe_ix ix_list (pv 3) (pe_op op_modN (pv 1) (pe_callB call_len_seq (by rfl) T.len PySem.boot_len (pa_cons (pv 3) pa_nil))) (fun _ _ => rfl))
          (pa_cons (pe_op op_fdivN (pv 1) (pe_callB call_len_seq (by rfl) T.len PySem.boot_len (pa_cons (pv 3) pa_nil))) pa_nil)) (by rfl))
      (pss_cons (ps_if (pt_cmpR op_ge (pv 4) (pe_op op_pow pe_int pe_int) (nomark _))
        (pss_cons (ps_set (i := 4) nd rfl (.inl rfl) (pe_op op_modN (pe_callTy call_intI (by rfl) T.int PyProof.Rows.boot_int (pa_cons (pv 4) pa_nil)) (pe_op op_pow pe_int pe_int)))
        (pss_cons (ps_for PassesOwn.never rfl (pi_range1 (by rfl) T.range (pa_cons (pe_op op_modN (pv 5) pe_int) pa_nil)) (pg_name (i := 6) nd rfl (.inl rfl)) (pss_one (ps_set (i := 4) nd rfl (.inl rfl) (pe_op op_fdivN (pv 4) pe_int))))
        (pss_one (ps_ret (pe_op op_modN (pe_op op_modN (pe_callTy call_intI (by rfl) T.int PyProof.Rows.boot_int (pa_cons (pv 4) pa_nil)) pe_int) (pv 2)))))) pss_nil)
      (pss_cons (ps_set (i := 7) nd rfl (.inl rfl) (pe_op op_add (pe_op op_mul (pe_op op_add (pe_op op_add (pe_op op_modN (pe_callTy call_intI (by rfl) T.int PyProof.Rows.boot_int (pa_cons (pe_op op_add (pv 4) (pe_op op_mul pe_int (pv 5))) pa_nil)) pe_int) (pe_op op_mul pe_int (pv 1))) pe_int) pe_int)
          (pe_op op_modN (pe_callTy call_intI (by rfl) T.int PyProof.Rows.boot_int (pa_cons (pe_op op_fdivN (pv 4) pe_int) pa_nil)) pe_int)))
      (pss_one (ps_ret (pe_op op_modN (pe_callTy call_intI (by rfl) T.int PyProof.Rows.boot_int (pa_cons (pe_op op_modN (pe_op op_mul (pe_op op_modN (pv 7) pe_int) pe_int) pe_int) pa_nil)) (pv 2))))))), ?_⟩
    -- the row: a list of ints, not empty
    have rowR : ∀ Q : V → Hp → Prop, (∀ (H2 : Hp) (rw_ : Addr) (rs : List Int), Same H H2 → H2 rw_ = some (.lst (rs.map V.int)) → rs ≠ [] → rs.length ≤ 63 → Q (.ref rw_) H2) →
        (tIf (tTest (tOp (rNeD K) (tVar 0) (tLst tNil))) (tSl (rSlL K) (tVar 0) tNoPart (tPart (tC (.int 60)))) (tLst (tCons (tC (.int 7)) tNil))) (L2.start nDraw [.ref s, .int a, .int m]) H Q := by
      intro Q hQ
      refine ⟨.ref s, rfl, Nat.zero_le _, fun e0 ne0 => ?_⟩
      have s1 : Same H (upd H e0 (.lst [])) := same_upd ne0
      refine ⟨_, _, .lst (s1.seq hS) (dpInts ns), .lst (SqL.of upd_same) .nil, PySem.W.ke_shaped_ints ns, PySem.W.ke_shaped_ints [], _, rfl, ?_⟩
      rw [eqv_nil]
      by_cases hn : ns = []
      · rw [decide_eq_true hn]
        refine iteF ⟨by show 1 ≤ sizeLine; decide, fun p np => ?_⟩
        exact hQ _ p [7] (s1.trans (same_upd np)) upd_same (List.cons_ne_nil _ _) (by decide)
      · rw [decide_eq_false hn]
        refine iteT ⟨.ref s, rfl, 60, rfl, s, _, rfl, s1.seq hS, fun p np => ?_⟩
        have ec : cutV (ns.map V.int) none (some 60) = (ns.take 60).map V.int := by
          unfold cutV
          rw [HT.sIx_none, show HT.sIx (ns.map V.int).length (ns.map V.int).length (some 60) = min 60 (ns.map V.int).length from HT.sIx_nat _ _ 60, List.drop_zero, Nat.sub_zero, List.map_take]
          rw [List.length_map]
          by_cases k : 60 ≤ ns.length
          · rw [Nat.min_eq_left k]
          · rw [Nat.min_eq_right (by omega), List.take_of_length_le (by rw [List.length_map]; exact Nat.le_refl _), List.take_of_length_le (by rw [List.length_map]; omega)]
        rw [ec]
        refine hQ _ p (ns.take 60) (s1.trans (same_upd np)) upd_same (fun z => hn ?_) (by rw [List.length_take]; omega)
        cases ns with
        | nil => rfl
        | cons x r => exact nomatch z
    refine rowR _ fun H2 rw_ rs s2 hrw hne hl => ?_
    have hpos : (0 : Int) < (rs.length : Nat) := by
      have := List.length_pos_iff.mpr hne
      omega
    obtain ⟨j, ej, hj⟩ : ∃ j : Nat, a.fmod (rs.length : Nat) = (j : Nat) ∧ j < rs.length := by
      obtain ⟨h0, h1⟩ := fmod_in (i := a) hpos
      exact ⟨(a.fmod (rs.length : Nat)).toNat, by omega, by omega⟩
    have elen : (((rs.map V.int).length : Nat) : Int) = (rs.length : Nat) := by rw [List.length_map]
    have hcell : (rs.map V.int)[j]? = some (.int rs[j]) := by
      rw [List.getElem?_map, List.getElem?_eq_getElem hj]
      rfl
    refine ⟨.ref rw_, rfl, .int a, rfl, .ref rw_, rfl, rw_, _, rfl, .inl (SqL.of hrw), _, _, rfl, rfl, ?_, rw_, _, (j : Nat), .int rs[j], rfl, ?_, SqL.of hrw, atI_nat hcell, ?_⟩
    · rw [elen]
      omega
    · rw [elen]
      show V.int (a.fmod (rs.length : Nat)) = _
      rw [ej]
    refine ⟨.int a, rfl, .ref rw_, rfl, rw_, _, rfl, .inl (SqL.of hrw), _, _, rfl, rfl, ?_, _, _, rfl, ?_⟩
    · rw [elen]
      exact ⟨by omega, by show (rs.length : Int).natAbs < 1073741824; omega⟩
    have fin : ∀ (H' : Hp) (i : Int), Same H H' → Q (.int (i.fmod m)) H' := fun H' i s' => by
      obtain ⟨h0, h1⟩ := fmod_in (i := i) (show 0 < m by omega)
      exact q H' _ s' h0 h1
    have nz : ∀ {i j : Int}, j ≠ 0 → (fun (_ j : Int) => j ≠ 0) i j := fun h => h
    have p40 : (97 : Int) ^ Int.toNat 40 ≠ 0 := by decide
    refine ⟨_, rfl, _, _, rfl, rfl, ⟨by decide, by decide, by decide⟩, _, _, rfl, rfl, _, rfl, ite2 (fun _ => ?_) (fun _ => ?_)⟩
    · refine ⟨_, rfl, _, rfl, _, _, rfl, rfl, ⟨by decide, by decide, by decide⟩, _, _, rfl, rfl, p40, ?_⟩
      refine ⟨_, rfl, _, _, rfl, rfl, (by decide : (40 : Int) ≠ 0), _, rfl, ?_, ?_, ?_⟩
      · obtain ⟨h0, h1⟩ := fmod_in (i := a.fdiv (((rs.map V.int).length : Nat) : Int)) (show (0 : Int) < 40 by decide)
        omega
      · obtain ⟨h0, h1⟩ := fmod_in (i := a.fdiv (((rs.map V.int).length : Nat) : Int)) (show (0 : Int) < 40 by decide)
        omega
      refine for_range (lo := 0) (fun i σ H' => ∃ (c : Int) (y : Option V), σ = [some (.ref s), some (.int a), some (.int m), some (.ref rw_), some (.int c), some (.int (a.fdiv (((rs.map V.int).length : Nat) : Int))), y, none] ∧ H' = H2) ⟨_, _, rfl, rfl⟩ ?_ ?_
      · rintro i σ H' hi ⟨c, y, rfl, rfl⟩
        exact ⟨_, rfl, _, _, rfl, rfl, ⟨by decide, by decide⟩, _, _, rfl, rfl⟩
      · rintro σ H' ⟨c, y, rfl, rfl⟩
        exact ⟨_, rfl, _, rfl, _, _, rfl, rfl, (by decide : (97 : Int) ≠ 0), _, rfl, _, _, rfl, rfl, (by omega : m ≠ 0), fin _ _ s2⟩
    · refine ⟨_, rfl, _, rfl, _, _, rfl, rfl, .inl ⟨by decide, by decide⟩, _, _, rfl, rfl, _, rfl, _, _, rfl, rfl, (by decide : (1000003 : Int) ≠ 0), ?_⟩
      refine ⟨_, rfl, _, _, rfl, rfl, .inl ⟨by decide, by decide⟩, _, _, rfl, rfl, _, _, rfl, rfl, _, _, rfl, rfl, .inr ⟨by decide, by decide⟩, ?_⟩
      refine ⟨_, rfl, _, _, rfl, rfl, ⟨by decide, by decide⟩, _, rfl, _, _, rfl, rfl, (by decide : (999983 : Int) ≠ 0), _, _, rfl, rfl, ?_⟩
      refine ⟨_, rfl, _, _, rfl, rfl, (by decide : (2147483647 : Int) ≠ 0), _, _, rfl, rfl, .inr ⟨by decide, by decide⟩, _, _, rfl, rfl, (by decide : (4294967291 : Int) ≠ 0), _, rfl, _, rfl, _, _, rfl, rfl, (by omega : m ≠ 0), fin _ _ s2⟩
end
end Lo
namespace Lo
open PySem L2
abbrev sSystem : Stmt := top 24
abbrev sWorth : Stmt := top 25
abbrev sSolves : Stmt := top 26
def pools : List (List Str) := [["a", "b", "c", "d"], ["z", "Z9", "00", " "], ["n", "n1", "m", "long name"], ["x", "xx", "xxx", "y"]]
theorem pools_len : ∀ xs ∈ pools, xs.length = 4 := by decide +kernel
theorem pools_nd : ∀ xs ∈ pools, xs.Nodup := by decide +kernel
theorem pools_ok : ∀ xs ∈ pools, ∀ x ∈ xs, x ≠ ("" : Str) ∧ x ≠ ("0" : Str) ∧ x ≠ ("new" : Str) ∧ x ≠ ("old" : Str) ∧ PyData.strOk x = true := by decide +kernel
section
variable {P : Program} {w : World} {K : PySem.W.Frag} {mg : Str → Option Value} {base : Heap}
/-! ### _law_pool -/
def spPool (K : PySem.W.Frag) : Sp := fun vs H Q _ => ∃ (s : Addr) (at_ : Int), vs = [.ref s, .int at_] ∧ Scr K H s ∧ ∀ H' p xs, Same H H' → H' p = some (.tup (xs.map V.str)) → xs ∈ pools → Q (.ref p) H'
theorem scPool : FnScope ["_law_script", "_law_at"] ["_law_script", "_law_at"] (defScope sPool) := ⟨rfl, rfl, rfl, by decide +kernel, rfl, by decide +kernel, by decide +kernel⟩
theorem ok_pool {f fD : Addr} {fd fdD : FuncData} (F : Fun K "_law_pool" "_law_pool" sPool f fd) (GD : FnOk P w K mg base CX0 1 fD fdD ["_law_script", "_law_at", "_law_many"] (spDraw K)) (kD : PySem.W.keepIn K (.ref fD) = true) (bD : Binds K fdD ["_law_script", "_law_at", "_law_many"] []) (gD : mg "_law_draw" = some (.ref fD)) :
    FnOk P w K mg base CX0 2 f fd ["_law_script", "_law_at"] (spPool K) := by
  refine F.ok scPool (fun vs H Q E h => ?_) (fun cdv A outer s H vs Q E hr h => ?_)
  · obtain ⟨s, a, rfl, _⟩ := h
    rfl
  · obtain ⟨s, a, rfl, hS, q⟩ := h
    refine ⟨_, pss_one (ps_ret (pe_ix ix_tup (pe_tup (pa_cons (pe_tup (pa_cons pe_str (pa_cons pe_str (pa_cons pe_str (pa_cons pe_str pa_nil))))) (pa_cons (pe_tup (pa_cons pe_str (pa_cons pe_str (pa_cons pe_str (pa_cons pe_str pa_nil)))))
      (pa_cons (pe_tup (pa_cons pe_str (pa_cons pe_str (pa_cons pe_str (pa_cons pe_str pa_nil))))) (pa_cons (pe_tup (pa_cons pe_str (pa_cons pe_str (pa_cons pe_str (pa_cons pe_str pa_nil))))) pa_nil)))))
      (pe_call GD hr (by rfl) gD kD bD .nil pass0 (pa_cons (pv 0) (pa_cons (pv 1) (pa_cons pe_int pa_nil)))) (fun _ _ => rfl))), ?_⟩
    refine ⟨by show 4 ≤ sizeLine; decide, fun t0 n0 => ⟨by show 4 ≤ sizeLine; decide, fun t1 n1 => ⟨by show 4 ≤ sizeLine; decide, fun t2 n2 => ⟨by show 4 ≤ sizeLine; decide, fun t3 n3 => ⟨by show 4 ≤ sizeLine; decide, fun tt nt => ?_⟩⟩⟩⟩⟩
    have s0 := same_upd (o := HO.tup ((["a", "b", "c", "d"] : List Str).map V.str)) n0
    have s1 := same_upd (o := HO.tup ((["z", "Z9", "00", " "] : List Str).map V.str)) n1
    have s2 := same_upd (o := HO.tup ((["n", "n1", "m", "long name"] : List Str).map V.str)) n2
    have s3 := same_upd (o := HO.tup ((["x", "xx", "xxx", "y"] : List Str).map V.str)) n3
    have s4 := same_upd (o := HO.tup [V.ref t0, V.ref t1, V.ref t2, V.ref t3]) nt
    have e0 := s4 _ _ (s3 _ _ (s2 _ _ (s1 _ _ (upd_same (H := H) (a := t0) (o := HO.tup ((["a", "b", "c", "d"] : List Str).map V.str))))))
    have e1 := s4 _ _ (s3 _ _ (s2 _ _ (upd_same (a := t1) (o := HO.tup ((["z", "Z9", "00", " "] : List Str).map V.str)))))
    have e2 := s4 _ _ (s3 _ _ (upd_same (a := t2) (o := HO.tup ((["n", "n1", "m", "long name"] : List Str).map V.str))))
    have e3 := s4 _ _ (upd_same (a := t3) (o := HO.tup ((["x", "xx", "xxx", "y"] : List Str).map V.str)))
    have sAll := (((s0.trans s1).trans s2).trans s3).trans s4
    refine ⟨.ref s, rfl, .int a, rfl, s, a, 4, rfl, hS.same sAll, by decide, fun H' k s' h0 h1 => ?_⟩
    have et := s' _ _ (upd_same (a := tt) (o := HO.tup [V.ref t0, V.ref t1, V.ref t2, V.ref t3]))
    have hk : k = ((0 : Nat) : Int) ∨ k = ((1 : Nat) : Int) ∨ k = ((2 : Nat) : Int) ∨ k = ((3 : Nat) : Int) := by omega
    rcases hk with rfl | rfl | rfl | rfl
    · exact ⟨tt, _, _, _, rfl, rfl, SqT.of et, atI_nat rfl, q H' t0 _ (sAll.trans s') (s' _ _ e0) (by decide +kernel)⟩
    · exact ⟨tt, _, _, _, rfl, rfl, SqT.of et, atI_nat rfl, q H' t1 _ (sAll.trans s') (s' _ _ e1) (by decide +kernel)⟩
    · exact ⟨tt, _, _, _, rfl, rfl, SqT.of et, atI_nat rfl, q H' t2 _ (sAll.trans s') (s' _ _ e2) (by decide +kernel)⟩
    · exact ⟨tt, _, _, _, rfl, rfl, SqT.of et, atI_nat rfl, q H' t3 _ (sAll.trans s') (s' _ _ e3) (by decide +kernel)⟩
/-! ### _law_system -/
/-- names that a law draws -/
structure Names (ns : List Str) : Prop where
  two : 2 ≤ ns.length
  few : ns.length ≤ 4
  nd : ns.Nodup
  ok : ∀ x ∈ ns, x ≠ ("" : Str) ∧ x ≠ ("0" : Str) ∧ x ≠ ("new" : Str) ∧ x ≠ ("old" : Str) ∧ PyData.strOk x = true
theorem Names.ends (N : Names ns) : (("0" : Str) :: ns).Nodup ∧ ∀ x ∈ (("0" : Str) :: ns), x ≠ ("" : Str) ∧ x ≠ ("new" : Str) ∧ x ≠ ("old" : Str) ∧ PyData.strOk x = true := by
  refine ⟨List.nodup_cons.mpr ⟨fun h => (N.ok _ h).2.1 rfl, N.nd⟩, fun x hx => ?_⟩
  rcases List.mem_cons.mp hx with h | h
  · subst h
    decide +kernel
  · obtain ⟨a, b, c, d, e⟩ := N.ok x h
    exact ⟨a, c, d, e⟩
def spSystem (K : PySem.W.Frag) : Sp := fun vs H Q _ => ∃ (s np : Addr) (at_ most : Int) (ns : List Str), vs = [.ref s, .int at_, .ref np, .int most] ∧ Scr K H s ∧ H np = some (.tup (ns.map V.str)) ∧ Names ns ∧ 0 ≤ most ∧ most ≤ 10 ∧
  ∀ H' p rows, Same H H' → H p = none → Sys RowT H' p rows → Good rows → rows.length ≤ 10 → (∀ r ∈ rows, OkR r) → Q (.ref p) H'
abbrev nSystem : List Str := ["_law_script", "_law_at", "_law_names", "_law_most", "_law_found", "_law_ends", "_law_scale", "_law_turn", "_law_spot", "_law_one", "_law_other", "_law_limit"]
theorem scSystem : FnScope nSystem ["_law_script", "_law_at", "_law_names", "_law_most"] (defScope sSystem) := ⟨rfl, rfl, rfl, by decide +kernel, rfl, by decide +kernel, by decide +kernel⟩
theorem ok_system {f fD : Addr} {fd fdD : FuncData} (F : Fun K "_law_system" "_law_system" sSystem f fd) (T : Blt mg) (GD : FnOk P w K mg base CX0 1 fD fdD ["_law_script", "_law_at", "_law_many"] (spDraw K)) (kD : PySem.W.keepIn K (.ref fD) = true) (bD : Binds K fdD ["_law_script", "_law_at", "_law_many"] []) (gD : mg "_law_draw" = some (.ref fD)) :
    FnOk P w K mg base CX0 2 f fd ["_law_script", "_law_at", "_law_names", "_law_most"] (spSystem K) := by
  refine F.ok scSystem (fun vs H Q E h => ?_) (fun cdv A outer s H vs Q E hr h => ?_)
  · obtain ⟨s, np, a, m, ns, rfl, _⟩ := h
    rfl
  · obtain ⟨s, np, a, most, ns, rfl, hS, hN, N, hm0, hm1, q⟩ := h
    have nd := scSystem.nd
    refine ⟨_, pss_cons (ps_par (i := 4) (j := 5) rfl nd rfl rfl (by decide) rfl rfl (pa_cons (pe_lst pa_nil) (pa_cons (pe_op op_catT (pe_tup (pa_cons pe_str pa_nil)) (pe_callTy call_tuple_of (by rfl) T.tuple PyProof.Rows.boot_tuple (pa_cons (pv 2) pa_nil))) pa_nil)) (by rfl))
      (pss_cons (ps_set (i := 6) nd rfl (.inl rfl) (pe_ix ix_tup (pe_tup (pa_cons pe_int (pa_cons pe_int (pa_cons pe_int (pa_cons pe_int (pa_cons (pe_op op_pow pe_int pe_int) pa_nil))))))
        (pe_call GD hr (by rfl) gD kD bD .nil pass0 (pa_cons (pv 0) (pa_cons (pv 1) (pa_cons pe_int pa_nil)))) (fun _ _ => rfl)))
      (pss_cons (ps_for PassesOwn.never rfl (pi_range1 (by rfl) T.range (pa_cons (pe_call GD hr (by rfl) gD kD bD .nil pass0 (pa_cons (pv 0) (pa_cons (pe_op op_add (pv 1) pe_int) (pa_cons (pe_op op_add (pv 3) pe_int) pa_nil)))) pa_nil)) (pg_name (i := 7) nd rfl (.inl rfl))
        (pss_cons (ps_set (i := 8) nd rfl (.inl rfl) (pe_op op_add (pe_op op_add (pv 1) pe_int) (pe_op op_mul pe_int (pv 7))))
        (pss_cons (ps_set (i := 9) nd rfl (.inl rfl) (pe_call GD hr (by rfl) gD kD bD .nil pass0 (pa_cons (pv 0) (pa_cons (pv 8) (pa_cons (pe_callB call_len_seq (by rfl) T.len PySem.boot_len (pa_cons (pv 5) pa_nil)) pa_nil)))))
        (pss_cons (ps_set (i := 10) nd rfl (.inl rfl) (pe_op op_modN (pe_callTy call_intI (by rfl) T.int PyProof.Rows.boot_int (pa_cons (pe_op op_add (pe_op op_add (pv 9) pe_int)
            (pe_call GD hr (by rfl) gD kD bD .nil pass0 (pa_cons (pv 0) (pa_cons (pe_op op_add (pv 8) pe_int) (pa_cons (pe_op op_sub (pe_callB call_len_seq (by rfl) T.len PySem.boot_len (pa_cons (pv 5) pa_nil)) pe_int) pa_nil))))) pa_nil))
            (pe_callB call_len_seq (by rfl) T.len PySem.boot_len (pa_cons (pv 5) pa_nil))))
        (pss_cons (ps_set (i := 11) nd rfl (.inl rfl) (pe_op op_sub (pe_call GD hr (by rfl) gD kD bD .nil pass0 (pa_cons (pv 0) (pa_cons (pe_op op_add (pv 8) pe_int) (pa_cons pe_int pa_nil)))) pe_int))
        (pss_cons (ps_if (PW.pt (pw_and (pt_cmpR op_gt (pv 6) pe_int (nomark _)) (pw_and1 (pt_cmpR op_eq (pe_call GD hr (by rfl) gD kD bD .nil pass0 (pa_cons (pv 0) (pa_cons (pe_op op_add (pv 8) pe_int) (pa_cons pe_int pa_nil)))) pe_int (nomark _)))))
          (pss_one (ps_set (i := 11) nd rfl (.inl rfl) (pe_op op_add (pe_op op_mul (pe_op op_sub (pv 11) pe_int) (pv 6)) (pv 11)))) pss_nil)
        (pss_one (ps_expr (pe_bm PySem.F.plainAttrs_list PySem.F.slot_list_append PySem.F.type_list_append mt_append (pv 4)
          (pa_cons (pe_tup (pa_cons (pe_ix ix_tup (pv 5) (pv 9) (fun _ _ => rfl)) (pa_cons (pe_ix ix_tup (pv 5) (pv 10) (fun _ _ => rfl)) (pa_cons (pv 11) pa_nil)))) pa_nil))))))))))
      (pss_one (ps_ret (pv 4))))), ?_⟩
    refine ⟨Nat.zero_le _, fun o no => ⟨by show 1 ≤ sizeLine; decide, fun z nz => ?_⟩⟩
    have sA := same_upd (o := HO.lst []) no
    have sB := same_upd (o := HO.tup [V.str "0"]) nz
    have s2 := sA.trans sB
    have nsne : ns.map V.str ≠ [] := fun e => by
      have := N.two
      cases ns with
      | nil => exact absurd this (by decide)
      | cons x r => exact nomatch e
    refine ⟨.ref np, rfl, np, _, rfl, .inr ⟨SqT.of (s2 _ _ hN), z, np, _, _, rfl, rfl, SqT.of upd_same, SqT.of (s2 _ _ hN), List.cons_ne_nil _ _, ?_, fun e => absurd e nsne, fun _ en nen => ?_⟩⟩
    · rw [List.length_map]
      have := N.few
      exact Nat.le_of_lt (small1000 (by show 1 + ns.length ≤ 1000; omega))
    have sC := same_upd (o := HO.tup ([V.str "0"] ++ ns.map V.str)) nen
    have s3 := s2.trans sC
    obtain ⟨end_nd, end_ok⟩ := N.ends
    have eE : [V.str "0"] ++ ns.map V.str = (("0" : Str) :: ns).map V.str := rfl
    have ho3 := sC _ _ (sB _ _ (upd_same (H := H) (a := o) (o := HO.lst [])))
    have he3 := upd_same (H := upd (upd H o (.lst [])) z (.tup [V.str "0"])) (a := en) (o := HO.tup ([V.str "0"] ++ ns.map V.str))
    generalize upd (upd (upd H o (.lst [])) z (.tup [V.str "0"])) en (.tup ([V.str "0"] ++ ns.map V.str)) = H3 at s3 ho3 he3 ⊢
    rw [eE] at he3
    -- the scale
    refine ⟨_, _, rfl, _, _, rfl, rfl, ⟨by decide, by decide, by decide⟩, by show 5 ≤ sizeLine; decide, fun sc nsc => ?_⟩
    have sD := same_upd (o := HO.tup [V.int 1, V.int 1, V.int 1, V.int 1000, V.int (10 ^ Int.toNat 15)]) nsc
    refine ⟨.ref s, rfl, .int a, rfl, s, a, 5, rfl, hS.same (s3.trans sD), by decide, fun H4 k s4 h0 h1 => ?_⟩
    have et := s4 _ _ (upd_same (H := H3) (a := sc) (o := HO.tup [V.int 1, V.int 1, V.int 1, V.int 1000, V.int (10 ^ Int.toNat 15)]))
    obtain ⟨scale, hat, hs0, hs1⟩ : ∃ scale : Int, atI [V.int 1, V.int 1, V.int 1, V.int 1000, V.int (10 ^ Int.toNat 15)] k = some (.int scale) ∧ -(2 ^ 64) < scale ∧ scale < 2 ^ 64 := by
      have hk : k = ((0 : Nat) : Int) ∨ k = ((1 : Nat) : Int) ∨ k = ((2 : Nat) : Int) ∨ k = ((3 : Nat) : Int) ∨ k = ((4 : Nat) : Int) := by omega
      rcases hk with rfl | rfl | rfl | rfl | rfl
      · exact ⟨1, atI_nat rfl, by decide, by decide⟩
      · exact ⟨1, atI_nat rfl, by decide, by decide⟩
      · exact ⟨1, atI_nat rfl, by decide, by decide⟩
      · exact ⟨1000, atI_nat rfl, by decide, by decide⟩
      · exact ⟨10 ^ Int.toNat 15, atI_nat rfl, by decide, by decide⟩
    refine ⟨sc, _, _, _, rfl, rfl, SqT.of et, hat, ?_⟩
    have s14 := (s3.trans sD).trans s4
    have ho4 := s4 _ _ (sD _ _ ho3)
    have he4 := s4 _ _ (sD _ _ he3)
    refine ⟨.ref s, rfl, .int a, rfl, _, _, rfl, rfl, .int most, rfl, _, _, rfl, rfl, s, _, _, rfl, hS.same s14, by omega, fun H5 turns s5 t0 t1 => ?_⟩
    refine ⟨_, rfl, by omega, by omega, for_range (lo := 0) (fun i σ H' => ∃ (y7 y8 y9 y10 y11 : Option V) (rows : List SRow) (qs : List Addr), σ = [some (.ref s), some (.int a), some (.ref np), some (.int most), some (.ref o), some (.ref en), some (.int scale), y7, y8, y9, y10, y11] ∧ Same H H' ∧
        H' en = some (.tup ((("0" : Str) :: ns).map V.str)) ∧ H' o = some (.lst (qs.map V.ref)) ∧ qs.length = i ∧ rows.length = i ∧ (∀ (j : Nat) (p : Addr) (r : SRow), qs[j]? = some p → rows[j]? = some r → RowT H' p r) ∧ ∀ r ∈ rows, Good1 r ∧ OkR r)
      ⟨none, none, none, none, none, [], [], rfl, s14.trans s5, s5 _ _ he4, s5 _ _ ho4, rfl, rfl, fun j p r e => (nomatch e), fun r h => absurd h List.not_mem_nil⟩ ?_ ?_⟩
    · rintro i σ H6 hi ⟨y7, y8, y9, y10, y11, rows, qs, rfl, s6, he6, ho6, hq, hrl, hrow, hgood⟩
      have elen : (((("0" : Str) :: ns).map V.str).length : Int) = (ns.length : Int) + 1 := by
        rw [List.length_map]
        rfl
      have l2 := N.two
      have l4 := N.few
      -- spot, one
      refine ⟨.int a, rfl, _, _, rfl, rfl, _, rfl, _, _, rfl, rfl, .inl ⟨by decide, by decide⟩, _, _, rfl, rfl, ?_⟩
      refine ⟨.ref s, rfl, _, rfl, .ref en, rfl, en, _, rfl, .inr (SqT.of he6), s, _, _, rfl, hS.same s6, by rw [elen]; omega, fun H7 one s7 o0 o1 => ?_⟩
      rw [elen] at o1
      have he7 := s7 _ _ he6
      -- other
      refine ⟨.int one, rfl, _, _, rfl, rfl, .ref s, rfl, _, rfl, _, _, rfl, rfl, .ref en, rfl, en, _, rfl, .inr (SqT.of he7), _, _, rfl, rfl, s, _, _, rfl, hS.same (s6.trans s7), by rw [elen]; omega, fun H8 d s8 d0 d1 => ?_⟩
      rw [elen] at d1
      have he8 := s8 _ _ he7
      refine ⟨_, _, rfl, rfl, _, rfl, .ref en, rfl, en, _, rfl, .inr (SqT.of he8), _, _, rfl, rfl, (by rw [elen]; omega), ?_⟩
      rw [elen]
      obtain ⟨z0, z1, z2⟩ := other_ne (o := one) (d := d) (n := (ns.length : Int) + 1) o0 o1 d0 (by omega)
      -- limit
      refine ⟨.ref s, rfl, _, rfl, _, _, rfl, rfl, s, _, 9, rfl, hS.same ((s6.trans s7).trans s8), by decide, fun H9 lim s9 l0 l1 => ?_⟩
      refine ⟨_, _, rfl, rfl, ?_⟩
      have s69 := ((s6.trans s7).trans s8).trans s9
      -- the two ends
      obtain ⟨j1, rfl, hj1⟩ : ∃ j : Nat, one = (j : Nat) ∧ j < (("0" : Str) :: ns).length := ⟨one.toNat, by omega, by rw [List.length_cons]; omega⟩
      obtain ⟨j2, ej2, hj2⟩ : ∃ j : Nat, ((j1 : Int) + 1 + d).fmod ((ns.length : Int) + 1) = (j : Nat) ∧ j < (("0" : Str) :: ns).length :=
        ⟨(((j1 : Int) + 1 + d).fmod ((ns.length : Int) + 1)).toNat, by omega, by rw [List.length_cons]; omega⟩
      rw [ej2] at z2
      dsimp only
      rw [ej2]
      have at1 : atI ((("0" : Str) :: ns).map V.str) (j1 : Nat) = some (.str (("0" : Str) :: ns)[j1]) := atI_nat (by rw [List.getElem?_map, List.getElem?_eq_getElem hj1]; rfl)
      have at2 : atI ((("0" : Str) :: ns).map V.str) (j2 : Nat) = some (.str (("0" : Str) :: ns)[j2]) := atI_nat (by rw [List.getElem?_map, List.getElem?_eq_getElem hj2]; rfl)
      have hne : (("0" : Str) :: ns)[j1] ≠ (("0" : Str) :: ns)[j2] := fun e => z2 (by rw [(List.getElem_inj end_nd).mp e])
      have g1 : ∀ c : Int, Good1 ((("0" : Str) :: ns)[j1], (("0" : Str) :: ns)[j2], c) ∧ OkR ((("0" : Str) :: ns)[j1], (("0" : Str) :: ns)[j2], c) := fun c => ⟨⟨hne, (end_ok _ (List.getElem_mem hj1)).1, (end_ok _ (List.getElem_mem hj2)).1⟩, (end_ok _ (List.getElem_mem hj1)).2.2.2, (end_ok _ (List.getElem_mem hj2)).2.2.2⟩
      have fin : ∀ (H' : Hp) (t : Addr) (c : Int) (y : Option V), Same H6 H' → H' t = none → ∃ (y7 y8 y9 y10 y11 : Option V) (rows : List SRow) (qs' : List Addr),
          [some (V.ref s), some (.int a), some (.ref np), some (.int most), some (.ref o), some (.ref en), some (.int scale), some (.int (0 + (i : Int))), some (.int (a + 2 + 4 * (0 + (i : Int)))), some (.int (j1 : Nat)), some (.int (j2 : Nat)), y] = [some (.ref s), some (.int a), some (.ref np), some (.int most), some (.ref o), some (.ref en), some (.int scale), y7, y8, y9, y10, y11] ∧
          Same H (upd (upd H' t (.tup [.str (("0" : Str) :: ns)[j1], .str (("0" : Str) :: ns)[j2], .int c])) o (.lst (qs.map V.ref ++ [.ref t]))) ∧
          upd (upd H' t (.tup [.str (("0" : Str) :: ns)[j1], .str (("0" : Str) :: ns)[j2], .int c])) o (.lst (qs.map V.ref ++ [.ref t])) en = some (.tup ((("0" : Str) :: ns).map V.str)) ∧
          upd (upd H' t (.tup [.str (("0" : Str) :: ns)[j1], .str (("0" : Str) :: ns)[j2], .int c])) o (.lst (qs.map V.ref ++ [.ref t])) o = some (.lst (qs'.map V.ref)) ∧ qs'.length = i + 1 ∧ rows.length = i + 1 ∧
          (∀ (j : Nat) (p : Addr) (r : SRow), qs'[j]? = some p → rows[j]? = some r → RowT (upd (upd H' t (.tup [.str (("0" : Str) :: ns)[j1], .str (("0" : Str) :: ns)[j2], .int c])) o (.lst (qs.map V.ref ++ [.ref t]))) p r) ∧ ∀ r ∈ rows, Good1 r ∧ OkR r := by
        intro H' t c y s' nt
        have sT := same_upd (o := HO.tup [.str (("0" : Str) :: ns)[j1], .str (("0" : Str) :: ns)[j2], .int c]) nt
        have ho' := sT _ _ (s' _ _ ho6)
        have keep : ∀ (b : Addr) (xs : List V), upd H' t (.tup [.str (("0" : Str) :: ns)[j1], .str (("0" : Str) :: ns)[j2], .int c]) b = some (.tup xs) → upd (upd H' t (.tup [.str (("0" : Str) :: ns)[j1], .str (("0" : Str) :: ns)[j2], .int c])) o (.lst (qs.map V.ref ++ [.ref t])) b = some (.tup xs) := fun b xs e => by
          rw [upd_ne (ne_of e ho' (by intro z; cases z))]
          exact e
        refine ⟨_, _, _, _, _, rows ++ [((("0" : Str) :: ns)[j1], (("0" : Str) :: ns)[j2], c)], qs ++ [t], rfl, ((s6.trans s').trans sT).later no, keep _ _ (sT _ _ (s' _ _ he6)), by rw [upd_same, List.map_append]; rfl, by rw [List.length_append, hq]; rfl, by rw [List.length_append, hrl]; rfl, fun j p r hp hr' => ?_, fun r hr' => ?_⟩
        · by_cases k : j < i
          · rw [List.getElem?_append_left (by omega)] at hp hr'
            exact keep _ _ (sT _ _ (s' _ _ (hrow j p r hp hr')))
          · have hj2 : j = i := by
              have := (List.getElem?_eq_some_iff.mp hp).1
              rw [List.length_append, List.length_singleton] at this
              omega
            subst hj2
            rw [List.getElem?_append_right (by omega), hq, Nat.sub_self] at hp
            rw [List.getElem?_append_right (by omega), hrl, Nat.sub_self] at hr'
            have e1 : t = p := Option.some.inj hp
            have e2 := Option.some.inj hr'
            subst e1 e2
            exact keep _ _ upd_same
        · rcases List.mem_append.mp hr' with h | h
          · exact hgood r h
          · rw [List.mem_singleton] at h
            subst h
            exact g1 c
      have hsz : (qs.map V.ref).length < sizeLine := by
        rw [List.length_map, hq]
        exact small1000 (by omega)
      have ho9 := s9 _ _ (s8 _ _ (s7 _ _ ho6))
      have he9 := s9 _ _ he8
      have s39 := (s7.trans s8).trans s9
      refine ⟨_, rfl, _, _, rfl, rfl, _, rfl, ite2 (fun _ => ?_) (fun _ => ?_)⟩
      · refine ⟨.ref s, rfl, _, rfl, _, _, rfl, rfl, s, _, 2, rfl, hS.same s69, by decide, fun H10 k2 s10 _ _ => ?_⟩
        have ho10 := s10 _ _ ho9
        have he10 := s10 _ _ he9
        refine ⟨rfl, _, rfl, ite2 (fun _ => ?_) (fun _ => ?_)⟩
        · refine ⟨_, rfl, _, _, rfl, rfl, _, rfl, _, _, rfl, rfl, .inr ⟨hs0, hs1⟩, _, rfl, _, _, rfl, rfl, ?_⟩
          refine ⟨.ref o, rfl, .inl ⟨rfl, _, SqL.of ho10⟩, .ref en, rfl, _, rfl, en, _, _, _, rfl, rfl, SqT.of he10, at1, .ref en, rfl, _, rfl, en, _, _, _, rfl, rfl, SqT.of he10, at2, _, rfl, by show 3 ≤ sizeLine; decide, fun t nt => ?_⟩
          exact ⟨o, _, _, rfl, rfl, same_upd nt _ _ ho10, hsz, fin H10 t _ _ (s39.trans s10) nt⟩
        · refine ⟨.ref o, rfl, .inl ⟨rfl, _, SqL.of ho10⟩, .ref en, rfl, _, rfl, en, _, _, _, rfl, rfl, SqT.of he10, at1, .ref en, rfl, _, rfl, en, _, _, _, rfl, rfl, SqT.of he10, at2, _, rfl, by show 3 ≤ sizeLine; decide, fun t nt => ?_⟩
          exact ⟨o, _, _, rfl, rfl, same_upd nt _ _ ho10, hsz, fin H10 t _ _ (s39.trans s10) nt⟩
      · refine iteF ?_
        refine ⟨.ref o, rfl, .inl ⟨rfl, _, SqL.of ho9⟩, .ref en, rfl, _, rfl, en, _, _, _, rfl, rfl, SqT.of he9, at1, .ref en, rfl, _, rfl, en, _, _, _, rfl, rfl, SqT.of he9, at2, _, rfl, by show 3 ≤ sizeLine; decide, fun t nt => ?_⟩
        exact ⟨o, _, _, rfl, rfl, same_upd nt _ _ ho9, hsz, fin H9 t _ _ s39 nt⟩
    · rintro σ H6 ⟨y7, y8, y9, y10, y11, rows, qs, rfl, s6, he6, ho6, hq, hrl, hrow, hgood⟩
      refine ⟨.ref o, rfl, q H6 o rows s6 no ⟨qs, ho6, by omega, hrow⟩ ⟨fun r h => (hgood r h).1, by omega⟩ (by omega) fun r h => (hgood r h).2⟩
end
end Lo
namespace Lo
open PySem L2


section
variable {P : Program} {w : World} {K : PySem.W.Frag} {mg : Str → Option Value} {base : Heap}
/-! ### _law_worth, _law_solves -/
def spWorth : Sp := fun vs H Q _ => ∃ (x : Str) (d : Addr) (ks : List Str) (val : Str → Int), vs = [.str x, .ref d] ∧ PointAt H d ks val ∧ (x ≠ ("0" : Str) → x ∈ ks) ∧ Q (.int (worth val x)) H
theorem scWorth : FnScope ["_law_name", "_law_point"] ["_law_name", "_law_point"] (defScope sWorth) := ⟨rfl, rfl, rfl, by decide +kernel, rfl, by decide +kernel, by decide +kernel⟩
theorem ok_worth {f : Addr} {fd : FuncData} (F : Fun K "_law_worth" "_law_worth" sWorth f fd) : FnOk P w K mg base CX0 1 f fd ["_law_name", "_law_point"] spWorth := by
  refine F.ok scWorth (fun vs H Q E h => ?_) (fun cdv A outer s H vs Q E hr h => ?_)
  · obtain ⟨x, d, ks, val, rfl, _⟩ := h
    rfl
  · obtain ⟨x, d, ks, val, rfl, hP, hx, q⟩ := h
    have hu := hu_of hr
    refine ⟨_, pss_one (ps_ret (pe_ifExp (pt_cmpR op_eq (pv 0) pe_str (nomark _)) pe_int (pe_dget hu (pv 1) (pv 0) (fun _ _ => rfl)))), ?_⟩
    refine ⟨_, rfl, rfl, _, rfl, ite2 (fun e => ?_) (fun e => ?_)⟩
    · have ex : x = ("0" : Str) := V.str.inj (of_decide_eq_true e)
      have ew : worth val x = 0 := if_pos ex
      rw [ew] at q
      exact q
    · have ex : x ≠ ("0" : Str) := fun z => e (decide_eq_true (by rw [z]))
      have ew : worth val x = val x := if_neg ex
      rw [ew] at q
      exact ⟨_, rfl, _, rfl, d, _, rfl, dget hP (hx ex), q⟩
def spSolves : Sp := fun vs H Q _ => ∃ (a d : Addr) (rows : List SRow) (ks : List Str) (val : Str → Int), vs = [.ref a, .ref d] ∧ Sys RowT H a rows ∧ PointAt H d ks val ∧ (∀ x, x ≠ ("0" : Str) → Named rows x → x ∈ ks) ∧ Sat rows (worth val) ∧ Q (.bl true) H
abbrev nSolves : List Str := ["_law_system_here", "_law_point", "_law_left", "_law_right_here", "_law_limit"]
theorem scSolves : FnScope nSolves ["_law_system_here", "_law_point"] (defScope sSolves) := ⟨rfl, rfl, rfl, by decide +kernel, rfl, by decide +kernel, by decide +kernel⟩
theorem ok_solves {f fW : Addr} {fd fdW : FuncData} (F : Fun K "_law_solves" "_law_solves" sSolves f fd) (GW : FnOk P w K mg base CX0 1 fW fdW ["_law_name", "_law_point"] spWorth) (kW : PySem.W.keepIn K (.ref fW) = true) (bW : Binds K fdW ["_law_name", "_law_point"] []) (gW : mg "_law_worth" = some (.ref fW)) :
    FnOk P w K mg base CX0 2 f fd ["_law_system_here", "_law_point"] spSolves := by
  refine F.ok scSolves (fun vs H Q E h => ?_) (fun cdv A outer s H vs Q E hr h => ?_)
  · obtain ⟨a, d, rows, ks, val, rfl, _⟩ := h
    rfl
  · obtain ⟨a, d, rows, ks, val, rfl, ⟨ps, hA, hl, hat⟩, hP, hk, hs, q⟩ := h
    have nd := scSolves.nd
    refine ⟨_, pss_cons (ps_for PassesOwn.never rfl (pi_list (pv 0)) (pg_tup rfl (pgs_cons (pg_name (i := 2) nd rfl (.inl rfl)) (pgs_cons (pg_name (i := 3) nd rfl (.inl rfl)) (pgs_cons (pg_name (i := 4) nd rfl (.inl rfl)) pgs_nil))))
        (pss_one (ps_if (pt_cmpR op_gt (pe_op op_sub (pe_call GW hr (by rfl) gW kW bW .nil pass0 (pa_cons (pv 2) (pa_cons (pv 1) pa_nil))) (pe_call GW hr (by rfl) gW kW bW .nil pass0 (pa_cons (pv 3) (pa_cons (pv 1) pa_nil)))) (pv 4) (nomark _))
          (pss_one (ps_ret pe_bl)) pss_nil)))
      (pss_one (ps_ret pe_bl)), ?_⟩
    refine ⟨.ref a, rfl, a, rfl, ⟨_, SqL.of hA⟩, for_list (K := K) (a := a) (xs := ps.map V.ref) (fun i σ H' => ∃ (y2 y3 y4 : Option V), σ = [some (.ref a), some (.ref d), y2, y3, y4] ∧ H' = H) ⟨_, _, _, rfl, rfl⟩ (fun i σ H' _ ⟨_, _, _, _, e⟩ => by rw [e]; exact SqL.of hA) ?_ ?_⟩
    · rintro i x σ H1 hi ⟨y2, y3, y4, rfl, rfl⟩
      obtain ⟨p, ⟨x, y, c⟩, rfl, hp, hrr, hmem, hlt, hR⟩ := Sys.at hl hat hi
      refine ⟨p, _, rfl, SqT.of hR, rfl, _, _, rfl, _, _, rfl, _, _, rfl, rfl, ?_⟩
      refine ⟨.str x, rfl, .ref d, rfl, x, d, ks, val, rfl, hP, fun n => hk x n ⟨_, hmem, .inl rfl⟩, ?_⟩
      refine ⟨.str y, rfl, .ref d, rfl, y, d, ks, val, rfl, hP, fun n => hk y n ⟨_, hmem, .inr rfl⟩, ?_⟩
      have := hs _ hmem
      refine ⟨_, _, rfl, rfl, .int c, rfl, _, _, rfl, rfl, _, rfl, ?_⟩
      rw [decide_eq_false (show ¬ c < worth val x - worth val y by simp only at this; omega)]
      exact iteF ⟨_, _, _, rfl, rfl⟩
    · rintro σ H1 ⟨y2, y3, y4, rfl, rfl⟩
      exact q
end
end Lo
namespace Lo
open PySem L2
abbrev sTight : Stmt := top 14
abbrev sChain : Stmt := top 15
abbrev sSolvable : Stmt := top 16
section
variable {P : Program} {w : World} {K : PySem.W.Frag} {mg : Str → Option Value} {base : Heap}
/-! ### _solvable -/
def spSolvable : Sp := fun vs H Q _ => ∃ (a : Addr) (left right : Str) (rows : List SRow) (v : Str → Int), vs = [.ref a, .str left, .str right] ∧ Sys RowA H a rows ∧ Good rows ∧ left ≠ ("" : Str) ∧ right ≠ ("" : Str) ∧ Sat rows v ∧
  ∀ H' q, Same H H' → Sys RowT H' q rows → Q (.ref q) H'
abbrev nSolvable : List Str := ["system", "left", "right", "differences", "side"]
theorem scSolvable : FnScope nSolvable ["system", "left", "right"] (defScope sSolvable) := ⟨rfl, rfl, rfl, by decide +kernel, rfl, by decide +kernel, by decide +kernel⟩
theorem ok_solvable {f fS fR fD : Addr} {fd fdS fdR fdD : FuncData} (F : Fun K "_solvable" "_solvable" sSolvable f fd) (GS : FnOk P w K mg base CX0 3 fS fdS ["differences"] spSettled) (kS : PySem.W.keepIn K (.ref fS) = true) (bS : Binds K fdS ["differences"] []) (gS : mg "_settled" = some (.ref fS))
    (GR : FnOk P w K mg base CX0 3 fR fdR ["system"] spRead) (kR : PySem.W.keepIn K (.ref fR) = true) (bR : Binds K fdR ["system"] []) (gR : mg "read_system" = some (.ref fR))
    (GD : FnOk P w K mg base CX0 1 fD fdD ["thing"] spSide) (kD : PySem.W.keepIn K (.ref fD) = true) (bD : Binds K fdD ["thing"] []) (gD : mg "is_side" = some (.ref fD)) : FnOk P w K mg base CX0 4 f fd ["system", "left", "right"] spSolvable := by
  refine F.ok scSolvable (fun vs H Q E h => ?_) (fun cdv A outer s H vs Q E hr h => ?_)
  · obtain ⟨a, left, right, rows, v, rfl, _⟩ := h
    rfl
  · obtain ⟨a, left, right, rows, v, rfl, hS, g, hl, hrt, hv, q⟩ := h
    have nd := scSolvable.nd
    refine ⟨_, pss_cons (ps_set (i := 3) nd rfl (.inl rfl) (pe_call GR hr (by rfl) gR kR bR .nil pass0 (pa_cons (pv 0) pa_nil)))
      (pss_cons (ps_for PassesOwn.never rfl (pi_tup (pe_tup (pa_cons (pv 1) (pa_cons (pv 2) pa_nil)))) (pg_name (i := 4) nd rfl (.inl rfl))
        (pss_one (ps_if (pt_not (pt_val (pe_call GD (hr.mono (by decide)) (by rfl) gD kD bD .nil pass0 (pa_cons (pv 4) pa_nil)))) (pss_one ps_never) pss_nil)))
      (pss_cons (ps_if (pt_cmpR op_notN (pe_ix ix_tup (pe_call GS hr (by rfl) gS kS bS .nil pass0 (pa_cons (pv 3) pa_nil)) pe_int (fun _ _ => rfl)) pe_non (nomark _)) (pss_one ps_never) pss_nil)
      (pss_one (ps_ret (pv 3))))), ?_⟩
    refine ⟨.ref a, rfl, a, rows, rfl, hS, g, fun H1 r s1 _ hr1 => ?_⟩
    refine ⟨.str left, rfl, .str right, rfl, by show 2 ≤ sizeLine; decide, fun t nt => ?_⟩
    have s2 : Same H1 (upd H1 t (.tup [.str left, .str right])) := same_upd nt
    refine ⟨t, rfl, ⟨_, SqT.of upd_same⟩, for_tup (K := K) (a := t) (xs := [.str left, .str right]) (fun i σ H' => ∃ y : Option V, σ = [some (.ref a), some (.str left), some (.str right), some (.ref r), y] ∧ H' = upd H1 t (.tup [.str left, .str right])) ⟨none, rfl, rfl⟩
      (fun i σ H' _ ⟨_, _, e⟩ => by rw [e]; exact SqT.of upd_same) ?_ ?_⟩
    · rintro i x σ H2 hi ⟨y, rfl, rfl⟩
      have hx : ∃ z : Str, x = .str z ∧ z ≠ ("" : Str) := by
        match i, hi with
        | 0, hi => exact ⟨left, (Option.some.inj hi).symm, hl⟩
        | 1, hi => exact ⟨right, (Option.some.inj hi).symm, hrt⟩
      obtain ⟨z, rfl, hz⟩ := hx
      exact ⟨.str z, rfl, z, rfl, hz, true, rfl, iteF ⟨_, rfl, rfl⟩⟩
    · rintro σ H2 ⟨y, rfl, rfl⟩
      refine ⟨.ref r, rfl, r, rows, rfl, hr1.sameT s2, g, fun H3 t3 s3 hT => ?_⟩
      rcases hT with ⟨u, ht, hR⟩ | ⟨d, ks, val, ht, _, _, _, hs⟩
      · obtain ⟨found, _, hf, _⟩ := hR
        exact absurd hv (ringOk_not_sat hf v)
      · refine ⟨t3, _, 0, _, rfl, rfl, SqT.of ht, atI_nat (j := 0) rfl, rfl, _, rfl, iteF ?_⟩
        exact ⟨.ref r, rfl, q H3 r ((s1.trans s2).trans s3) ((hr1.sameT s2).sameT s3)⟩
/-! ### tight -/
def spTight : Sp := fun vs H Q _ => ∃ (a : Addr) (left right : Str) (rows : List SRow) (v : Str → Int), vs = [.ref a, .str left, .str right] ∧ Sys RowA H a rows ∧ Good rows ∧ left ≠ ("" : Str) ∧ right ≠ ("" : Str) ∧ Sat rows v ∧
  ∀ H' b, Same H H' → Best rows left right b → Q (optV b) H'
theorem scTight : FnScope ["system", "left", "right"] ["system", "left", "right"] (defScope sTight) := ⟨rfl, rfl, rfl, by decide +kernel, rfl, by decide +kernel, by decide +kernel⟩
theorem ok_tight {f fS fR : Addr} {fd fdS fdR : FuncData} (F : Fun K "tight" "tight" sTight f fd) (GS : FnOk P w K mg base CX0 4 fS fdS ["system", "left", "right"] spSolvable) (kS : PySem.W.keepIn K (.ref fS) = true) (bS : Binds K fdS ["system", "left", "right"] []) (gS : mg "_solvable" = some (.ref fS))
    (GR : FnOk P w K mg base CX0 1 fR fdR ["differences", "left", "right"] spReached) (kR : PySem.W.keepIn K (.ref fR) = true) (bR : Binds K fdR ["differences", "left", "right"] []) (gR : mg "_reached" = some (.ref fR)) : FnOk P w K mg base CX0 5 f fd ["system", "left", "right"] spTight := by
  refine F.ok scTight (fun vs H Q E h => ?_) (fun cdv A outer s H vs Q E hr h => ?_)
  · obtain ⟨a, left, right, rows, v, rfl, _⟩ := h
    rfl
  · obtain ⟨a, left, right, rows, v, rfl, hS, g, hl, hrt, hv, q⟩ := h
    refine ⟨_, pss_one (ps_ret (pe_ix ix_tup (pe_call GR (hr.mono (by decide)) (by rfl) gR kR bR .nil pass0 (pa_cons (pe_call GS hr (by rfl) gS kS bS .nil pass0 (pa_cons (pv 0) (pa_cons (pv 1) (pa_cons (pv 2) pa_nil)))) (pa_cons (pv 1) (pa_cons (pv 2) pa_nil)))) pe_int (fun _ _ => rfl))), ?_⟩
    refine ⟨.ref a, rfl, .str left, rfl, .str right, rfl, a, left, right, rows, v, rfl, hS, g, hl, hrt, hv, fun H1 r s1 hr1 => ?_⟩
    refine ⟨.str left, rfl, .str right, rfl, r, left, right, rows, v, rfl, hr1, g, hv, fun H2 t ca b s2 ht B _ => ?_⟩
    exact ⟨t, _, 0, _, rfl, rfl, SqT.of ht, atI_nat (j := 0) rfl, q H2 b (s1.trans s2) B⟩
/-! ### chain -/
/-- what chain answers -/
def ChainAns (H : Hp) (rows : List SRow) (left right : Str) (b : Option Int) (r : V) : Prop :=
  (b = none ∧ r = .non) ∨ ∃ (k : Int) (l : List Nat) (q : Addr), b = some k ∧ r = .ref q ∧ H q = some (.lst (l.reverse.map fun j : Nat => V.int (j : Int))) ∧ Chain rows left right k l ∧ (left = right → l = [])
theorem chain_few {rows : List SRow} {left right : Str} {k : Int} {l : List Nat} (h : Chain rows left right k l) : l.length ≤ rows.length := by
  have := nodup_le l (List.range rows.length) h.1 fun j hj => List.mem_range.mpr (h.2.1 j hj)
  rwa [List.length_range] at this
def spChain : Sp := fun vs H Q _ => ∃ (a : Addr) (left right : Str) (rows : List SRow) (v : Str → Int), vs = [.ref a, .str left, .str right] ∧ Sys RowA H a rows ∧ Good rows ∧ left ≠ ("" : Str) ∧ right ≠ ("" : Str) ∧ Sat rows v ∧
  ∀ H' b r, Same H H' → Best rows left right b → ChainAns H' rows left right b r → Q r H'
abbrev nChain : List Str := ["system", "left", "right", "differences", "reach", "causes", "found", "name"]
theorem scChain : FnScope nChain ["system", "left", "right"] (defScope sChain) := ⟨rfl, rfl, rfl, by decide +kernel, rfl, by decide +kernel, by decide +kernel⟩
theorem ok_chain {f fS fR : Addr} {fd fdS fdR : FuncData} (F : Fun K "chain" "chain" sChain f fd) (GS : FnOk P w K mg base CX0 4 fS fdS ["system", "left", "right"] spSolvable) (kS : PySem.W.keepIn K (.ref fS) = true) (bS : Binds K fdS ["system", "left", "right"] []) (gS : mg "_solvable" = some (.ref fS))
    (GR : FnOk P w K mg base CX0 1 fR fdR ["differences", "left", "right"] spReached) (kR : PySem.W.keepIn K (.ref fR) = true) (bR : Binds K fdR ["differences", "left", "right"] []) (gR : mg "_reached" = some (.ref fR)) : FnOk P w K mg base CX0 5 f fd ["system", "left", "right"] spChain := by
  refine F.ok scChain (fun vs H Q E h => ?_) (fun cdv A outer s H vs Q E hr h => ?_)
  · obtain ⟨a, left, right, rows, v, rfl, _⟩ := h
    rfl
  · obtain ⟨a, left, right, rows, v, rfl, hS, g, hl, hrt, hv, q⟩ := h
    have nd := scChain.nd
    have hu := hu_of hr
    refine ⟨_, pss_cons (ps_set (i := 3) nd rfl (.inl rfl) (pe_call GS hr (by rfl) gS kS bS .nil pass0 (pa_cons (pv 0) (pa_cons (pv 1) (pa_cons (pv 2) pa_nil)))))
      (pss_cons (ps_asg (pe_call GR (hr.mono (by decide)) (by rfl) gR kR bR .nil pass0 (pa_cons (pv 3) (pa_cons (pv 1) (pa_cons (pv 2) pa_nil)))) (pg_tup rfl (pgs_cons (pg_name (i := 4) nd rfl (.inl rfl)) (pgs_cons (pg_name (i := 5) nd rfl (.inl rfl)) pgs_nil))))
      (pss_cons (ps_if (pt_cmpR op_isN (pv 4) pe_non (nomark _)) (pss_one (ps_ret pe_non)) pss_nil)
      (pss_cons (ps_set (i := 6) nd rfl (.inl rfl) (pe_lst pa_nil))
      (pss_cons (ps_set (i := 7) nd rfl (.inl rfl) (pv 2))
      (pss_cons (ps_while PassesOwn.never (pt_cmpR op_ne (pv 7) (pv 1) (nomark _))
        (pss_cons (ps_expr (pe_bm PySem.F.plainAttrs_list PySem.F.slot_list_append PySem.F.type_list_append mt_append (pv 6) (pa_cons (pe_dget hu (pv 5) (pv 7) (fun _ _ => rfl)) pa_nil)))
        (pss_one (ps_set (i := 7) nd rfl (.inl rfl) (pe_ix ix_tup (pe_ix ix_list (pv 3) (pe_dget hu (pv 5) (pv 7) (fun _ _ => rfl)) (fun _ _ => rfl)) pe_int (fun _ _ => rfl))))))
      (pss_one (ps_ret (pe_revL (pv 6))))))))), ?_⟩
    refine ⟨.ref a, rfl, .str left, rfl, .str right, rfl, a, left, right, rows, v, rfl, hS, g, hl, hrt, hv, fun H1 r s1 hr1 => ?_⟩
    refine ⟨.ref r, rfl, .str left, rfl, .str right, rfl, r, left, right, rows, v, rfl, hr1, g, hv, fun H2 t ca b s2 ht B C => ?_⟩
    refine ⟨t, _, rfl, SqT.of ht, rfl, _, _, rfl, _, _, rfl, rfl, ?_⟩
    have s02 := s1.trans s2
    cases b with
    | none => exact ⟨_, rfl, rfl, _, rfl, iteT (q H2 none .non s02 B (.inl ⟨rfl, rfl⟩))⟩
    | some k =>
      obtain ⟨cs, cz, hca, hc⟩ := C
      obtain ⟨l, W, hch⟩ := hc k rfl
      obtain ⟨ps, hA, hlen, hat⟩ := hr1.sameT s2
      have self : left = right → l = [] := fun e => by
        subst e
        cases W with
        | here => rfl
        | step n => exact absurd rfl n
      have few := chain_few hch
      have h100 := g.few
      refine ⟨_, rfl, rfl, _, rfl, iteF ⟨Nat.zero_le _, fun o no => ?_⟩⟩
      have s3 : Same H2 (upd H2 o (.lst [])) := same_upd no
      refine ⟨.str right, rfl, ?_⟩
      refine ⟨fun m σ H' => ∃ (x : Str) (done rest : List Nat), σ = [some (.ref a), some (.str left), some (.str right), some (.ref r), some (.int k), some (.ref ca), some (.ref o), some (.str x)] ∧ Same H2 H' ∧
        H' o = some (.lst (done.map fun j : Nat => V.int (j : Int))) ∧ Cway rows left cs cz x rest ∧ done ++ rest = l ∧ m = rest.length,
        ⟨l.length, right, [], l, rfl, s3, upd_same, W, rfl, rfl⟩, ?_⟩
      rintro m σ H3 ⟨x, done, rest, rfl, s4, ho, hW, hdr, rfl⟩
      refine ⟨.str x, rfl, .str left, rfl, rfl, _, rfl, ?_⟩
      by_cases z : x = left
      · subst z
        have e0 : rest = [] := by
          cases hW with
          | here => rfl
          | step n => exact absurd rfl n
        subst e0
        rw [List.append_nil] at hdr
        subst hdr
        have ez : (!decide (V.str x = V.str x)) = false := by rw [decide_eq_true rfl]; rfl
        rw [ez]
        refine iteF ⟨.ref o, rfl, o, _, rfl, SqL.of ho, fun p np => ?_⟩
        refine q _ (some k) (.ref p) ((s02.trans s4).trans (same_upd np)) B (.inr ⟨k, done, p, rfl, rfl, ?_, hch, self⟩)
        rw [upd_same, List.map_reverse]
      · have ez : (!decide (V.str x = V.str left)) = true := by
          rw [decide_eq_false fun e => z (V.str.inj e)]
          rfl
        rw [ez]
        cases hW with
        | here => exact absurd rfl z
        | @step _ y c l' n hcs hrow hW' =>
          have hi : cz x < ps.length := by
            rw [hlen]
            exact (List.getElem?_eq_some_iff.mp hrow).1
          have hp : (ps.map V.ref)[cz x]? = some (.ref ps[cz x]) := by rw [List.getElem?_map, List.getElem?_eq_getElem hi]; rfl
          have hR := hat (cz x) _ _ (List.getElem?_eq_getElem hi) hrow
          have hdl : done.length ≤ 100 := by
            have := congrArg List.length hdr
            rw [List.length_append] at this
            omega
          refine iteT ⟨fun σ' H' => ∃ (done' : List Nat), σ' = [some (.ref a), some (.str left), some (.str right), some (.ref r), some (.int k), some (.ref ca), some (.ref o), some (.str y)] ∧ Same H2 H' ∧
            H' o = some (.lst (done'.map fun j : Nat => V.int (j : Int))) ∧ done' ++ l' = l, fun σ' H' hN => ?_, ?_⟩
          · obtain ⟨d', r1, r2, r3, r4⟩ := hN
            exact ⟨l'.length, Nat.lt_succ_self _, y, d', l', r1, r2, r3, hW', r4, rfl⟩
          · refine ⟨.ref o, rfl, .inl ⟨rfl, _, SqL.of ho⟩, .ref ca, rfl, .str x, rfl, ca, _, rfl, dget (s4 _ _ hca) hcs, o, _, _, rfl, rfl, ho, by rw [List.length_map]; exact small1000 (by omega), ?_⟩
            have s5 : Same H2 (upd H3 o (.lst ((done.map fun j : Nat => V.int (j : Int)) ++ [.int (cz x : Nat)]))) := s4.later no
            refine ⟨.ref r, rfl, .ref ca, rfl, .str x, rfl, ca, _, rfl, dget (s5 _ _ hca) hcs, r, _, _, _, rfl, rfl, SqL.of (s5 _ _ hA), atI_nat hp, ps[cz x], _, 0, _, rfl, rfl, SqT.of (s5 _ _ hR), atI_nat (j := 0) rfl, ?_⟩
            refine ⟨done ++ [cz x], rfl, s5, ?_, by rw [List.append_assoc]; exact hdr⟩
            rw [upd_same, List.map_append]
            rfl
/-! ### the refusals -/
/-- what is asked of the class of an error -/
structure Err (K : PySem.W.Frag) (mg : Str → Option Value) (x : Str) (C : Addr) : Prop where
  g : mg x = some (.ref C)
  x : PySem.W.excIn K C [.type "ValueError", .type "Exception", .type "BaseException", .type "object"] "ValueError.__new__" = true
  k : PySem.W.keepIn K (.ref C) = true
  b : PySem.W.subIn K (.ref C) (.type "BaseException") = some true
  t : PySem.W.typeIn K (.ref C) = some (.type "type")
  e : PySem.W.exmOne K (.ref C) (.ref C) = some true
def spRefuse (C : Addr) : Sp := fun vs H Q E => ∃ (a : Addr) (left right : Str) (rows : List SRow), vs = [.ref a, .str left, .str right] ∧ Sys RowA H a rows ∧ Good rows ∧ left ≠ ("" : Str) ∧ right ≠ ("" : Str) ∧ (∀ v, ¬ Sat rows v) ∧
  ∀ H', Same H H' → E (.ref C) none H'
theorem ok_solvableX {C f fS fR fD : Addr} {fd fdS fdR fdD : FuncData} (F : Fun K "_solvable" "_solvable" sSolvable f fd) (N : Err K mg "NoSolution" C) (GS : FnOk P w K mg base CX0 3 fS fdS ["differences"] spSettled) (kS : PySem.W.keepIn K (.ref fS) = true) (bS : Binds K fdS ["differences"] []) (gS : mg "_settled" = some (.ref fS))
    (GR : FnOk P w K mg base CX0 3 fR fdR ["system"] spRead) (kR : PySem.W.keepIn K (.ref fR) = true) (bR : Binds K fdR ["system"] []) (gR : mg "read_system" = some (.ref fR))
    (GD : FnOk P w K mg base CX0 1 fD fdD ["thing"] spSide) (kD : PySem.W.keepIn K (.ref fD) = true) (bD : Binds K fdD ["thing"] []) (gD : mg "is_side" = some (.ref fD)) : FnOk P w K mg base (L2.CX P w) 4 f fd ["system", "left", "right"] (spRefuse C) := by
  refine F.okX scSolvable (fun vs H Q E h => ?_) (fun cdv A outer s H vs Q E hr h => ?_)
  · obtain ⟨a, left, right, rows, rfl, _⟩ := h
    rfl
  · obtain ⟨a, left, right, rows, rfl, hS, g, hl, hrt, hv, q⟩ := h
    have nd := scSolvable.nd
    refine ⟨_, pss_cons (ps_set (i := 3) nd rfl (.inl rfl) (pe_call GR hr (by rfl) gR kR bR .nil pass0 (pa_cons (pv 0) pa_nil)))
      (pss_cons (ps_for (passes_of rfl) rfl (pi_tup (pe_tup (pa_cons (pv 1) (pa_cons (pv 2) pa_nil)))) (pg_name (i := 4) nd rfl (.inl rfl))
        (pss_one (ps_if (pt_not (pt_val (pe_call GD (hr.mono (by decide)) (by rfl) gD kD bD .nil pass0 (pa_cons (pv 4) pa_nil)))) (pss_one ps_never) pss_nil)))
      (pss_cons (ps_if (pt_cmpR op_notN (pe_ix ix_tup (pe_call GS hr (by rfl) gS kS bS .nil pass0 (pa_cons (pv 3) pa_nil)) pe_int (fun _ _ => rfl)) pe_non (nomark _))
        (pss_one (ps_raise rfl (takes_of rfl rfl rfl rfl) (pmk_own PySem.F.excBase_ValueError N.x N.g N.k (raises_own N.b N.t) rfl))) pss_nil)
      (pss_one ps_never))), ?_⟩
    refine ⟨.ref a, rfl, a, rows, rfl, hS, g, fun H1 r s1 _ hr1 => ?_⟩
    refine ⟨.str left, rfl, .str right, rfl, by show 2 ≤ sizeLine; decide, fun t nt => ?_⟩
    have s2 : Same H1 (upd H1 t (.tup [.str left, .str right])) := same_upd nt
    refine ⟨t, rfl, ⟨_, SqT.of upd_same⟩, for_tup (K := K) (a := t) (xs := [.str left, .str right]) (fun i σ H' => ∃ y : Option V, σ = [some (.ref a), some (.str left), some (.str right), some (.ref r), y] ∧ H' = upd H1 t (.tup [.str left, .str right])) ⟨none, rfl, rfl⟩
      (fun i σ H' _ ⟨_, _, e⟩ => by rw [e]; exact SqT.of upd_same) ?_ ?_⟩
    · rintro i x σ H2 hi ⟨y, rfl, rfl⟩
      have hx : ∃ z : Str, x = .str z ∧ z ≠ ("" : Str) := by
        match i, hi with
        | 0, hi => exact ⟨left, (Option.some.inj hi).symm, hl⟩
        | 1, hi => exact ⟨right, (Option.some.inj hi).symm, hrt⟩
      obtain ⟨z, rfl, hz⟩ := hx
      exact ⟨.str z, rfl, z, rfl, hz, true, rfl, iteF ⟨_, rfl, rfl⟩⟩
    · rintro σ H2 ⟨y, rfl, rfl⟩
      refine ⟨.ref r, rfl, r, rows, rfl, hr1.sameT s2, g, fun H3 t3 s3 hT => ?_⟩
      rcases hT with ⟨u, ht, hR⟩ | ⟨d, ks, val, ht, _, _, _, hs⟩
      · exact ⟨t3, _, 0, _, rfl, rfl, SqT.of ht, atI_nat (j := 0) rfl, rfl, _, rfl, iteT (q H3 ((s1.trans s2).trans s3))⟩
      · exact absurd hs (hv _)
theorem ok_tightX {C f fS fR : Addr} {fd fdS fdR : FuncData} (F : Fun K "tight" "tight" sTight f fd) (GS : FnOk P w K mg base (L2.CX P w) 4 fS fdS ["system", "left", "right"] (spRefuse C)) (kS : PySem.W.keepIn K (.ref fS) = true) (bS : Binds K fdS ["system", "left", "right"] []) (gS : mg "_solvable" = some (.ref fS))
    (GR : FnOk P w K mg base CX0 1 fR fdR ["differences", "left", "right"] spReached) (kR : PySem.W.keepIn K (.ref fR) = true) (bR : Binds K fdR ["differences", "left", "right"] []) (gR : mg "_reached" = some (.ref fR)) : FnOk P w K mg base (L2.CX P w) 5 f fd ["system", "left", "right"] (spRefuse C) := by
  refine F.okX scTight (fun vs H Q E h => ?_) (fun cdv A outer s H vs Q E hr h => ?_)
  · obtain ⟨a, left, right, rows, rfl, _⟩ := h
    rfl
  · obtain ⟨a, left, right, rows, rfl, hS, g, hl, hrt, hv, q⟩ := h
    refine ⟨_, pss_one (ps_ret (pe_ix ix_tup (pe_call GR (hr.mono (by decide)) (by rfl) gR kR bR .nil pass0 (pa_cons (pe_callS GS hr (by rfl) gS kS bS (fun σ => passAt (takes_of rfl rfl rfl rfl) σ) (pa_cons (pv 0) (pa_cons (pv 1) (pa_cons (pv 2) pa_nil)))) (pa_cons (pv 1) (pa_cons (pv 2) pa_nil)))) pe_int (fun _ _ => rfl))), ?_⟩
    exact ⟨.ref a, rfl, .str left, rfl, .str right, rfl, a, left, right, rows, rfl, hS, g, hl, hrt, hv, q⟩
theorem ok_chainX {C f fS : Addr} {fd fdS : FuncData} (F : Fun K "chain" "chain" sChain f fd) (GS : FnOk P w K mg base (L2.CX P w) 4 fS fdS ["system", "left", "right"] (spRefuse C)) (kS : PySem.W.keepIn K (.ref fS) = true) (bS : Binds K fdS ["system", "left", "right"] []) (gS : mg "_solvable" = some (.ref fS)) :
    FnOk P w K mg base (L2.CX P w) 5 f fd ["system", "left", "right"] (spRefuse C) := by
  refine F.okX scChain (fun vs H Q E h => ?_) (fun cdv A outer s H vs Q E hr h => ?_)
  · obtain ⟨a, left, right, rows, rfl, _⟩ := h
    rfl
  · obtain ⟨a, left, right, rows, rfl, hS, g, hl, hrt, hv, q⟩ := h
    have nd := scChain.nd
    refine ⟨_, pss_cons (ps_set (i := 3) nd rfl (.inl rfl) (pe_callS GS hr (by rfl) gS kS bS (fun σ => passAt (takes_of rfl rfl rfl rfl) σ) (pa_cons (pv 0) (pa_cons (pv 1) (pa_cons (pv 2) pa_nil))))) pss_never, ?_⟩
    exact ⟨.ref a, rfl, .str left, rfl, .str right, rfl, a, left, right, rows, rfl, hS, g, hl, hrt, hv, q⟩
end
end Lo
namespace Lo
open PySem L2
abbrev sIsRing : Stmt := top 27
abbrev sIsNum : Stmt := top 28
structure Blt2 (mg : Str → Option Value) : Prop where
  sorted : mg "sorted" = none
  set : mg "set" = none
  sum : mg "sum" = none
  dict : mg "dict" = none
theorem ne_dec (x y : Str) : (!decide (V.str x = V.str y)) = decide (x ≠ y) := by
  by_cases e : x = y
  · subst e
    simp
  · rw [decide_eq_false fun q => e (V.str.inj q), decide_eq_true e]
    rfl
section
variable {P : Program} {w : World} {K : PySem.W.Frag} {mg : Str → Option Value} {base : Heap}
/-! ### _law_is_number -/
theorem scIsNum : FnScope ["_law_thing"] ["_law_thing"] (defScope sIsNum) := ⟨rfl, rfl, rfl, by decide +kernel, rfl, by decide +kernel, by decide +kernel⟩
theorem ok_isnum {f : Addr} {fd : FuncData} (F : Fun K "_law_is_number" "_law_is_number" sIsNum f fd) (T : Blt mg) : FnOk P w K mg base CX0 1 f fd ["_law_thing"] spWhole := by
  refine F.ok scIsNum (fun vs H Q E h => ?_) (fun cdv A outer s H vs Q E hr h => ?_)
  · obtain ⟨i, rfl, _⟩ := h
    rfl
  · obtain ⟨i, rfl, q⟩ := h
    refine ⟨_, pss_one (ps_ret (pe_and (pe_callB call_isi (by rfl) T.isi PyProof.Rows.boot_isinstance (pa_cons (pv 0) (pa_cons (pe_bltn (v := .ty "int") rfl T.int PyProof.Rows.boot_int rfl) pa_nil)))
      (pe_one (pe_not (pe_callB call_isi (by rfl) T.isi PyProof.Rows.boot_isinstance (pa_cons (pv 0) (pa_cons (pe_bltn (v := .ty "bool") rfl T.bool PyProof.Rows.boot_bool rfl) pa_nil))))))), ?_⟩
    refine ⟨_, rfl, _, _, _, _, true, rfl, .ty _, .base (.int _), kit_ty (by decide +kernel), true, rfl, iteT ?_⟩
    exact ⟨_, rfl, _, _, _, _, false, rfl, .ty _, .base (.int _), kit_ty (by decide +kernel), false, rfl, q⟩
/-! ### _law_is_ring -/
def spIsRing : Sp := fun vs H Q _ => ∃ (a q : Addr) (rows : List SRow), vs = [.ref a, .ref q] ∧ Sys RowT H a rows ∧ RingAt H q rows ∧ (∀ r ∈ rows, OkR r) ∧ rows.length ≤ 60 ∧ ∀ H', Same H H' → Q (.bl true) H'
abbrev nIsRing : List Str := ["_law_system_here", "_law_found", "_law_place", "_law_lefts", "_law_rights"]
theorem scIsRing : FnScope nIsRing ["_law_system_here", "_law_found"] (defScope sIsRing) := ⟨rfl, rfl, rfl, by decide +kernel, rfl, by decide +kernel, by decide +kernel⟩
theorem cut_drop {xs : List V} {k : Nat} (h : k ≤ xs.length) : cutV xs (some ((k : Nat) : Int)) none = xs.drop k := by
  unfold cutV
  rw [HT.sIx_none, HT.sIx_nat, Nat.min_eq_left h, List.take_of_length_le]
  rw [List.length_drop]
  exact Nat.le_refl _
theorem cut_take {xs : List V} {k : Nat} : cutV xs none (some ((k : Nat) : Int)) = xs.take k := by
  unfold cutV
  rw [HT.sIx_none, HT.sIx_nat, List.drop_zero, Nat.sub_zero]
  by_cases h : k ≤ xs.length
  · rw [Nat.min_eq_left h]
  · rw [Nat.min_eq_right (by omega), List.take_of_length_le (Nat.le_refl _), List.take_of_length_le (by omega)]
theorem ok_isring {f : Addr} {fd : FuncData} (F : Fun K "_law_is_ring" "_law_is_ring" sIsRing f fd) (T : Blt mg) (U : Blt2 mg) : FnOk P w K mg base CX0 1 f fd ["_law_system_here", "_law_found"] spIsRing := by
  refine F.ok scIsRing (fun vs H Q E h => ?_) (fun cdv A outer s H vs Q E hr h => ?_)
  · obtain ⟨a, q, rows, rfl, _⟩ := h
    rfl
  · obtain ⟨a, qa, rows, rfl, hS, ⟨found, hq, ⟨es, hes, R⟩, hfew⟩, hok, h60, q⟩ := h
    obtain ⟨ps, hA, hl, hat⟩ := hS
    have nd := scIsRing.nd
    refine ⟨_, pss_cons (ps_if (PW.pt (pw_or (pt_not (pt_val (pe_callB call_isi (by rfl) T.isi PyProof.Rows.boot_isinstance (pa_cons (pv 1) (pa_cons (pe_bltn (v := .ty "list") rfl T.list PyProof.Rows.boot_list rfl) pa_nil)))))
          (pw_or1 (pt_cmpR op_lt (pe_callB call_len_seq (by rfl) T.len PySem.boot_len (pa_cons (pv 1) pa_nil)) pe_int (nomark _))))) (pss_one (ps_ret pe_bl)) pss_nil)
      (pss_cons (ps_for PassesOwn.never rfl (pi_list (pv 1)) (pg_name (i := 2) nd rfl (.inl rfl))
        (pss_one (ps_if (PW.pt (pw_or (pt_not (pt_val (pe_callB call_isi (by rfl) T.isi PyProof.Rows.boot_isinstance (pa_cons (pv 2) (pa_cons (pe_bltn (v := .ty "int") rfl T.int PyProof.Rows.boot_int rfl) pa_nil)))))
          (pw_or (pt_val (pe_callB call_isi (by rfl) T.isi PyProof.Rows.boot_isinstance (pa_cons (pv 2) (pa_cons (pe_bltn (v := .ty "bool") rfl T.bool PyProof.Rows.boot_bool rfl) pa_nil))))
          (pw_or1 (pt_not (pt_chain op_le op_lt pe_int (pv 2) (pe_callB call_len_seq (by rfl) T.len PySem.boot_len (pa_cons (pv 0) pa_nil)))))))) (pss_one (ps_ret pe_bl)) pss_nil)))
      (pss_cons (ps_setLc (i := 3) (own := [("_law_place", 2)]) (g := gName 2) (tt := tYes) rfl nd rfl rfl (sw_true rfl rfl rfl (by decide +kernel)) (pi_list (pv 1)) (blkOk_by (N := nIsRing) (sc := defScope sIsRing) (by decide +kernel))
        (fun _ _ _ _ _ => pg_name (i := 2) nd rfl (.inl rfl)) (fun _ _ _ _ _ => pts_nil) (fun _ _ _ _ _ => pe_ix (r := rIxT K) ix_tup (pe_ix (r := rIxL K) ix_list (pv 0) (pv 2) (fun _ _ => rfl)) pe_int (fun _ _ => rfl)))
      (pss_cons (ps_setLc (i := 4) (own := [("_law_place", 2)]) (g := gName 2) (tt := tYes) rfl nd rfl rfl (sw_true rfl rfl rfl (by decide +kernel)) (pi_list (pv 1)) (blkOk_by (N := nIsRing) (sc := defScope sIsRing) (by decide +kernel))
        (fun _ _ _ _ _ => pg_name (i := 2) nd rfl (.inl rfl)) (fun _ _ _ _ _ => pts_nil) (fun _ _ _ _ _ => pe_ix (r := rIxT K) ix_tup (pe_ix (r := rIxL K) ix_list (pv 0) (pv 2) (fun _ _ => rfl)) pe_int (fun _ _ => rfl)))
      (pss_cons (ps_if (PW.pt (pw_or (pt_cmpR (op_neD hr.units) (pv 4) (pe_op op_cat (pe_slice sl_list (pv 3) (po_some pe_int) po_none) (pe_slice sl_list (pv 3) po_none (po_some pe_int))) (nomark _))
          (pw_or1 (pt_cmpR op_ne (pe_callB call_len_seq (by rfl) T.len PySem.boot_len (pa_cons (pe_callB (cr_sortedN rfl) (by rfl) U.sorted PyProof.Rows.boot_sorted (pa_cons (pe_callTy (cr_setS rfl) (by rfl) U.set PyProof.Rows.boot_set (pa_cons (pv 3) pa_nil)) pa_nil)) pa_nil))
            (pe_callB call_len_seq (by rfl) T.len PySem.boot_len (pa_cons (pv 3) pa_nil)) (nomark _))))) (pss_one (ps_ret pe_bl)) pss_nil)
      (pss_one (ps_ret (pe_cmpR op_lt (pe_callB (cr_sum rfl) (by rfl) U.sum PyProof.Rows.boot_sum (pa_cons (pe_lc (own := [("_law_place", 2)]) (g := gName 2) (tt := tYes) rfl nd (pi_list (pv 1)) (blkOk_by (N := nIsRing) (sc := defScope sIsRing) (by decide +kernel))
        (fun _ _ _ _ _ => pg_name (i := 2) nd rfl (.inl rfl)) (fun _ _ _ _ _ => pts_nil) (fun _ _ _ _ _ => pe_ix (r := rIxT K) ix_tup (pe_ix (r := rIxL K) ix_list (pv 0) (pv 2) (fun _ _ => rfl)) pe_int (fun _ _ => rfl))) pa_nil)) pe_int (nomark _)))))))), ?_⟩
    -- the places and their rows
    have hlen : found.length = es.length := by
      have := congrArg List.length hes
      rw [List.length_map, List.length_map] at this
      exact this
    have rowAt : ∀ {j : Nat} (hj : j < found.length), ∃ (r : SRow) (p : Addr), es[j]? = some r ∧ rows[found[j]]? = some r ∧ (ps.map V.ref)[found[j]]? = some (.ref p) ∧ RowT H p r := fun {j} hj => by
      have hj2 : j < es.length := hlen ▸ hj
      have e1 : (found.map fun i => rows[i]?)[j]? = (es.map some)[j]? := by rw [hes]
      rw [List.getElem?_map, List.getElem?_map, List.getElem?_eq_getElem hj, List.getElem?_eq_getElem hj2] at e1
      have e2 : rows[found[j]]? = some es[j] := Option.some.inj e1
      have hi : found[j] < ps.length := by
        rw [hl]
        exact (List.getElem?_eq_some_iff.mp e2).1
      exact ⟨es[j], ps[found[j]], List.getElem?_eq_getElem hj2, e2, by rw [List.getElem?_map, List.getElem?_eq_getElem hi]; rfl, hat _ _ _ (List.getElem?_eq_getElem hi) e2⟩
    have es_rows : ∀ e ∈ es, e ∈ rows := fun e he => by
      obtain ⟨j, hj, ej⟩ := List.getElem_of_mem he
      obtain ⟨r, p, h1, h2, _⟩ := rowAt (j := j) (by rw [hlen]; exact hj)
      rw [List.getElem?_eq_getElem hj, ej] at h1
      rw [Option.some.inj h1]
      exact List.mem_of_getElem? h2
    have es60 : es.length ≤ 60 := by
      have := nodup_le (es.map (·.1)) (rows.map (·.1)) R.nd fun x hx => by
        obtain ⟨e, he, rfl⟩ := List.mem_map.mp hx
        exact List.mem_map.mpr ⟨e, es_rows e he, rfl⟩
      rw [List.length_map, List.length_map] at this
      omega
    have two := R.two
    -- a list and long enough
    refine ⟨_, rfl, _, _, _, _, true, rfl, .ty _, .base (.lst hq), kit_ty (by decide +kernel), true, rfl, iteF ?_⟩
    refine ⟨.ref qa, rfl, qa, _, rfl, .inl (SqL.of hq), _, _, rfl, rfl, _, rfl, ?_⟩
    rw [decide_eq_false (show ¬ (((found.map fun i : Nat => V.int (i : Int)).length : Nat) : Int) < 2 by rw [List.length_map]; omega)]
    refine iteF ?_
    refine ⟨.ref qa, rfl, qa, rfl, ⟨_, SqL.of hq⟩, for_list (K := K) (a := qa) (xs := found.map fun i : Nat => V.int (i : Int)) (fun i σ H' => ∃ y2 : Option V, σ = [some (.ref a), some (.ref qa), y2, none, none] ∧ H' = H) ⟨_, rfl, rfl⟩ (fun i σ H' _ ⟨_, _, e⟩ => by rw [e]; exact SqL.of hq) ?_ ?_⟩
    · rintro j v σ H1 hj ⟨y2, rfl, rfl⟩
      have hj1 : j < found.length := by
        have := (List.getElem?_eq_some_iff.mp hj).1
        rw [List.length_map] at this
        exact this
      obtain rfl : v = .int ((found[j] : Nat) : Int) := by
        rw [List.getElem?_map, List.getElem?_eq_getElem hj1] at hj
        exact (Option.some.inj hj).symm
      obtain ⟨r, p, _, h2, _⟩ := rowAt hj1
      have hlt := (List.getElem?_eq_some_iff.mp h2).1
      refine ⟨_, rfl, _, _, _, _, true, rfl, .ty _, .base (.int _), kit_ty (by decide +kernel), true, rfl, iteF ?_⟩
      refine ⟨_, rfl, _, _, _, _, false, rfl, .ty _, .base (.int _), kit_ty (by decide +kernel), false, rfl, iteF ?_⟩
      refine ⟨_, rfl, _, _, rfl, rfl, _, rfl, ?_⟩
      rw [decide_eq_true (show (0 : Int) ≤ ((found[j] : Nat) : Int) by omega)]
      refine iteT ⟨.ref a, rfl, a, _, rfl, .inl (SqL.of hA), _, _, rfl, rfl, _, rfl, ?_⟩
      rw [decide_eq_true (show ((found[j] : Nat) : Int) < (((ps.map V.ref).length : Nat) : Int) by rw [List.length_map, hl]; omega)]
      exact iteF ⟨_, rfl, rfl⟩
    rintro σ H1 ⟨y2, rfl, rfl⟩
    -- lefts
    refine ⟨.ref qa, rfl, qa, rfl, ⟨_, SqL.of hq⟩, fun L nL => ?_⟩
    refine lc_list (K := K) (a := qa) (xs := found.map fun i : Nat => V.int (i : Int)) (fun j H' => Same H1 H' ∧ H' L = some (.lst (((es.map (·.1)).take j).map V.str))) ⟨same_upd nL, upd_same⟩ (fun j H' _ h => SqL.of (h.1 _ _ hq)) ?_ ?_
    · rintro j v H2 hj ⟨s2, hL⟩
      have hj1 : j < found.length := by
        have := (List.getElem?_eq_some_iff.mp hj).1
        rw [List.length_map] at this
        exact this
      obtain rfl : v = .int ((found[j] : Nat) : Int) := by
        rw [List.getElem?_map, List.getElem?_eq_getElem hj1] at hj
        exact (Option.some.inj hj).symm
      obtain ⟨r, p, h1, h2, h3, h4⟩ := rowAt hj1
      refine ⟨rfl, ?_⟩
      unfold tYes
      refine iteT ?_
      refine ⟨.ref a, rfl, _, rfl, a, _, _, _, rfl, rfl, SqL.of (s2 _ _ hA), atI_nat h3, p, _, 0, _, rfl, rfl, SqT.of (s2 _ _ h4), atI_nat (j := 0) rfl, ?_⟩
      refine ⟨_, hL, ?_, s2.later nL, ?_⟩
      · rw [List.length_map, List.length_take]
        exact small1000 (by omega)
      · rw [upd_same, List.take_add_one, List.getElem?_map, h1, List.map_append]
        rfl
    rintro H2 ⟨s2, hL⟩
    rw [List.take_of_length_le (by rw [List.length_map, List.length_map, hlen]; exact Nat.le_refl _)] at hL
    -- rights
    refine ⟨.ref qa, rfl, qa, rfl, ⟨_, SqL.of (s2 _ _ hq)⟩, fun R2 nR => ?_⟩
    refine lc_list (K := K) (a := qa) (xs := found.map fun i : Nat => V.int (i : Int)) (fun j H' => Same H2 H' ∧ H' R2 = some (.lst (((es.map (·.2.1)).take j).map V.str))) ⟨same_upd nR, upd_same⟩ (fun j H' _ h => SqL.of (h.1 _ _ (s2 _ _ hq))) ?_ ?_
    · rintro j v H3 hj ⟨s3, hR⟩
      have hj1 : j < found.length := by
        have := (List.getElem?_eq_some_iff.mp hj).1
        rw [List.length_map] at this
        exact this
      obtain rfl : v = .int ((found[j] : Nat) : Int) := by
        rw [List.getElem?_map, List.getElem?_eq_getElem hj1] at hj
        exact (Option.some.inj hj).symm
      obtain ⟨r, p, h1, h2, h3, h4⟩ := rowAt hj1
      refine ⟨rfl, ?_⟩
      unfold tYes
      refine iteT ?_
      refine ⟨.ref a, rfl, _, rfl, a, _, _, _, rfl, rfl, SqL.of (s3 _ _ (s2 _ _ hA)), atI_nat h3, p, _, 1, _, rfl, rfl, SqT.of (s3 _ _ (s2 _ _ h4)), atI_nat (j := 1) rfl, ?_⟩
      refine ⟨_, hR, ?_, s3.later nR, ?_⟩
      · rw [List.length_map, List.length_take]
        exact small1000 (by omega)
      · rw [upd_same, List.take_add_one, List.getElem?_map, h1, List.map_append]
        rfl
    rintro H3 ⟨s3, hR⟩
    rw [List.take_of_length_le (by rw [List.length_map, List.length_map, hlen]; exact Nat.le_refl _)] at hR
    have hL3 := s3 _ _ hL
    have s13 := s2.trans s3
    -- the comparison
    refine ⟨.ref R2, rfl, .ref L, rfl, 1, rfl, L, _, rfl, SqL.of hL3, fun c1 n1 => ?_⟩
    have sC1 := same_upd (o := HO.lst (cutV ((es.map (·.1)).map V.str) (some 1) none)) n1
    refine ⟨.ref L, rfl, 1, rfl, L, _, rfl, SqL.of (sC1 _ _ hL3), fun c2 n2 => ?_⟩
    have sC2 := same_upd (o := HO.lst (cutV ((es.map (·.1)).map V.str) none (some 1))) n2
    refine ⟨c1, c2, _, _, rfl, rfl, sC2 _ _ upd_same, upd_same, ?_, fun c3 n3 => ?_⟩
    · have a1 := cutV_length ((es.map (·.1)).map V.str) (some 1) none
      have a2 := cutV_length ((es.map (·.1)).map V.str) none (some 1)
      rw [List.length_map, List.length_map] at a1 a2
      exact Nat.le_of_lt (small1000 (by omega))
    have sC3 := same_upd (o := HO.lst (cutV ((es.map (·.1)).map V.str) (some 1) none ++ cutV ((es.map (·.1)).map V.str) none (some 1))) n3
    have ecut : cutV ((es.map (·.1)).map V.str) (some 1) none ++ cutV ((es.map (·.1)).map V.str) none (some 1) = (es.map (·.2.1)).map V.str := by
      have e1 : cutV ((es.map (·.1)).map V.str) (some ((1 : Nat) : Int)) none = ((es.map (·.1)).map V.str).drop 1 := cut_drop (by rw [List.length_map, List.length_map]; omega)
      have e2 : cutV ((es.map (·.1)).map V.str) none (some ((1 : Nat) : Int)) = ((es.map (·.1)).map V.str).take 1 := cut_take
      rw [show (1 : Int) = ((1 : Nat) : Int) from rfl, e1, e2, R.turn, List.map_append, List.map_drop, List.map_take]
    rw [ecut] at sC3 ⊢
    have sAll := (sC1.trans sC2).trans sC3
    have okR : ∀ z ∈ es.map (·.2.1), PyData.strOk z = true := fun z hz => by
      obtain ⟨e, he, rfl⟩ := List.mem_map.mp hz
      exact (hok e (es_rows e he)).2
    refine ⟨strsD (es.map (·.2.1)), strsD (es.map (·.2.1)), .lst (SqL.of (sAll _ _ hR)) (dp_strs _), .lst (SqL.of upd_same) (dp_strs _), shaped_strs okR, shaped_strs okR, _, rfl, ?_⟩
    rw [eqv_strsD]
    refine iteF ?_
    -- as many lefts as there are
    refine ⟨.ref L, rfl, L, es.map (·.1), rfl, SqL.of (sAll _ _ hL3), R.nd, by rw [List.length_map]; omega, fun st nst => ?_⟩
    have sS := same_upd (o := SetSO P w st (es.map (·.1)).length) nst
    refine ⟨st, _, rfl, upd_same, by rw [List.length_map]; omega, fun ss so hss nso => ?_⟩
    have sO := same_upd (o := HO.lst (ss.map V.str)) nso
    have sEnd := (sAll.trans sS).trans sO
    refine ⟨so, _, rfl, .inl (SqL.of upd_same), .ref L, rfl, L, _, rfl, .inl (SqL.of (sEnd _ _ hL3)), rfl, _, rfl, ?_⟩
    rw [decide_eq_true (show V.int (((ss.map V.str).length : Nat) : Int) = V.int ((((es.map (·.1)).map V.str).length : Nat) : Int) by rw [List.length_map, List.length_map, hss])]
    refine iteF ?_
    -- the sum
    have hA' := sEnd _ _ (s13 _ _ hA)
    have hq' := sEnd _ _ (s13 _ _ hq)
    have s1E := s13.trans sEnd
    refine ⟨.ref qa, rfl, qa, rfl, ⟨_, SqL.of hq'⟩, fun D nD => ?_⟩
    refine lc_list (K := K) (a := qa) (xs := found.map fun i : Nat => V.int (i : Int)) (fun j H' => Same H1 H' ∧ H' D = some (.lst (((es.map (·.2.2)).take j).map V.int))) ⟨s1E.trans (same_upd nD), upd_same⟩ (fun j H' _ h => SqL.of (h.1 _ _ hq)) ?_ ?_
    · rintro j v H4 hj ⟨s4, hD⟩
      have hj1 : j < found.length := by
        have := (List.getElem?_eq_some_iff.mp hj).1
        rw [List.length_map] at this
        exact this
      obtain rfl : v = .int ((found[j] : Nat) : Int) := by
        rw [List.getElem?_map, List.getElem?_eq_getElem hj1] at hj
        exact (Option.some.inj hj).symm
      obtain ⟨r, p, h1, h2, h3, h4⟩ := rowAt hj1
      refine ⟨rfl, ?_⟩
      unfold tYes
      refine iteT ?_
      refine ⟨.ref a, rfl, _, rfl, a, _, _, _, rfl, rfl, SqL.of (s4 _ _ hA), atI_nat h3, p, _, 2, _, rfl, rfl, SqT.of (s4 _ _ h4), atI_nat (j := 2) rfl, ?_⟩
      refine ⟨_, hD, ?_, s4.later (s1E.free nD), ?_⟩
      · rw [List.length_map, List.length_take]
        exact small1000 (by omega)
      · rw [upd_same, List.take_add_one, List.getElem?_map, h1, List.map_append]
        rfl
    rintro H4 ⟨s4, hD⟩
    rw [List.take_of_length_le (by rw [List.length_map, List.length_map, hlen]; exact Nat.le_refl _)] at hD
    refine ⟨D, _, rfl, SqL.of hD, _, _, rfl, rfl, ?_⟩
    show Q (V.bl (decide ((es.map (·.2.2)).sum < 0))) H4
    rw [decide_eq_true (show (es.map (·.2.2)).sum < 0 from R.neg)]
    exact q H4 s4
end
end Lo
namespace Lo
open PySem L2
abbrev sRefuses : Stmt := top 29
abbrev sIsChain : Stmt := top 30
section
variable {P : Program} {w : World} {K : PySem.W.Frag} {mg : Str → Option Value} {base : Heap}
/-! ### _law_is_chain -/
def spIsChain : Sp := fun vs H Q _ => ∃ (a q : Addr) (left right : Str) (k : Int) (rows : List SRow) (l : List Nat), vs = [.ref a, .ref q, .str left, .str right, .int k] ∧ Sys RowT H a rows ∧ rows.length ≤ 60 ∧
  H q = some (.lst (l.reverse.map fun j : Nat => V.int (j : Int))) ∧ Chain rows left right k l ∧ ∀ H', Same H H' → Q (.bl true) H'
abbrev nIsChain : List Str := ["_law_system_here", "_law_found", "_law_left", "_law_right_here", "_law_limit", "_law_at", "_law_worth_here", "_law_place"]
theorem scIsChain : FnScope nIsChain ["_law_system_here", "_law_found", "_law_left", "_law_right_here", "_law_limit"] (defScope sIsChain) := ⟨rfl, rfl, rfl, by decide +kernel, rfl, by decide +kernel, by decide +kernel⟩
theorem ok_ischain {f fN : Addr} {fd fdN : FuncData} (F : Fun K "_law_is_chain" "_law_is_chain" sIsChain f fd) (T : Blt mg) (U : Blt2 mg)
    (GN : FnOk P w K mg base CX0 1 fN fdN ["_law_thing"] spWhole) (kN : PySem.W.keepIn K (.ref fN) = true) (bN : Binds K fdN ["_law_thing"] []) (gN : mg "_law_is_number" = some (.ref fN)) :
    FnOk P w K mg base CX0 2 f fd ["_law_system_here", "_law_found", "_law_left", "_law_right_here", "_law_limit"] spIsChain := by
  refine F.ok scIsChain (fun vs H Q E h => ?_) (fun cdv A outer s H vs Q E hr h => ?_)
  · obtain ⟨a, q, left, right, k, rows, l, rfl, _⟩ := h
    rfl
  · obtain ⟨a, qa, left, right, k, rows, l, rfl, ⟨ps, hA, hl, hat⟩, h60, hq, hch, q⟩ := h
    have nd := scIsChain.nd
    refine ⟨_, pss_cons (ps_if (PW.pt (pw_or (pt_not (pt_val (pe_callB call_isi (by rfl) T.isi PyProof.Rows.boot_isinstance (pa_cons (pv 1) (pa_cons (pe_bltn (v := .ty "list") rfl T.list PyProof.Rows.boot_list rfl) pa_nil)))))
          (pw_or1 (pt_cmpR op_ne (pe_callB call_len_seq (by rfl) T.len PySem.boot_len (pa_cons (pe_callB (cr_sortedM rfl) (by rfl) U.sorted PyProof.Rows.boot_sorted (pa_cons (pe_callTy (cr_setI rfl) (by rfl) U.set PyProof.Rows.boot_set (pa_cons (pv 1) pa_nil)) pa_nil)) pa_nil))
            (pe_callB call_len_seq (by rfl) T.len PySem.boot_len (pa_cons (pv 1) pa_nil)) (nomark _))))) (pss_one (ps_ret pe_bl)) pss_nil)
      (pss_cons (ps_par (i := 5) (j := 6) rfl nd rfl rfl (by decide) rfl rfl (pa_cons (pv 2) (pa_cons pe_int pa_nil)) (by rfl))
      (pss_cons (ps_for PassesOwn.never rfl (pi_list (pv 1)) (pg_name (i := 7) nd rfl (.inl rfl))
        (pss_cons (ps_if (PW.pt (pw_or (pt_not (pt_val (pe_call GN hr (by rfl) gN kN bN .nil pass0 (pa_cons (pv 7) pa_nil))))
          (pw_or (pt_not (pt_chain op_le op_lt pe_int (pv 7) (pe_callB call_len_seq (by rfl) T.len PySem.boot_len (pa_cons (pv 0) pa_nil))))
          (pw_or1 (pt_cmpR op_ne (pe_ix (r := rIxT K) ix_tup (pe_ix (r := rIxL K) ix_list (pv 0) (pv 7) (fun _ _ => rfl)) pe_int (fun _ _ => rfl)) (pv 5) (nomark _)))))) (pss_one (ps_ret pe_bl)) pss_nil)
        (pss_one (ps_par (i := 5) (j := 6) rfl nd rfl rfl (by decide) rfl rfl (pa_cons (pe_ix (r := rIxT K) ix_tup (pe_ix (r := rIxL K) ix_list (pv 0) (pv 7) (fun _ _ => rfl)) pe_int (fun _ _ => rfl))
          (pa_cons (pe_op op_add (pv 6) (pe_ix (r := rIxT K) ix_tup (pe_ix (r := rIxL K) ix_list (pv 0) (pv 7) (fun _ _ => rfl)) pe_int (fun _ _ => rfl))) pa_nil)) (by rfl)))))
      (pss_one (ps_ret (pe_and (pe_cmpR op_eq (pv 5) (pv 3) (nomark _)) (pe_one (pe_cmpR op_eq (pv 6) (pv 4) (nomark _)))))))), ?_⟩
    have few := chain_few hch
    obtain ⟨hnd, hlt, hpath⟩ := hch
    generalize hL : l.reverse = L at hq hpath
    have Llen : L.length = l.length := by rw [← hL, List.length_reverse]
    have Lnd : L.Nodup := by
      rw [← hL]
      exact List.pairwise_reverse.mpr (hnd.imp fun h => h.symm)
    have emap : (L.map fun j : Nat => V.int (j : Int)) = (L.map fun j : Nat => (j : Int)).map V.int := by rw [List.map_map]; rfl
    have Ind : (L.map fun j : Nat => (j : Int)).Nodup := List.pairwise_map.mpr (Lnd.imp fun h e => h (Int.ofNat.inj e))
    refine ⟨_, rfl, _, _, _, _, true, rfl, .ty _, .base (.lst hq), kit_ty (by decide +kernel), true, rfl, iteF ?_⟩
    refine ⟨.ref qa, rfl, qa, L.map fun j : Nat => (j : Int), rfl, by rw [← emap]; exact SqL.of hq, Ind, by rw [List.length_map]; omega, fun st nst => ?_⟩
    have sS := same_upd (o := SetIO P w st (L.map fun j : Nat => (j : Int)).length) nst
    refine ⟨st, _, rfl, upd_same, by rw [List.length_map]; omega, fun ns so hns nso => ?_⟩
    have sO := same_upd (o := HO.lst (ns.map V.int)) nso
    have s1 := sS.trans sO
    refine ⟨so, _, rfl, .inl (SqL.of upd_same), .ref qa, rfl, qa, _, rfl, .inl (SqL.of (s1 _ _ hq)), rfl, _, rfl, ?_⟩
    rw [decide_eq_true (show V.int (((ns.map V.int).length : Nat) : Int) = V.int (((L.map fun j : Nat => V.int (j : Int)).length : Nat) : Int) by rw [List.length_map, List.length_map, hns, List.length_map])]
    refine iteF ?_
    refine ⟨.str left, rfl, _, _, rfl, ?_⟩
    have hA1 := s1 _ _ hA
    have hq1 := s1 _ _ hq
    refine ⟨.ref qa, rfl, qa, rfl, ⟨_, SqL.of hq1⟩, for_list (K := K) (a := qa) (xs := L.map fun j : Nat => V.int (j : Int)) (fun i σ H' => ∃ (x : Str) (c : Int) (y7 : Option V), σ = [some (.ref a), some (.ref qa), some (.str left), some (.str right), some (.int k), some (.str x), some (.int c), y7] ∧ Same H H' ∧ Path rows x (L.drop i) right (k - c))
      ⟨left, 0, none, rfl, s1, by rw [List.drop_zero, Int.sub_zero]; exact hpath⟩ (fun i σ H' _ ⟨_, _, _, _, e, _⟩ => SqL.of (e _ _ hq)) ?_ ?_⟩
    · rintro i v σ H2 hi ⟨x, c, y7, rfl, s2, hp⟩
      have hi1 : i < L.length := by
        have := (List.getElem?_eq_some_iff.mp hi).1
        rw [List.length_map] at this
        exact this
      obtain rfl : v = .int ((L[i] : Nat) : Int) := by
        rw [List.getElem?_map, List.getElem?_eq_getElem hi1] at hi
        exact (Option.some.inj hi).symm
      rw [List.drop_eq_getElem_cons hi1] at hp
      obtain ⟨m, d, s', hrow, hp', hs⟩ : ∃ (m : Str) (d s' : Int), rows[L[i]]? = some (x, m, d) ∧ Path rows m (L.drop (i + 1)) right s' ∧ k - c = d + s' := by
        generalize hkc : k - c = kc at hp
        cases hp with
        | @cons _ m _ j d s' _ h1 h2 => exact ⟨m, d, s', h1, h2, rfl⟩
      have hj := (List.getElem?_eq_some_iff.mp hrow).1
      have hjp : L[i] < ps.length := by
        rw [hl]
        exact hj
      have hpp : (ps.map V.ref)[L[i]]? = some (.ref ps[L[i]]) := by rw [List.getElem?_map, List.getElem?_eq_getElem hjp]; rfl
      have hA2 := s2 _ _ hA
      have hR := s2 _ _ (hat L[i] _ _ (List.getElem?_eq_getElem hjp) hrow)
      refine ⟨_, rfl, _, rfl, true, rfl, iteF ?_⟩
      refine ⟨_, rfl, _, _, rfl, rfl, _, rfl, ?_⟩
      rw [decide_eq_true (show (0 : Int) ≤ ((L[i] : Nat) : Int) by omega)]
      refine iteT ⟨.ref a, rfl, a, _, rfl, .inl (SqL.of hA2), _, _, rfl, rfl, _, rfl, ?_⟩
      rw [decide_eq_true (show ((L[i] : Nat) : Int) < (((ps.map V.ref).length : Nat) : Int) by rw [List.length_map]; omega)]
      refine iteF ?_
      refine ⟨.ref a, rfl, _, rfl, a, _, _, _, rfl, rfl, SqL.of hA2, atI_nat hpp, ps[L[i]], _, 0, _, rfl, rfl, SqT.of hR, atI_nat (j := 0) rfl, .str x, rfl, rfl, _, rfl, ?_⟩
      rw [decide_eq_true (show V.str x = V.str x from rfl)]
      refine iteF ?_
      refine ⟨.ref a, rfl, _, rfl, a, _, _, _, rfl, rfl, SqL.of hA2, atI_nat hpp, ps[L[i]], _, 1, _, rfl, rfl, SqT.of hR, atI_nat (j := 1) rfl, ?_⟩
      refine ⟨_, rfl, .ref a, rfl, _, rfl, a, _, _, _, rfl, rfl, SqL.of hA2, atI_nat hpp, ps[L[i]], _, 2, _, rfl, rfl, SqT.of hR, atI_nat (j := 2) rfl, _, _, rfl, rfl, _, _, rfl, ?_⟩
      exact ⟨m, c + d, _, rfl, s2, by rw [show k - (c + d) = s' by omega]; exact hp'⟩
    · rintro σ H2 ⟨x, c, y7, rfl, s2, hp⟩
      rw [List.length_map, List.drop_length] at hp
      obtain ⟨rfl, hk⟩ : x = right ∧ k - c = 0 := by
        generalize hkc : k - c = kc at hp
        cases hp with
        | nil => exact ⟨rfl, rfl⟩
      obtain rfl : k = c := by omega
      refine ⟨_, rfl, _, rfl, rfl, ?_⟩
      rw [decide_eq_true (show V.str x = V.str x from rfl)]
      refine ⟨_, rfl, iteT ⟨_, rfl, _, rfl, rfl, ?_⟩⟩
      rw [decide_eq_true (show V.int k = V.int k from rfl)]
      exact q _ s2
end
end Lo
namespace Lo
open PySem L2
section
variable {X : Cx} {CX : CXT} {i k : Nat} {f1 f2 : Addr} {fd1 fd2 : FuncData} {ps : List Str} {sp : Sp} {E : L2.St → XK} {x : Str} {p pos : Pos} {e : Expr} {es : List Expr} {t : TA}
/-- a local that holds one of two defs of one promise, called; the defs may raise -/
def tTwo (i : Nat) (f1 f2 : Addr) (sp : Sp) (E : L2.St → XK) (t : TA) : TE := fun σ H Q => (σ[i]? = some (some (.ref f1)) ∨ σ[i]? = some (some (.ref f2))) ∧ t σ H fun vs H1 => sp vs H1 Q (E σ)
theorem pe_two (F1 : FnOk X.prog X.w X.K X.mg X.base CX k f1 fd1 ps sp) (F2 : FnOk X.prog X.w X.K X.mg X.base CX k f2 fd2 ps sp) (room : Room k X.A) (kp1 : PySem.W.keepIn X.K (.ref f1) = true) (kp2 : PySem.W.keepIn X.K (.ref f2) = true)
    (b1 : Binds X.K fd1 ps []) (b2 : Binds X.K fd2 ps []) (out : ∀ σ, PassesAt CX X σ (E σ)) (hN : X.N[i]? = some x) (vis : Vis X.env.scope x) (args : PA X (e :: es) t)
    (g1 : (x == ("__debug__" : Str)) = false := by decide) (g2 : (x == ("__classdict__" : Str)) = false := by decide)
    (g3 : starEach (e :: es) X.env = (false, eval e X.env) :: starEach es X.env := by rfl) (g4 : (backTo pos (starEach es X.env)).any (·.1) = false := by rfl) :
    PE X (.Call (.Name x p) (e :: es) [] pos) (tTwo i f1 f2 sp E t) := by
  constructor
  intro pins s σ H Q I ⟨which, ht⟩
  have both : ∀ {f : Addr} {fd : FuncData}, FnOk X.prog X.w X.K X.mg X.base CX k f fd ps sp → PySem.W.keepIn X.K (.ref f) = true → Binds X.K fd ps [] → σ[i]? = some (some (.ref f)) →
      wpAny (model X.prog X.w) X.A (eval (.Call (.Name x p) (e :: es) [] pos) X.env) (EP X pins σ Q) X.xe s := by
    intro f fd G kp bd slot
    apply wpAny_Call_Name_kw
    have rd := (pe_var (pos := p) hN vis g1 g2).run pins s σ H (fun v H1 => v = .ref f ∧ H1 = H) I ⟨.ref f, slot, rfl, rfl⟩
    refine thn rd ?_
    rintro u s1 ⟨v, H1, J, rv, rfl, rfl⟩
    cases rv
    have run := args.run pos pins s1 σ _ _ J ht
    refine PySem.W.callWith_K (h₀ := X.base) J.ok.mod.kin kp (thn run ?_) g3 g4
    rintro us s2 ⟨vs, H2, J2, rs, hq⟩
    exact ⟨J2.kIn, run_fnS G room bd (out σ) J2 rs hq⟩
  rcases which with h | h
  · exact both F1 kp1 b1 h
  · exact both F2 kp2 b2 h
end
section
variable {P : Program} {w : World} {K : PySem.W.Frag} {mg : Str → Option Value} {base : Heap}
/-! ### _law_refuses -/
def spRefuses : Sp := fun vs H Q _ => ∃ (a : Addr) (left right : Str) (rows : List SRow), vs = [.ref a, .str left, .str right] ∧ Sys RowA H a rows ∧ Good rows ∧ left ≠ ("" : Str) ∧ right ≠ ("" : Str) ∧ (∀ v, ¬ Sat rows v) ∧
  ∀ H', Same H H' → Q (.bl true) H'
/-- one of the two is asked; its refusal is caught -/
def tAsk (K : PySem.W.Frag) (C fT fC : Addr) : TS := fun D σ H =>
  tSeq (tDrop (tTwo 3 fT fC (spRefuse C) (WE (wOnly K (.ref C) (fun _ _ _ => tNext) (fun _ _ _ _ => False) D)) (tCons (tVar 0) (tCons (tVar 1) (tCons (tVar 2) tNil))))) (tRet (tC (.bl false))) D σ H
abbrev nRefuses : List Str := ["_law_system_here", "_law_left", "_law_right_here", "_law_asked"]
theorem scRefuses : FnScope nRefuses ["_law_system_here", "_law_left", "_law_right_here"] (defScope sRefuses) := ⟨rfl, rfl, rfl, by decide +kernel, rfl, by decide +kernel, by decide +kernel⟩
theorem ok_refuses {C f fT fC : Addr} {fd fdT fdC : FuncData} (F : Fun K "_law_refuses" "_law_refuses" sRefuses f fd) (N : Err K mg "NoSolution" C)
    (GT : FnOk P w K mg base (L2.CX P w) 5 fT fdT ["system", "left", "right"] (spRefuse C)) (kT : PySem.W.keepIn K (.ref fT) = true) (bT : Binds K fdT ["system", "left", "right"] []) (gT : mg "tight" = some (.ref fT))
    (GC : FnOk P w K mg base (L2.CX P w) 5 fC fdC ["system", "left", "right"] (spRefuse C)) (kC : PySem.W.keepIn K (.ref fC) = true) (bC : Binds K fdC ["system", "left", "right"] []) (gC : mg "chain" = some (.ref fC)) :
    FnOk P w K mg base CX0 6 f fd ["_law_system_here", "_law_left", "_law_right_here"] spRefuses := by
  refine F.ok scRefuses (fun vs H Q E h => ?_) (fun cdv A outer s H vs Q E hr h => ?_)
  · obtain ⟨a, left, right, rows, rfl, _⟩ := h
    rfl
  · obtain ⟨a, left, right, rows, rfl, hS, g, hl, hrt, hv, q⟩ := h
    have nd := scRefuses.nd
    refine ⟨_, pss_cons (ps_for PassesOwn.never rfl (pi_tup (pe_tup (pa_cons (pe_glob (v := .ref fT) (by rfl) gT rfl) (pa_cons (pe_glob (v := .ref fC) (by rfl) gC rfl) pa_nil)))) (pg_name (i := 3) nd rfl (.inl rfl))
        (pss_one (t := tAsk K C fT fC) (ps_try_only (tb := fun W => tSeq (tDrop (tTwo 3 fT fC (spRefuse C) (WE W) (tCons (tVar 0) (tCons (tVar 1) (tCons (tVar 2) tNil))))) (tRet (tC (.bl false)))) (ts := fun _ _ _ => tNext) (Wout := fun _ _ _ _ => False) rfl rfl ⟨rfl, by decide, .inl N.g⟩ takes0
          (fun W pn xe tk _ => pss_cons (ps_expr (pe_two GT GC hr kT kC bT bC (fun σ => passAt tk σ) rfl (.inl rfl) (by exact (pa_cons (pv 0) (pa_cons (pv 1) (pa_cons (pv 2) pa_nil)))))) (pss_one (ps_ret pe_bl)))
          (fun _ _ _ _ _ _ _ => pss_one ps_pass))))
      (pss_one (ps_ret pe_bl)), ?_⟩
    refine ⟨by show 2 ≤ sizeLine; decide, fun t nt => ?_⟩
    have s1 : Same H (upd H t (.tup [.ref fT, .ref fC])) := same_upd nt
    refine ⟨t, rfl, ⟨_, SqT.of upd_same⟩, for_tup (K := K) (a := t) (xs := [.ref fT, .ref fC]) (fun i σ H' => ∃ y : Option V, σ = [some (.ref a), some (.str left), some (.str right), y] ∧ Same (upd H t (.tup [.ref fT, .ref fC])) H') ⟨none, rfl, Same.refl _⟩
      (fun i σ H' _ ⟨_, _, e⟩ => SqT.of (e _ _ upd_same)) ?_ ?_⟩
    · rintro i x σ H2 hi ⟨y, rfl, s2⟩
      have hx : x = .ref fT ∨ x = .ref fC := by
        match i, hi with
        | 0, hi => exact .inl (Option.some.inj hi).symm
        | 1, hi => exact .inr (Option.some.inj hi).symm
      have s12 := s1.trans s2
      refine ⟨?_, .ref a, rfl, .str left, rfl, .str right, rfl, a, left, right, rows, rfl, hS.sameA s12, g, hl, hrt, hv, fun H3 s3 => ?_⟩
      · rcases hx with rfl | rfl
        · exact .inl rfl
        · exact .inr rfl
      · exact ⟨true, N.e, fun _ a0 _ => ⟨_, rfl, s2.trans s3⟩, fun q => Bool.noConfusion q⟩
    · rintro σ H2 ⟨y, rfl, s2⟩
      exact q H2 (s1.trans s2)
end
end Lo
namespace Lo
open PySem L2
abbrev sRight : Stmt := top 31
/-- a row is put behind a system, in a new list -/
theorem sys_more {H : Hp} {a t o dn : Addr} {rows : List SRow} {ps : List Addr} {r : SRow} (hA : H a = some (.lst (ps.map V.ref))) (hl : ps.length = rows.length) (hat : ∀ (i : Nat) (p : Addr) (r : SRow), ps[i]? = some p → rows[i]? = some r → RowT H p r)
    (nt : H t = none) (no : upd H t (.tup (rowV r)) o = none) (nd : upd (upd H t (.tup (rowV r))) o (.lst [V.ref t]) dn = none) :
    Same H (upd (upd (upd H t (.tup (rowV r))) o (.lst [V.ref t])) dn (.lst (ps.map V.ref ++ [V.ref t]))) ∧ Sys RowT (upd (upd (upd H t (.tup (rowV r))) o (.lst [V.ref t])) dn (.lst (ps.map V.ref ++ [V.ref t]))) dn (rows ++ [r]) := by
  have sT := same_upd (o := HO.tup (rowV r)) nt
  have sO := same_upd (o := HO.lst [V.ref t]) no
  have sD := same_upd (o := HO.lst (ps.map V.ref ++ [V.ref t])) nd
  have s3 := (sT.trans sO).trans sD
  refine ⟨s3, ps ++ [t], by rw [upd_same, List.map_append]; rfl, by rw [List.length_append, List.length_append, hl]; rfl, fun j pj rj hp hr' => ?_⟩
  by_cases k : j < rows.length
  · rw [List.getElem?_append_left (by omega)] at hp hr'
    exact (hat j pj rj hp hr').same s3
  · have hj2 : j = rows.length := by
      have := (List.getElem?_eq_some_iff.mp hp).1
      rw [List.length_append, List.length_singleton] at this
      omega
    subst hj2
    rw [List.getElem?_append_right (by omega), hl, Nat.sub_self] at hp
    rw [List.getElem?_append_right (by omega), Nat.sub_self] at hr'
    have e1 : t = pj := Option.some.inj hp
    have e2 := Option.some.inj hr'
    subst e1 e2
    exact sD _ _ (sO _ _ upd_same)
theorem good_more {rows : List SRow} {r : SRow} (g : Good rows) (h : rows.length ≤ 50) (g1 : Good1 r) : Good (rows ++ [r]) := by
  refine ⟨fun r' hr' => ?_, by rw [List.length_append, List.length_singleton]; omega⟩
  rcases List.mem_append.mp hr' with k | k
  · exact g.row r' k
  · rw [List.mem_singleton] at k
    subst k
    exact g1
section
variable {P : Program} {w : World} {K : PySem.W.Frag} {mg : Str → Option Value} {base : Heap}
/-! ### _law_right -/
def spRight : Sp := fun vs H Q _ => ∃ (a : Addr) (left right : Str) (far : Int) (rows : List SRow) (v : Str → Int), vs = [.ref a, .str left, .str right, .int far] ∧ Sys RowT H a rows ∧ Good rows ∧ (∀ r ∈ rows, OkR r) ∧ rows.length ≤ 25 ∧
  left ≠ ("" : Str) ∧ right ≠ ("" : Str) ∧ PyData.strOk left = true ∧ PyData.strOk right = true ∧ Sat rows v ∧ ∀ H', Same H H' → Q (.bl true) H'
abbrev nRight : List Str := ["_law_system_here", "_law_left", "_law_right_here", "_law_far", "_law_limit", "_law_more", "_law_point", "_law_beyond"]
theorem scRight : FnScope nRight ["_law_system_here", "_law_left", "_law_right_here", "_law_far"] (defScope sRight) := ⟨rfl, rfl, rfl, by decide +kernel, rfl, by decide +kernel, by decide +kernel⟩
abbrev sy3 : List Str := ["system", "left", "right"]
abbrev lsy5 : List Str := ["_law_system_here", "_law_found", "_law_left", "_law_right_here", "_law_limit"]
theorem ok_right {f fT fC fN fS fO fH fG fR : Addr} {fd fdT fdC fdN fdS fdO fdH fdG fdR : FuncData} (F : Fun K "_law_right" "_law_right" sRight f fd)
    (GT : FnOk P w K mg base CX0 5 fT fdT sy3 spTight) (kT : PySem.W.keepIn K (.ref fT) = true) (bT : Binds K fdT sy3 []) (gT : mg "tight" = some (.ref fT))
    (GC : FnOk P w K mg base CX0 5 fC fdC sy3 spChain) (kC : PySem.W.keepIn K (.ref fC) = true) (bC : Binds K fdC sy3 []) (gC : mg "chain" = some (.ref fC))
    (GN : FnOk P w K mg base CX0 1 fN fdN ["_law_thing"] spWhole) (kN : PySem.W.keepIn K (.ref fN) = true) (bN : Binds K fdN ["_law_thing"] []) (gN : mg "_law_is_number" = some (.ref fN))
    (GS : FnOk P w K mg base CX0 4 fS fdS ["system"] spSolution) (kS : PySem.W.keepIn K (.ref fS) = true) (bS : Binds K fdS ["system"] []) (gS : mg "solution" = some (.ref fS))
    (GO : FnOk P w K mg base CX0 2 fO fdO ["_law_system_here", "_law_point"] spSolves) (kO : PySem.W.keepIn K (.ref fO) = true) (bO : Binds K fdO ["_law_system_here", "_law_point"] []) (gO : mg "_law_solves" = some (.ref fO))
    (GH : FnOk P w K mg base CX0 2 fH fdH lsy5 spIsChain) (kH : PySem.W.keepIn K (.ref fH) = true) (bH : Binds K fdH lsy5 []) (gH : mg "_law_is_chain" = some (.ref fH))
    (GG : FnOk P w K mg base CX0 1 fG fdG ["_law_system_here", "_law_found"] spIsRing) (kG : PySem.W.keepIn K (.ref fG) = true) (bG : Binds K fdG ["_law_system_here", "_law_found"] []) (gG : mg "_law_is_ring" = some (.ref fG))
    (GR : FnOk P w K mg base CX0 4 fR fdR ["system"] spRing) (kR : PySem.W.keepIn K (.ref fR) = true) (bR : Binds K fdR ["system"] []) (gR : mg "ring" = some (.ref fR)) :
    FnOk P w K mg base CX0 6 f fd ["_law_system_here", "_law_left", "_law_right_here", "_law_far"] spRight := by
  refine F.ok scRight (fun vs H Q E h => ?_) (fun cdv A outer s H vs Q E hr h => ?_)
  · obtain ⟨a, left, right, far, rows, v, rfl, _⟩ := h
    rfl
  · obtain ⟨a, left, right, far, rows, v, rfl, hS, g, hok, h25, hl0, hr0, okl, okr, hv, q⟩ := h
    have nd := scRight.nd
    have r1 := hr.mono (show 1 ≤ 5 by decide)
    have r2 := hr.mono (show 2 ≤ 5 by decide)
    have r4 := hr.mono (show 4 ≤ 5 by decide)
    refine ⟨_, pss_cons (ps_set (i := 4) nd rfl (.inl rfl) (pe_call GT hr (by rfl) gT kT bT .nil pass0 (pa_cons (pv 0) (pa_cons (pv 1) (pa_cons (pv 2) pa_nil)))))
      (pss_cons (ps_if (pt_cmpR op_eq (pv 1) (pv 2) (nomark _)) (pss_one (ps_ret (pe_and (pe_cmpR op_eq (pv 4) pe_int (nomark _)) (pe_and (pe_call GN r1 (by rfl) gN kN bN .nil pass0 (pa_cons (pv 4) pa_nil))
          (pe_one (pe_cmpR (op_eqD hr.units) (pe_call GC hr (by rfl) gC kC bC .nil pass0 (pa_cons (pv 0) (pa_cons (pv 1) (pa_cons (pv 2) pa_nil)))) (pe_lst pa_nil) (nomark _))))))) pss_nil)
      (pss_cons (ps_if (pt_cmpR op_isN (pv 4) pe_non (nomark _))
        (pss_cons (ps_set (i := 5) nd rfl (.inl rfl) (pe_op op_cat (pv 0) (pe_lst (pa_cons (pe_tup (pa_cons (pv 2) (pa_cons (pv 1) (pa_cons (pe_op op_sub pe_int (pv 3)) pa_nil)))) pa_nil))))
        (pss_cons (ps_set (i := 6) nd rfl (.inl rfl) (pe_call GS r4 (by rfl) gS kS bS .nil pass0 (pa_cons (pv 5) pa_nil)))
        (pss_one (ps_ret (pe_and (pe_cmpR op_isN (pe_call GC hr (by rfl) gC kC bC .nil pass0 (pa_cons (pv 0) (pa_cons (pv 1) (pa_cons (pv 2) pa_nil)))) pe_non (nomark _)) (pe_and (pe_cmpR op_notN (pv 6) pe_non (nomark _))
          (pe_one (pe_call GO r2 (by rfl) gO kO bO .nil pass0 (pa_cons (pv 5) (pa_cons (pv 6) pa_nil)))))))))) pss_nil)
      (pss_cons (ps_if (PW.pt (pw_or (pt_not (pt_val (pe_call GN r1 (by rfl) gN kN bN .nil pass0 (pa_cons (pv 4) pa_nil))))
          (pw_or1 (pt_not (pt_val (pe_call GH r2 (by rfl) gH kH bH .nil pass0 (pa_cons (pv 0) (pa_cons (pe_call GC hr (by rfl) gC kC bC .nil pass0 (pa_cons (pv 0) (pa_cons (pv 1) (pa_cons (pv 2) pa_nil)))) (pa_cons (pv 1) (pa_cons (pv 2) (pa_cons (pv 4) pa_nil)))))))))))
        (pss_one (ps_ret pe_bl)) pss_nil)
      (pss_cons (ps_set (i := 5) nd rfl (.inl rfl) (pe_op op_cat (pv 0) (pe_lst (pa_cons (pe_tup (pa_cons (pv 2) (pa_cons (pv 1) (pa_cons (pe_op op_sub pe_int (pv 4)) pa_nil)))) pa_nil))))
      (pss_cons (ps_set (i := 6) nd rfl (.inl rfl) (pe_call GS r4 (by rfl) gS kS bS .nil pass0 (pa_cons (pv 5) pa_nil)))
      (pss_cons (ps_set (i := 7) nd rfl (.inl rfl) (pe_op op_cat (pv 0) (pe_lst (pa_cons (pe_tup (pa_cons (pv 2) (pa_cons (pv 1) (pa_cons (pe_op op_sub (pe_op op_sub pe_int (pv 4)) pe_int) pa_nil)))) pa_nil))))
      (pss_one (ps_ret (pe_and (pe_cmpR op_notN (pv 6) pe_non (nomark _)) (pe_and (pe_call GO r2 (by rfl) gO kO bO .nil pass0 (pa_cons (pv 5) (pa_cons (pv 6) pa_nil)))
        (pe_one (pe_call GG r1 (by rfl) gG kG bG .nil pass0 (pa_cons (pv 7) (pa_cons (pe_call GR r4 (by rfl) gR kR bR .nil pass0 (pa_cons (pv 7) pa_nil)) pa_nil)))))))))))))), ?_⟩
    refine ⟨.ref a, rfl, .str left, rfl, .str right, rfl, a, left, right, rows, v, rfl, hS.any, g, hl0, hr0, hv, fun H1 b s1 B => ?_⟩
    refine ⟨.str left, rfl, .str right, rfl, rfl, _, rfl, ite2 (fun e => ?_) (fun e => ?_)⟩
    · -- the sides alike
      have e := V.str.inj (of_decide_eq_true e)
      subst e
      have eb := best_self hv B
      subst eb
      refine ⟨_, rfl, rfl, ?_⟩
      rw [decide_eq_true (show optV (some 0) = V.int 0 from rfl)]
      refine ⟨_, rfl, iteT ⟨_, rfl, _, rfl, ?_⟩⟩
      refine ⟨true, rfl, iteT ⟨.ref a, rfl, .str left, rfl, .str left, rfl, a, left, left, rows, v, rfl, hS.any.sameA s1, g, hl0, hr0, hv, fun H2 b2 r s2 B2 C => ?_⟩⟩
      have eb := best_self hv B2
      subst eb
      rcases C with ⟨z, _⟩ | ⟨k, l, qa, _, rfl, hq, _, self⟩
      · cases z
      have el := self rfl
      subst el
      refine ⟨Nat.zero_le _, fun z nz => ?_⟩
      have sZ := same_upd (o := HO.lst []) nz
      exact ⟨.list [], .list [], .lst (SqL.of (sZ _ _ hq)) .nil, .lst (SqL.of upd_same) .nil, PySem.W.ke_shaped_ints [], PySem.W.ke_shaped_ints [], q _ ((s1.trans s2).trans sZ)⟩
    · have nlr : left ≠ right := fun z => e (decide_eq_true (by rw [z]))
      have g1 : ∀ c : Int, Good1 (right, left, c) := fun c => ⟨nlr.symm, hr0, hl0⟩
      have hS1 := hS.sameT s1
      obtain ⟨ps, hA, hl, hat⟩ := hS.sameT s1
      have hsz : (ps.map V.ref).length + [V.ref 0].length ≤ sizeLine := by
        rw [List.length_map, hl]
        exact Nat.le_of_lt (small1000 (by show rows.length + 1 ≤ 1000; omega))
      cases b with
      | none =>
        refine ⟨_, rfl, rfl, _, rfl, iteT ?_⟩
        refine ⟨.ref a, rfl, .str right, rfl, .str left, rfl, _, rfl, _, _, rfl, rfl, by show 3 ≤ sizeLine; decide, fun t nt => ⟨by show 1 ≤ sizeLine; decide, fun o no => ?_⟩⟩
        have sTO := (same_upd (o := HO.tup (rowV (right, left, 0 - far))) nt).trans (same_upd (o := HO.lst [V.ref t]) no)
        refine ⟨a, o, _, _, rfl, rfl, sTO _ _ hA, upd_same, hsz, fun dn ndn => ?_⟩
        obtain ⟨s2, hM⟩ := sys_more (r := (right, left, 0 - far)) hA hl hat nt no ndn
        have gM := good_more g (by omega) (g1 (0 - far))
        obtain ⟨u, hu⟩ := best_far B far
        refine ⟨.ref dn, rfl, dn, _, rfl, hM.any, gM, fun H3 y s3 hy => ?_⟩
        rcases hy with ⟨rfl, no⟩ | ⟨d, ks, val, rfl, hP, _, _, hk, hs⟩
        · exact absurd hu (no u)
        have s23 := s2.trans s3
        refine ⟨.ref a, rfl, .str left, rfl, .str right, rfl, a, left, right, rows, v, rfl, (hS1.sameT s23).any, g, hl0, hr0, hv, fun H4 b2 r s4 B2 C => ?_⟩
        have eb : b2 = none := by
          cases b2 with
          | none => rfl
          | some k => exact absurd (B2.1 k rfl) (B.2 k fun k e => nomatch e)
        subst eb
        rcases C with ⟨_, rfl⟩ | ⟨k, _, _, z, _⟩
        · refine ⟨rfl, _, rfl, iteT ⟨.ref d, rfl, rfl, _, rfl, iteT ?_⟩⟩
          exact ⟨.ref dn, rfl, .ref d, rfl, dn, d, _, ks, val, rfl, hM.sameT (s3.trans s4), s4 _ _ hP, fun x h1 h2 => (hk x).mpr ⟨h1, h2⟩, hs, q H4 ((s1.trans s23).trans s4)⟩
        · cases z
      | some k =>
        refine ⟨_, rfl, rfl, _, rfl, iteF ?_⟩
        refine ⟨_, rfl, _, rfl, true, rfl, iteF ?_⟩
        refine ⟨.ref a, rfl, .ref a, rfl, .str left, rfl, .str right, rfl, a, left, right, rows, v, rfl, hS1.any, g, hl0, hr0, hv, fun H2 b2 r s2 B2 C => ?_⟩
        have hu1 := B.1 k rfl
        obtain ⟨k2, l, qa, rfl, rfl, hq, hch, _⟩ : ∃ (k2 : Int) (l : List Nat) (qa : Addr), b2 = some k2 ∧ r = .ref qa ∧ H2 qa = some (.lst (l.reverse.map fun j : Nat => V.int (j : Int))) ∧ Chain rows left right k2 l ∧ (left = right → l = []) := by
          rcases C with ⟨z, _⟩ | h
          · subst z
            exact absurd hu1 (B2.2 k fun k e => nomatch e)
          · exact h
        obtain rfl : k2 = k := by
          have h1 : ¬ k2 < k := fun z => B.2 k2 (fun k' e => by injection e with e; omega) (B2.1 k2 rfl)
          have h2 : ¬ k < k2 := fun z => B2.2 k (fun k' e => by injection e with e; omega) hu1
          omega
        have s12 := s1.trans s2
        refine ⟨.str left, rfl, .str right, rfl, .int k2, rfl, a, qa, left, right, k2, rows, l, rfl, hS1.sameT s2, by omega, hq, hch, fun H3 s3 => ⟨true, rfl, iteF ?_⟩⟩
        have s13 := s12.trans s3
        have hS3 := hS.sameT s13
        obtain ⟨ps, hA, hl, hat⟩ := hS.sameT s13
        refine ⟨.ref a, rfl, .str right, rfl, .str left, rfl, _, rfl, _, _, rfl, rfl, by show 3 ≤ sizeLine; decide, fun t nt => ⟨by show 1 ≤ sizeLine; decide, fun o no => ?_⟩⟩
        have sTO := (same_upd (o := HO.tup (rowV (right, left, 0 - k2))) nt).trans (same_upd (o := HO.lst [V.ref t]) no)
        refine ⟨a, o, _, _, rfl, rfl, sTO _ _ hA, upd_same, by rw [List.length_map, hl]; exact Nat.le_of_lt (small1000 (by show rows.length + 1 ≤ 1000; omega)), fun dn ndn => ?_⟩
        obtain ⟨s4, hM⟩ := sys_more (r := (right, left, 0 - k2)) hA hl hat nt no ndn
        have gM := good_more g (by omega) (g1 (0 - k2))
        obtain ⟨u, hu⟩ := best_near B
        refine ⟨.ref dn, rfl, dn, _, rfl, hM.any, gM, fun H5 y s5 hy => ?_⟩
        rcases hy with ⟨rfl, no⟩ | ⟨d, ks, val, rfl, hP, _, _, hk, hs⟩
        · exact absurd hu (no u)
        have s45 := s4.trans s5
        obtain ⟨ps, hA, hl, hat⟩ := hS3.sameT s45
        refine ⟨.ref a, rfl, .str right, rfl, .str left, rfl, _, rfl, _, _, rfl, rfl, _, _, rfl, rfl, by show 3 ≤ sizeLine; decide, fun t2 nt2 => ⟨by show 1 ≤ sizeLine; decide, fun o2 no2 => ?_⟩⟩
        have sTO2 := (same_upd (o := HO.tup (rowV (right, left, 0 - k2 - 1))) nt2).trans (same_upd (o := HO.lst [V.ref t2]) no2)
        refine ⟨a, o2, _, _, rfl, rfl, sTO2 _ _ hA, upd_same, by rw [List.length_map, hl]; exact Nat.le_of_lt (small1000 (by show rows.length + 1 ≤ 1000; omega)), fun dn2 ndn2 => ?_⟩
        obtain ⟨s6, hY⟩ := sys_more (r := (right, left, 0 - k2 - 1)) hA hl hat nt2 no2 ndn2
        have gY := good_more g (by omega) (g1 (0 - k2 - 1))
        have s06 := (s13.trans s45).trans s6
        refine ⟨.ref d, rfl, rfl, _, rfl, iteT ?_⟩
        refine ⟨.ref dn, rfl, .ref d, rfl, dn, d, _, ks, val, rfl, hM.sameT (s5.trans s6), s6 _ _ hP, fun x h1 h2 => (hk x).mpr ⟨h1, h2⟩, hs, true, rfl, iteT ?_⟩
        refine ⟨.ref dn2, rfl, .ref dn2, rfl, dn2, _, rfl, hY.any, gY, fun H7 z s7 hz => ?_⟩
        rcases hz with ⟨rfl, v', hv'⟩ | ⟨q1, rfl, hR⟩
        · exact absurd hv' (best_beyond B v')
        refine ⟨dn2, q1, _, rfl, hY.sameT s7, hR, fun r' hr' => ?_, by rw [List.length_append, List.length_singleton]; omega, fun H8 s8 => q H8 ((s06.trans s7).trans s8)⟩
        rcases List.mem_append.mp hr' with m | m
        · exact hok r' m
        · rw [List.mem_singleton] at m
          subst m
          exact ⟨okr, okl⟩
end
end Lo
namespace Lo
open PySem L2
abbrev sLaw : Stmt := top 32
theorem names_of_pool {xs : List Str} (h : xs ∈ pools) {k : Nat} (h2 : 2 ≤ k) (h4 : k ≤ 4) : Names (xs.take k) := by
  have l := pools_len xs h
  refine ⟨by rw [List.length_take]; omega, by rw [List.length_take]; omega, (List.take_sublist k xs).nodup (pools_nd xs h), fun x hx => pools_ok xs h x (List.mem_of_mem_take hx)⟩
/-- a drawn side -/
theorem side_at {ns : List Str} (N : Names ns) {k : Int} (h0 : 0 ≤ k) (h1 : k < ((((("0" : Str) :: ns) ++ [("other" : Str)]).map V.str).length : Nat)) :
    ∃ x : Str, atI (((("0" : Str) :: ns) ++ [("other" : Str)]).map V.str) k = some (.str x) ∧ x ≠ ("" : Str) ∧ PyData.strOk x = true := by
  rw [List.length_map] at h1
  obtain ⟨j, rfl, hj⟩ : ∃ j : Nat, k = (j : Nat) ∧ j < ((("0" : Str) :: ns) ++ [("other" : Str)]).length := ⟨k.toNat, by omega, by omega⟩
  refine ⟨((("0" : Str) :: ns) ++ [("other" : Str)])[j], atI_nat (by rw [List.getElem?_map, List.getElem?_eq_getElem hj]; rfl), ?_⟩
  have hm := List.getElem_mem hj
  rcases List.mem_append.mp hm with m | m
  · obtain ⟨a, _, _, b⟩ := N.ends.2 _ m
    exact ⟨a, b⟩
  · rw [List.mem_singleton] at m
    rw [m]
    exact ⟨by decide +kernel, by decide +kernel⟩
section
variable {P : Program} {w : World} {K : PySem.W.Frag} {mg : Str → Option Value} {base : Heap}
def spLaw (K : PySem.W.Frag) : Sp := fun vs H Q _ => ∃ (s : Addr), vs = [.ref s] ∧ Scr K H s ∧ ∀ H', Q (.bl true) H'
abbrev nLaw : List Str := ["_law_script", "_law_turn", "_law_names", "_law_system_here", "_law_ends", "_law_left", "_law_right_here", "_law_far"]
theorem scLaw : FnScope nLaw ["_law_script"] (defScope sLaw) := ⟨rfl, rfl, rfl, by decide +kernel, rfl, by decide +kernel, by decide +kernel⟩
abbrev lD3 : List Str := ["_law_script", "_law_at", "_law_many"]
abbrev lY4 : List Str := ["_law_script", "_law_at", "_law_names", "_law_most"]
abbrev lF3 : List Str := ["_law_system_here", "_law_left", "_law_right_here"]
abbrev lG4 : List Str := ["_law_system_here", "_law_left", "_law_right_here", "_law_far"]
theorem ok_law {f fP fD fY fR fF fG : Addr} {fd fdP fdD fdY fdR fdF fdG : FuncData} (F : Fun K "law" "law" sLaw f fd) (T : Blt mg)
    (GP : FnOk P w K mg base CX0 2 fP fdP ["_law_script", "_law_at"] (spPool K)) (kP : PySem.W.keepIn K (.ref fP) = true) (bP : Binds K fdP ["_law_script", "_law_at"] []) (gP : mg "_law_pool" = some (.ref fP))
    (GD : FnOk P w K mg base CX0 1 fD fdD lD3 (spDraw K)) (kD : PySem.W.keepIn K (.ref fD) = true) (bD : Binds K fdD lD3 []) (gD : mg "_law_draw" = some (.ref fD))
    (GY : FnOk P w K mg base CX0 2 fY fdY lY4 (spSystem K)) (kY : PySem.W.keepIn K (.ref fY) = true) (bY : Binds K fdY lY4 []) (gY : mg "_law_system" = some (.ref fY))
    (GR : FnOk P w K mg base CX0 4 fR fdR ["system"] spRing) (kR : PySem.W.keepIn K (.ref fR) = true) (bR : Binds K fdR ["system"] []) (gR : mg "ring" = some (.ref fR))
    (GF : FnOk P w K mg base CX0 6 fF fdF lF3 spRefuses) (kF : PySem.W.keepIn K (.ref fF) = true) (bF : Binds K fdF lF3 []) (gF : mg "_law_refuses" = some (.ref fF))
    (GG : FnOk P w K mg base CX0 6 fG fdG lG4 spRight) (kG : PySem.W.keepIn K (.ref fG) = true) (bG : Binds K fdG lG4 []) (gG : mg "_law_right" = some (.ref fG)) : FnOk P w K mg base CX0 7 f fd ["_law_script"] (spLaw K) := by
  refine F.ok scLaw (fun vs H Q E h => ?_) (fun cdv A outer s H vs Q E hr h => ?_)
  · obtain ⟨s, rfl, _⟩ := h
    rfl
  · obtain ⟨s, rfl, hS, q⟩ := h
    have nd := scLaw.nd
    have r1 := hr.mono (show 1 ≤ 6 by decide)
    have r2 := hr.mono (show 2 ≤ 6 by decide)
    have r4 := hr.mono (show 4 ≤ 6 by decide)
    refine ⟨_, pss_cons (ps_for PassesOwn.never rfl (pi_range1 (by rfl) T.range (pa_cons pe_int pa_nil)) (pg_name (i := 1) nd rfl (.inl rfl))
      (C8.pss_cut (ps_set (i := 2) nd rfl (.inl rfl) (pe_slice sl_tupA (pe_call GP r2 (by rfl) gP kP bP .nil pass0 (pa_cons (pv 0) (pa_cons (pe_op op_mul pe_int (pv 1)) pa_nil))) po_none
          (po_some (pe_op op_add pe_int (pe_call GD r1 (by rfl) gD kD bD .nil pass0 (pa_cons (pv 0) (pa_cons (pe_op op_add (pe_op op_mul pe_int (pv 1)) pe_int) (pa_cons pe_int pa_nil))))))))
      (pss_cons (ps_set (i := 3) nd rfl (.inl rfl) (pe_call GY r2 (by rfl) gY kY bY .nil pass0 (pa_cons (pv 0) (pa_cons (pe_op op_add (pe_op op_mul pe_int (pv 1)) pe_int) (pa_cons (pv 2) (pa_cons pe_int pa_nil))))))
      (pss_cons (ps_set (i := 4) nd rfl (.inl rfl) (pe_op op_catT (pe_op op_catT (pe_tup (pa_cons pe_str pa_nil)) (pv 2)) (pe_tup (pa_cons pe_str pa_nil))))
      (pss_cons (ps_set (i := 5) nd rfl (.inl rfl) (pe_ix ix_tup (pv 4) (pe_call GD r1 (by rfl) gD kD bD .nil pass0 (pa_cons (pv 0) (pa_cons (pe_op op_add (pe_op op_mul pe_int (pv 1)) pe_int) (pa_cons (pe_callB call_len_seq (by rfl) T.len PySem.boot_len (pa_cons (pv 4) pa_nil)) pa_nil)))) (fun _ _ => rfl)))
      (pss_cons (ps_set (i := 6) nd rfl (.inl rfl) (pe_ix ix_tup (pv 4) (pe_call GD r1 (by rfl) gD kD bD .nil pass0 (pa_cons (pv 0) (pa_cons (pe_op op_add (pe_op op_mul pe_int (pv 1)) pe_int) (pa_cons (pe_callB call_len_seq (by rfl) T.len PySem.boot_len (pa_cons (pv 4) pa_nil)) pa_nil)))) (fun _ _ => rfl)))
      (pss_one (ps_if (pt_cmpR op_notN (pe_call GR r4 (by rfl) gR kR bR .nil pass0 (pa_cons (pv 3) pa_nil)) pe_non (nomark _))
        (pss_one (ps_if (pt_not (pt_val (pe_call GF hr (by rfl) gF kF bF .nil pass0 (pa_cons (pv 3) (pa_cons (pv 5) (pa_cons (pv 6) pa_nil)))))) (pss_one (ps_ret pe_bl)) pss_nil))
        (pss_cons (ps_set (i := 7) nd rfl (.inl rfl) (pe_ix ix_tup (pe_tup (pa_cons pe_int (pa_cons pe_int (pa_cons (pe_op op_pow pe_int pe_int) pa_nil))))
            (pe_call GD r1 (by rfl) gD kD bD .nil pass0 (pa_cons (pv 0) (pa_cons (pe_op op_add (pe_op op_mul pe_int (pv 1)) pe_int) (pa_cons pe_int pa_nil)))) (fun _ _ => rfl)))
        (pss_one (ps_if (PW.pt (pw_or (pt_not (pt_val (pe_call GG hr (by rfl) gG kG bG .nil pass0 (pa_cons (pv 3) (pa_cons (pv 5) (pa_cons (pv 6) (pa_cons (pv 7) pa_nil)))))))
          (pw_or1 (pt_not (pt_val (pe_call GG hr (by rfl) gG kG bG .nil pass0 (pa_cons (pv 3) (pa_cons (pv 6) (pa_cons (pv 5) (pa_cons (pv 7) pa_nil)))))))))) (pss_one (ps_ret pe_bl)) pss_nil)))))))))))
      (pss_one (ps_ret pe_bl)), ?_⟩
    refine ⟨3, rfl, by decide, by decide, for_range (lo := 0) (n := 3) (fun i σ H' => ∃ (y1 y2 y3 y4 y5 y6 y7 : Option V), σ = [some (.ref s), y1, y2, y3, y4, y5, y6, y7] ∧ Same H H')
      ⟨_, _, _, _, _, _, _, rfl, Same.refl H⟩ ?_ (fun σ H' _ => q H')⟩
    rintro i σ H1 hi ⟨y1, y2, y3, y4, y5, y6, y7, rfl, s1⟩
    -- names
    refine ⟨fun σ' H' => ∃ (np : Addr) (ns : List Str), σ' = [some (.ref s), some (.int (0 + (i : Int))), some (.ref np), y3, y4, y5, y6, y7] ∧ Same H H' ∧ H' np = some (.tup (ns.map V.str)) ∧ Names ns, ?_, ?_⟩
    · refine ⟨.ref s, rfl, _, rfl, _, _, rfl, rfl, .inl ⟨by decide, by decide⟩, s, _, rfl, hS.same s1, fun H2 p xs s2 hp hx => ?_⟩
      refine ⟨.ref s, rfl, _, rfl, _, _, rfl, rfl, .inl ⟨by decide, by decide⟩, _, _, rfl, rfl, s, _, 3, rfl, hS.same (s1.trans s2), by decide, fun H3 k s3 k0 k1 => ?_⟩
      have hp3 := s3 _ _ hp
      have s13 := (s1.trans s2).trans s3
      have lx := pools_len xs hx
      obtain ⟨k', rfl⟩ : ∃ k' : Nat, k = (k' : Nat) := ⟨k.toNat, by omega⟩
      have ek : (2 : Int) + (k' : Nat) = ((2 + k' : Nat) : Int) := by omega
      refine ⟨_, _, rfl, rfl, (2 : Int) + (k' : Nat), rfl, p, _, rfl, SqT.of hp3, fun hc => ?_, fun hc p' np' => ?_⟩
      · have hk : k' = 2 := by
          have h2 := hc.2
          rw [ek, HT.sIx_nat, List.length_map, lx] at h2
          omega
        refine ⟨p, xs, rfl, s13, hp3, ?_⟩
        have := names_of_pool hx (k := 4) (by decide) (by decide)
        rw [List.take_of_length_le (by omega)] at this
        exact this
      · refine ⟨p', xs.take (2 + k'), rfl, s13.trans (same_upd np'), ?_, names_of_pool hx (by omega) (by omega)⟩
        rw [upd_same, ek, cut_take, List.map_take]
    rintro σ2 H2 ⟨np, ns, rfl, s2, hnp, N⟩
    -- system
    refine ⟨.ref s, rfl, _, rfl, _, _, rfl, rfl, .inl ⟨by decide, by decide⟩, _, _, rfl, rfl, .ref np, rfl, s, np, _, 9, ns, rfl, hS.same s2, hnp, N, by decide, by decide, fun H3 sy rows s3 _ hsy g hlen hok => ?_⟩
    -- ends
    have l2 := N.two
    have l4 := N.few
    refine ⟨by show 1 ≤ sizeLine; decide, fun z nz => ⟨.ref np, rfl, z, np, _, _, rfl, rfl, SqT.of upd_same, SqT.of (same_upd nz _ _ (s3 _ _ hnp)), List.cons_ne_nil _ _, ?_, fun e => ?_, fun _ en nen => ?_⟩⟩
    · rw [List.length_map]
      exact Nat.le_of_lt (small1000 (by show 1 + ns.length ≤ 1000; omega))
    · cases ns with
      | nil => exact absurd l2 (by decide)
      | cons x r => exact nomatch e
    have sB := same_upd (o := HO.tup [V.str "0"]) nz
    have sC := same_upd (o := HO.tup ([V.str "0"] ++ ns.map V.str)) nen
    refine ⟨by show 1 ≤ sizeLine; decide, fun z2 nz2 => ⟨en, z2, _, _, rfl, rfl, SqT.of (same_upd nz2 _ _ upd_same), SqT.of upd_same, List.cons_ne_nil _ _, ?_, fun e => (nomatch e), fun _ en2 nen2 => ?_⟩⟩
    · rw [List.length_append, List.length_map]
      exact Nat.le_of_lt (small1000 (by show 1 + ns.length + 1 ≤ 1000; omega))
    have sD := same_upd (o := HO.tup [V.str "other"]) nz2
    have sE := same_upd (o := HO.tup ([V.str "0"] ++ ns.map V.str ++ [V.str "other"])) nen2
    have sBE := ((sB.trans sC).trans sD).trans sE
    have s4 := (s2.trans s3).trans sBE
    have hsy4 := hsy.sameT sBE
    have he4 := upd_same (H := upd (upd (upd H3 z (.tup [V.str "0"])) en (.tup ([V.str "0"] ++ ns.map V.str))) z2 (.tup [V.str "other"])) (a := en2) (o := HO.tup ([V.str "0"] ++ ns.map V.str ++ [V.str "other"]))
    generalize upd (upd (upd (upd H3 z (.tup [V.str "0"])) en (.tup ([V.str "0"] ++ ns.map V.str))) z2 (.tup [V.str "other"])) en2 (.tup ([V.str "0"] ++ ns.map V.str ++ [V.str "other"])) = H4 at s4 hsy4 he4 ⊢
    have eE : [V.str "0"] ++ ns.map V.str ++ [V.str "other"] = ((("0" : Str) :: ns) ++ [("other" : Str)]).map V.str := by
      rw [List.map_append]
      rfl
    rw [eE] at he4
    have hpos : (1 : Int) ≤ ((((("0" : Str) :: ns) ++ [("other" : Str)]).map V.str).length : Nat) := by
      rw [List.length_map, List.length_append, List.length_singleton]
      omega
    -- left, right
    refine ⟨.ref en2, rfl, .ref s, rfl, _, rfl, _, _, rfl, rfl, .inl ⟨by decide, by decide⟩, _, _, rfl, rfl, .ref en2, rfl, en2, _, rfl, .inr (SqT.of he4), s, _, _, rfl, hS.same s4, hpos, fun H5 k1 s5 a0 a1 => ?_⟩
    obtain ⟨left, hleft, ln, lok⟩ := side_at N a0 a1
    have he5 := s5 _ _ he4
    refine ⟨en2, _, _, _, rfl, rfl, SqT.of he5, hleft, ?_⟩
    refine ⟨.ref en2, rfl, .ref s, rfl, _, rfl, _, _, rfl, rfl, .inl ⟨by decide, by decide⟩, _, _, rfl, rfl, .ref en2, rfl, en2, _, rfl, .inr (SqT.of he5), s, _, _, rfl, hS.same (s4.trans s5), hpos, fun H6 k2 s6 b0 b1 => ?_⟩
    obtain ⟨right, hright, rn, rok⟩ := side_at N b0 b1
    have he6 := s6 _ _ he5
    refine ⟨en2, _, _, _, rfl, rfl, SqT.of he6, hright, ?_⟩
    have s46 := (s4.trans s5).trans s6
    have hsy6 := (hsy4.sameT s5).sameT s6
    -- the system's ring
    refine ⟨.ref sy, rfl, sy, rows, rfl, hsy6.any, g, fun H7 x s7 hx => ?_⟩
    have hsy7 := hsy6.sameT s7
    have s47 := s46.trans s7
    rcases hx with ⟨rfl, v, hv⟩ | ⟨q1, rfl, hR⟩
    · refine ⟨rfl, _, rfl, iteF ?_⟩
      refine ⟨_, _, rfl, rfl, ⟨by decide, by decide, by decide⟩, by show 3 ≤ sizeLine; decide, fun sc nsc => ?_⟩
      have sF := same_upd (o := HO.tup [V.int 7, V.int 1000, V.int (10 ^ Int.toNat 17)]) nsc
      refine ⟨.ref s, rfl, _, rfl, _, _, rfl, rfl, .inl ⟨by decide, by decide⟩, _, _, rfl, rfl, s, _, 3, rfl, hS.same (s47.trans sF), by decide, fun H8 k3 s8 c0 c1 => ?_⟩
      obtain ⟨far, hfar⟩ : ∃ far : Int, atI [V.int 7, V.int 1000, V.int (10 ^ Int.toNat 17)] k3 = some (.int far) := by
        have hk : k3 = ((0 : Nat) : Int) ∨ k3 = ((1 : Nat) : Int) ∨ k3 = ((2 : Nat) : Int) := by omega
        rcases hk with rfl | rfl | rfl
        · exact ⟨7, atI_nat rfl⟩
        · exact ⟨1000, atI_nat rfl⟩
        · exact ⟨10 ^ Int.toNat 17, atI_nat rfl⟩
      have sF8 := sF.trans s8
      refine ⟨sc, _, _, _, rfl, rfl, SqT.of (s8 _ _ upd_same), hfar, ?_⟩
      have hsy8 := hsy7.sameT sF8
      refine ⟨.ref sy, rfl, .str left, rfl, .str right, rfl, .int far, rfl, sy, left, right, far, rows, v, rfl, hsy8, g, hok, by omega, ln, rn, lok, rok, hv, fun H9 s9 => ⟨true, rfl, iteF ?_⟩⟩
      refine ⟨.ref sy, rfl, .str right, rfl, .str left, rfl, .int far, rfl, sy, right, left, far, rows, v, rfl, hsy8.sameT s9, g, hok, by omega, rn, ln, rok, lok, hv, fun H10 s10 => ⟨true, rfl, iteF ?_⟩⟩
      exact ⟨_, _, _, _, _, _, _, rfl, ((s47.trans sF8).trans s9).trans s10⟩
    · refine ⟨rfl, _, rfl, iteT ?_⟩
      obtain ⟨found, _, hf, _⟩ := hR
      refine ⟨.ref sy, rfl, .str left, rfl, .str right, rfl, sy, left, right, rows, rfl, hsy7.any, g, ln, rn, fun v hv => ringOk_not_sat hf v hv, fun H8 s8 => ⟨true, rfl, iteF ?_⟩⟩
      exact ⟨_, _, _, _, _, _, _, rfl, s47.trans s8⟩
end
end Lo
namespace Lo
open PySem L2
/-- a def of the top, as it stands behind it -/
structure Df (K : PySem.W.Frag) (x : Str) (st : Stmt) (f : Addr) (fd : FuncData) : Prop where
  ns : PySem.W.nsIn K mainGlobals x = some (some (.ref f))
  fn : Fun K x x st f fd
theorem df_mk {K : PySem.W.Frag} {x : Str} {st : Stmt} {f : Addr} {oc : Value} {od an : Option Addr} {osl : Array (Option Value)} {kV doc pm cdv ct : Value} (a : PySem.W.nsIn K mainGlobals x = some (some (.ref f)))
    (l : K.lookup f = some ⟨oc, od, .func (PySem.W.fnOf x x (defArgs st) (defBody st) (defScope st) .none kV doc pm an cdv ct), osl⟩) (c : PySem.W.codeIn K cdv x = true) (k : PySem.W.keepIn K (.ref f) = true) :
    Df K x st f (PySem.W.fnOf x x (defArgs st) (defBody st) (defScope st) .none kV doc pm an cdv ct) := ⟨a, fun_mk l c k⟩
theorem err_self {K : PySem.W.Frag} {C : Addr} (h1 : PySem.W.subIn K (.ref C) (.type "BaseException") = some true) (h2 : PySem.W.isClsIn K C = true) (h3 : PySem.W.typeIn K (.ref C) = some (.type "type")) (h4 : PySem.W.subIn K (.ref C) (.ref C) = some true) : PySem.W.exmOne K (.ref C) (.ref C) = some true := by
  unfold PySem.W.isClsIn at h2
  simp [PySem.W.exmOne, PySem.W.kitCls, h1, h2, h3, h4]
theorem all_mk {l : PySem.W.OpenLaw} {w : World} {K : PySem.W.Frag} {h : Heap} {mg : Str → Option Value} {fa f1 f2 f3 f4 f5 f6 f7 f8 f9 f10 f11 f12 f13 f14 f15 f16 f17 f18 f19 f20 f21 f22 f23 f24 f25 cNoSolution : Addr} (X : K.In h) (G : h.Ns mainGlobals mg) (hfa : mg "law" = some (.ref fa))
    {fd1 fd2 fd3 fd4 fd5 fd6 fd7 fd8 fd9 fd10 fd11 fd12 fd13 fd14 fd15 fd16 fd17 fd18 fd19 fd20 fd21 fd22 fd23 fd24 : FuncData}
    (D1 : Df K "is_whole" sWhole f1 fd1)
    (D2 : Df K "is_side" sSide f2 fd2)
    (D3 : Df K "is_difference" sDiff f3 fd3)
    (D4 : Df K "read_system" sRead f4 fd4)
    (D5 : Df K "names_of" sNames f5 fd5)
    (D6 : Df K "ring" sRing f6 fd6)
    (D7 : Df K "solution" sSolution f7 fd7)
    (D8 : Df K "tight" sTight f8 fd8)
    (D9 : Df K "chain" sChain f9 fd9)
    (D10 : Df K "_solvable" sSolvable f10 fd10)
    (D11 : Df K "_settled" sSettled f11 fd11)
    (D12 : Df K "_turn" sTurn f12 fd12)
    (D13 : Df K "_ring_through" sThrough f13 fd13)
    (D14 : Df K "_reached" sReached f14 fd14)
    (D15 : Df K "_law_draw" sDraw f15 fd15)
    (D16 : Df K "_law_pool" sPool f16 fd16)
    (D17 : Df K "_law_system" sSystem f17 fd17)
    (D18 : Df K "_law_worth" sWorth f18 fd18)
    (D19 : Df K "_law_solves" sSolves f19 fd19)
    (D20 : Df K "_law_is_ring" sIsRing f20 fd20)
    (D21 : Df K "_law_is_number" sIsNum f21 fd21)
    (D22 : Df K "_law_refuses" sRefuses f22 fd22)
    (D23 : Df K "_law_is_chain" sIsChain f23 fd23)
    (D24 : Df K "_law_right" sRight f24 fd24)
    {od an : Option Addr} {sl : Array (Option Value)} {oc kV dc pm cd ct : Value}
    (aL : PySem.W.nsIn K mainGlobals "law" = some (some (.ref f25))) (lL : K.lookup f25 = some ⟨oc, od, .func (PySem.W.fnOf "law" "law" (defArgs sLaw) (defBody sLaw) (defScope sLaw) .none kV dc pm an cd ct), sl⟩) (cL : PySem.W.codeIn K cd "law" = true) (kL : PySem.W.keepIn K (.ref f25) = true)
    (z_isi : PySem.W.nsIn K mainGlobals "isinstance" = some none)
    (z_int : PySem.W.nsIn K mainGlobals "int" = some none)
    (z_bool : PySem.W.nsIn K mainGlobals "bool" = some none)
    (z_str : PySem.W.nsIn K mainGlobals "str" = some none)
    (z_tuple : PySem.W.nsIn K mainGlobals "tuple" = some none)
    (z_list : PySem.W.nsIn K mainGlobals "list" = some none)
    (z_len : PySem.W.nsIn K mainGlobals "len" = some none)
    (z_enum : PySem.W.nsIn K mainGlobals "enumerate" = some none)
    (z_range : PySem.W.nsIn K mainGlobals "range" = some none)
    (z_all : PySem.W.nsIn K mainGlobals "all" = some none)
    (z_sorted : PySem.W.nsIn K mainGlobals "sorted" = some none)
    (z_set : PySem.W.nsIn K mainGlobals "set" = some none)
    (z_sum : PySem.W.nsIn K mainGlobals "sum" = some none)
    (z_dict : PySem.W.nsIn K mainGlobals "dict" = some none)
    (eaNoSolution : PySem.W.nsIn K mainGlobals "NoSolution" = some (some (.ref cNoSolution))) (exNoSolution : PySem.W.excIn K cNoSolution [.type "ValueError", .type "Exception", .type "BaseException", .type "object"] "ValueError.__new__" = true) (ekNoSolution : PySem.W.keepIn K (.ref cNoSolution) = true)
    (ebNoSolution : PySem.W.subIn K (.ref cNoSolution) (.type "BaseException") = some true) (etNoSolution : PySem.W.typeIn K (.ref cNoSolution) = some (.type "type")) (eiNoSolution : PySem.W.isClsIn K cNoSolution = true) (esNoSolution : PySem.W.subIn K (.ref cNoSolution) (.ref cNoSolution) = some true)
    : ∃ fd : FuncData, (∀ (s : Shared) (v : Value), BindsTo s fd ⟨[v], []⟩ [("_law_script", v)]) ∧ ∀ base : Heap, K.In base → base.Ns mainGlobals mg → FnOk l.prog w K mg base CX0 7 fa fd ["_law_script"] (spLaw K) := by
  have e := hfa.symm.trans (PySem.W.mg_of X G aL)
  cases e
  have T : Blt mg := ⟨PySem.W.mg_none_of X G z_isi, PySem.W.mg_none_of X G z_int, PySem.W.mg_none_of X G z_bool, PySem.W.mg_none_of X G z_str, PySem.W.mg_none_of X G z_tuple, PySem.W.mg_none_of X G z_list, PySem.W.mg_none_of X G z_len, PySem.W.mg_none_of X G z_enum, PySem.W.mg_none_of X G z_range, PySem.W.mg_none_of X G z_all⟩
  have U : Blt2 mg := ⟨PySem.W.mg_none_of X G z_sorted, PySem.W.mg_none_of X G z_set, PySem.W.mg_none_of X G z_sum, PySem.W.mg_none_of X G z_dict⟩
  have NNoSolution : Err K mg "NoSolution" cNoSolution := ⟨PySem.W.mg_of X G eaNoSolution, exNoSolution, ekNoSolution, ebNoSolution, etNoSolution, err_self ebNoSolution eiNoSolution etNoSolution esNoSolution⟩
  have m1 := PySem.W.mg_of X G D1.ns
  have k1 := D1.fn.kp
  have b1 := D1.fn.binds (ps := ["thing"]) fun _ _ _ _ _ _ us hl => match us, hl with | [_], _ => rfl
  have m2 := PySem.W.mg_of X G D2.ns
  have k2 := D2.fn.kp
  have b2 := D2.fn.binds (ps := ["thing"]) fun _ _ _ _ _ _ us hl => match us, hl with | [_], _ => rfl
  have m3 := PySem.W.mg_of X G D3.ns
  have k3 := D3.fn.kp
  have b3 := D3.fn.binds (ps := ["thing"]) fun _ _ _ _ _ _ us hl => match us, hl with | [_], _ => rfl
  have m4 := PySem.W.mg_of X G D4.ns
  have k4 := D4.fn.kp
  have b4 := D4.fn.binds (ps := ["system"]) fun _ _ _ _ _ _ us hl => match us, hl with | [_], _ => rfl
  have m5 := PySem.W.mg_of X G D5.ns
  have k5 := D5.fn.kp
  have b5 := D5.fn.binds (ps := ["differences"]) fun _ _ _ _ _ _ us hl => match us, hl with | [_], _ => rfl
  have m6 := PySem.W.mg_of X G D6.ns
  have k6 := D6.fn.kp
  have b6 := D6.fn.binds (ps := ["system"]) fun _ _ _ _ _ _ us hl => match us, hl with | [_], _ => rfl
  have m7 := PySem.W.mg_of X G D7.ns
  have k7 := D7.fn.kp
  have b7 := D7.fn.binds (ps := ["system"]) fun _ _ _ _ _ _ us hl => match us, hl with | [_], _ => rfl
  have m8 := PySem.W.mg_of X G D8.ns
  have k8 := D8.fn.kp
  have b8 := D8.fn.binds (ps := ["system", "left", "right"]) fun _ _ _ _ _ _ us hl => match us, hl with | [_, _, _], _ => rfl
  have m9 := PySem.W.mg_of X G D9.ns
  have k9 := D9.fn.kp
  have b9 := D9.fn.binds (ps := ["system", "left", "right"]) fun _ _ _ _ _ _ us hl => match us, hl with | [_, _, _], _ => rfl
  have m10 := PySem.W.mg_of X G D10.ns
  have k10 := D10.fn.kp
  have b10 := D10.fn.binds (ps := ["system", "left", "right"]) fun _ _ _ _ _ _ us hl => match us, hl with | [_, _, _], _ => rfl
  have m11 := PySem.W.mg_of X G D11.ns
  have k11 := D11.fn.kp
  have b11 := D11.fn.binds (ps := ["differences"]) fun _ _ _ _ _ _ us hl => match us, hl with | [_], _ => rfl
  have m12 := PySem.W.mg_of X G D12.ns
  have k12 := D12.fn.kp
  have b12 := D12.fn.binds (ps := ["differences", "causes"]) fun _ _ _ _ _ _ us hl => match us, hl with | [_, _], _ => rfl
  have m13 := PySem.W.mg_of X G D13.ns
  have k13 := D13.fn.kp
  have b13 := D13.fn.binds (ps := ["differences", "causes", "start"]) fun _ _ _ _ _ _ us hl => match us, hl with | [_, _, _], _ => rfl
  have m14 := PySem.W.mg_of X G D14.ns
  have k14 := D14.fn.kp
  have b14 := D14.fn.binds (ps := ["differences", "left", "right"]) fun _ _ _ _ _ _ us hl => match us, hl with | [_, _, _], _ => rfl
  have m15 := PySem.W.mg_of X G D15.ns
  have k15 := D15.fn.kp
  have b15 := D15.fn.binds (ps := ["_law_script", "_law_at", "_law_many"]) fun _ _ _ _ _ _ us hl => match us, hl with | [_, _, _], _ => rfl
  have m16 := PySem.W.mg_of X G D16.ns
  have k16 := D16.fn.kp
  have b16 := D16.fn.binds (ps := ["_law_script", "_law_at"]) fun _ _ _ _ _ _ us hl => match us, hl with | [_, _], _ => rfl
  have m17 := PySem.W.mg_of X G D17.ns
  have k17 := D17.fn.kp
  have b17 := D17.fn.binds (ps := ["_law_script", "_law_at", "_law_names", "_law_most"]) fun _ _ _ _ _ _ us hl => match us, hl with | [_, _, _, _], _ => rfl
  have m18 := PySem.W.mg_of X G D18.ns
  have k18 := D18.fn.kp
  have b18 := D18.fn.binds (ps := ["_law_name", "_law_point"]) fun _ _ _ _ _ _ us hl => match us, hl with | [_, _], _ => rfl
  have m19 := PySem.W.mg_of X G D19.ns
  have k19 := D19.fn.kp
  have b19 := D19.fn.binds (ps := ["_law_system_here", "_law_point"]) fun _ _ _ _ _ _ us hl => match us, hl with | [_, _], _ => rfl
  have m20 := PySem.W.mg_of X G D20.ns
  have k20 := D20.fn.kp
  have b20 := D20.fn.binds (ps := ["_law_system_here", "_law_found"]) fun _ _ _ _ _ _ us hl => match us, hl with | [_, _], _ => rfl
  have m21 := PySem.W.mg_of X G D21.ns
  have k21 := D21.fn.kp
  have b21 := D21.fn.binds (ps := ["_law_thing"]) fun _ _ _ _ _ _ us hl => match us, hl with | [_], _ => rfl
  have m22 := PySem.W.mg_of X G D22.ns
  have k22 := D22.fn.kp
  have b22 := D22.fn.binds (ps := ["_law_system_here", "_law_left", "_law_right_here"]) fun _ _ _ _ _ _ us hl => match us, hl with | [_, _, _], _ => rfl
  have m23 := PySem.W.mg_of X G D23.ns
  have k23 := D23.fn.kp
  have b23 := D23.fn.binds (ps := ["_law_system_here", "_law_found", "_law_left", "_law_right_here", "_law_limit"]) fun _ _ _ _ _ _ us hl => match us, hl with | [_, _, _, _, _], _ => rfl
  have m24 := PySem.W.mg_of X G D24.ns
  have k24 := D24.fn.kp
  have b24 := D24.fn.binds (ps := ["_law_system_here", "_law_left", "_law_right_here", "_law_far"]) fun _ _ _ _ _ _ us hl => match us, hl with | [_, _, _, _], _ => rfl
  refine ⟨PySem.W.fnOf "law" "law" (defArgs sLaw) (defBody sLaw) (defScope sLaw) .none kV dc pm an cd ct, fun s v => .of_eq rfl, fun base _ _ => ?_⟩
  have G2 : FnOk l.prog w K mg base CX0 1 f2 fd2 ["thing"] spSide := ok_side D2.fn T 
  have G3 : FnOk l.prog w K mg base CX0 2 f3 fd3 ["thing"] spDiff := ok_diff D3.fn T D2.fn b2 m2 D1.fn b1 m1
  have G4 : FnOk l.prog w K mg base CX0 3 f4 fd4 ["system"] spRead := ok_read D4.fn T G3 k3 b3 m3
  have G5 : FnOk l.prog w K mg base CX0 1 f5 fd5 ["differences"] spNames := ok_names D5.fn  
  have G13 : FnOk l.prog w K mg base CX0 1 f13 fd13 ["differences", "causes", "start"] spThrough := ok_through D13.fn  
  have G12 : FnOk l.prog w K mg base CX0 2 f12 fd12 ["differences", "causes"] spTurn := ok_turn D12.fn T G13 k13 b13 m13
  have G11 : FnOk l.prog w K mg base CX0 3 f11 fd11 ["differences"] spSettled := ok_settled D11.fn T G12 k12 b12 m12
  have G6 : FnOk l.prog w K mg base CX0 4 f6 fd6 ["system"] spRing := ok_ring D6.fn  G11 k11 b11 m11 G4 k4 b4 m4
  have G7 : FnOk l.prog w K mg base CX0 4 f7 fd7 ["system"] spSolution := ok_solution D7.fn  G11 k11 b11 m11 G4 k4 b4 m4 G5 k5 b5 m5
  have G14 : FnOk l.prog w K mg base CX0 1 f14 fd14 ["differences", "left", "right"] spReached := ok_reached D14.fn T 
  have G10 : FnOk l.prog w K mg base CX0 4 f10 fd10 ["system", "left", "right"] spSolvable := ok_solvable D10.fn  G11 k11 b11 m11 G4 k4 b4 m4 G2 k2 b2 m2
  have G8 : FnOk l.prog w K mg base CX0 5 f8 fd8 ["system", "left", "right"] spTight := ok_tight D8.fn  G10 k10 b10 m10 G14 k14 b14 m14
  have G9 : FnOk l.prog w K mg base CX0 5 f9 fd9 ["system", "left", "right"] spChain := ok_chain D9.fn  G10 k10 b10 m10 G14 k14 b14 m14
  have GX10 : FnOk l.prog w K mg base (L2.CX l.prog w) 4 f10 fd10 ["system", "left", "right"] (spRefuse cNoSolution) := ok_solvableX D10.fn NNoSolution G11 k11 b11 m11 G4 k4 b4 m4 G2 k2 b2 m2
  have GX8 : FnOk l.prog w K mg base (L2.CX l.prog w) 5 f8 fd8 ["system", "left", "right"] (spRefuse cNoSolution) := ok_tightX D8.fn  GX10 k10 b10 m10 G14 k14 b14 m14
  have GX9 : FnOk l.prog w K mg base (L2.CX l.prog w) 5 f9 fd9 ["system", "left", "right"] (spRefuse cNoSolution) := ok_chainX D9.fn  GX10 k10 b10 m10
  have G15 : FnOk l.prog w K mg base CX0 1 f15 fd15 ["_law_script", "_law_at", "_law_many"] (spDraw K) := ok_draw D15.fn T 
  have G16 : FnOk l.prog w K mg base CX0 2 f16 fd16 ["_law_script", "_law_at"] (spPool K) := ok_pool D16.fn  G15 k15 b15 m15
  have G17 : FnOk l.prog w K mg base CX0 2 f17 fd17 ["_law_script", "_law_at", "_law_names", "_law_most"] (spSystem K) := ok_system D17.fn T G15 k15 b15 m15
  have G18 : FnOk l.prog w K mg base CX0 1 f18 fd18 ["_law_name", "_law_point"] spWorth := ok_worth D18.fn  
  have G19 : FnOk l.prog w K mg base CX0 2 f19 fd19 ["_law_system_here", "_law_point"] spSolves := ok_solves D19.fn  G18 k18 b18 m18
  have G20 : FnOk l.prog w K mg base CX0 1 f20 fd20 ["_law_system_here", "_law_found"] spIsRing := ok_isring D20.fn T U 
  have G21 : FnOk l.prog w K mg base CX0 1 f21 fd21 ["_law_thing"] spWhole := ok_isnum D21.fn T 
  have G22 : FnOk l.prog w K mg base CX0 6 f22 fd22 ["_law_system_here", "_law_left", "_law_right_here"] spRefuses := ok_refuses D22.fn NNoSolution GX8 k8 b8 m8 GX9 k9 b9 m9
  have G23 : FnOk l.prog w K mg base CX0 2 f23 fd23 ["_law_system_here", "_law_found", "_law_left", "_law_right_here", "_law_limit"] spIsChain := ok_ischain D23.fn T U G21 k21 b21 m21
  have G24 : FnOk l.prog w K mg base CX0 6 f24 fd24 ["_law_system_here", "_law_left", "_law_right_here", "_law_far"] spRight := ok_right D24.fn  G8 k8 b8 m8 G9 k9 b9 m9 G21 k21 b21 m21 G7 k7 b7 m7 G19 k19 b19 m19 G23 k23 b23 m23 G20 k20 b20 m20 G6 k6 b6 m6
  exact ok_law (fun_mk (st := sLaw) lL cL kL) T G16 k16 b16 m16 G15 k15 b15 m15 G17 k17 b17 m17 G6 k6 b6 m6 G22 k22 b22 m22 G24 k24 b24 m24
end Lo
open PySem PySem.W PyProof.Rows
set_option maxHeartbeats 0 in
theorem PySem.Challenge.cw_loopsheds_k02_whole_limits_holds : PySem.Challenge.rw_loopsheds_k02_whole_limits.Holds := by
  w_on; o_law; k_head; (case hw => w_witness2)
  k_fill
  refine L2.walk_of (l := PySem.Challenge.rw_loopsheds_k02_whole_limits) (n := 63) (k := 7) (x := "_law_script") (CX := fun _ => L2.CX0) (sp := fun w => Lo.spLaw _) rfl (by decide) rfl ⟨rfl, by decide, by decide⟩ (fun w h Y => PySem.W.kIn_of Y) ?F (fun _ _ a ns hl _ hS => ⟨a, rfl, ⟨ns, hS, hl⟩, fun _ => rfl⟩) (fun _ _ _ _ _ h => h)
  case F =>
    intro w mg fa h KX G hmg
    refine' Lo.all_mk KX G hmg (Lo.df_mk ?a1 ?l1 ?c1 ?k1) (Lo.df_mk ?a2 ?l2 ?c2 ?k2) (Lo.df_mk ?a3 ?l3 ?c3 ?k3) (Lo.df_mk ?a4 ?l4 ?c4 ?k4) (Lo.df_mk ?a5 ?l5 ?c5 ?k5) (Lo.df_mk ?a6 ?l6 ?c6 ?k6) (Lo.df_mk ?a7 ?l7 ?c7 ?k7) (Lo.df_mk ?a8 ?l8 ?c8 ?k8) (Lo.df_mk ?a9 ?l9 ?c9 ?k9) (Lo.df_mk ?a10 ?l10 ?c10 ?k10) (Lo.df_mk ?a11 ?l11 ?c11 ?k11) (Lo.df_mk ?a12 ?l12 ?c12 ?k12) (Lo.df_mk ?a13 ?l13 ?c13 ?k13) (Lo.df_mk ?a14 ?l14 ?c14 ?k14) (Lo.df_mk ?a15 ?l15 ?c15 ?k15) (Lo.df_mk ?a16 ?l16 ?c16 ?k16) (Lo.df_mk ?a17 ?l17 ?c17 ?k17) (Lo.df_mk ?a18 ?l18 ?c18 ?k18) (Lo.df_mk ?a19 ?l19 ?c19 ?k19) (Lo.df_mk ?a20 ?l20 ?c20 ?k20) (Lo.df_mk ?a21 ?l21 ?c21 ?k21) (Lo.df_mk ?a22 ?l22 ?c22 ?k22) (Lo.df_mk ?a23 ?l23 ?c23 ?k23) (Lo.df_mk ?a24 ?l24 ?c24 ?k24) ?aL ?lL ?cL ?kL ?z_isi ?z_int ?z_bool ?z_str ?z_tuple ?z_list ?z_len ?z_enum ?z_range ?z_all ?z_sorted ?z_set ?z_sum ?z_dict ?eaNoSolution ?exNoSolution ?ekNoSolution ?ebNoSolution ?etNoSolution ?eiNoSolution ?esNoSolution
    (case a1 => k_is)
    (case l1 => k_is)
    (case c1 => k_is)
    (case k1 => k_is)
    (case a2 => k_is)
    (case l2 => k_is)
    (case c2 => k_is)
    (case k2 => k_is)
    (case a3 => k_is)
    (case l3 => k_is)
    (case c3 => k_is)
    (case k3 => k_is)
    (case a4 => k_is)
    (case l4 => k_is)
    (case c4 => k_is)
    (case k4 => k_is)
    (case a5 => k_is)
    (case l5 => k_is)
    (case c5 => k_is)
    (case k5 => k_is)
    (case a6 => k_is)
    (case l6 => k_is)
    (case c6 => k_is)
    (case k6 => k_is)
    (case a7 => k_is)
    (case l7 => k_is)
    (case c7 => k_is)
    (case k7 => k_is)
    (case a8 => k_is)
    (case l8 => k_is)
    (case c8 => k_is)
    (case k8 => k_is)
    (case a9 => k_is)
    (case l9 => k_is)
    (case c9 => k_is)
    (case k9 => k_is)
    (case a10 => k_is)
    (case l10 => k_is)
    (case c10 => k_is)
    (case k10 => k_is)
    (case a11 => k_is)
    (case l11 => k_is)
    (case c11 => k_is)
    (case k11 => k_is)
    (case a12 => k_is)
    (case l12 => k_is)
    (case c12 => k_is)
    (case k12 => k_is)
    (case a13 => k_is)
    (case l13 => k_is)
    (case c13 => k_is)
    (case k13 => k_is)
    (case a14 => k_is)
    (case l14 => k_is)
    (case c14 => k_is)
    (case k14 => k_is)
    (case a15 => k_is)
    (case l15 => k_is)
    (case c15 => k_is)
    (case k15 => k_is)
    (case a16 => k_is)
    (case l16 => k_is)
    (case c16 => k_is)
    (case k16 => k_is)
    (case a17 => k_is)
    (case l17 => k_is)
    (case c17 => k_is)
    (case k17 => k_is)
    (case a18 => k_is)
    (case l18 => k_is)
    (case c18 => k_is)
    (case k18 => k_is)
    (case a19 => k_is)
    (case l19 => k_is)
    (case c19 => k_is)
    (case k19 => k_is)
    (case a20 => k_is)
    (case l20 => k_is)
    (case c20 => k_is)
    (case k20 => k_is)
    (case a21 => k_is)
    (case l21 => k_is)
    (case c21 => k_is)
    (case k21 => k_is)
    (case a22 => k_is)
    (case l22 => k_is)
    (case c22 => k_is)
    (case k22 => k_is)
    (case a23 => k_is)
    (case l23 => k_is)
    (case c23 => k_is)
    (case k23 => k_is)
    (case a24 => k_is)
    (case l24 => k_is)
    (case c24 => k_is)
    (case k24 => k_is)
    (case aL => k_is)
    (case lL => k_is)
    (case cL => k_is)
    (case kL => k_is)
    (case z_isi => k_is)
    (case z_int => k_is)
    (case z_bool => k_is)
    (case z_str => k_is)
    (case z_tuple => k_is)
    (case z_list => k_is)
    (case z_len => k_is)
    (case z_enum => k_is)
    (case z_range => k_is)
    (case z_all => k_is)
    (case z_sorted => k_is)
    (case z_set => k_is)
    (case z_sum => k_is)
    (case z_dict => k_is)
    (case eaNoSolution => k_is)
    (case exNoSolution => k_exc)
    (case ekNoSolution => k_is)
    (case ebNoSolution => k_is)
    (case etNoSolution => k_is)
    (case eiNoSolution => k_is)
    (case esNoSolution => first | rfl | k_is)
