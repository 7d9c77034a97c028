import PyProof.Rows.All
import Wide.All
import OpenK.AllK
import Wide.FinOn
import HandS.ForMost
import HandS.Walk
import HandS.IsInst
import HandS.More
import HandS.NoneIn
import HandS.SetKeys
import HandS.DictComp
import HandS.TupAny
import HandS.Wide
import KE.KEqSeq
import HandS.Set
import HandS.SetFor
import HandS.Strs
import PyProof.Rows.SetFrom
import PyProof.Rows.SortStr
import HandS.ForExc
import HandS.Codes
import HandS.Star
import HandS.IterVal
import HandS.Rev
import KE.KSortKeySt
import HandS.FromBytesMap
import HandS.SortKw
import HandS.Words
import HandS.Defaults
import PyProof.EqAt
import HandS.DictSub
import HandS.WordsDict
import HandS.ExcField
import HandS.TupLen
import HandS.HeadHook2
import PySem.Challenge.RW_loopsheds_k10_spread
set_option Elab.async false
set_option linter.all false
set_option maxRecDepth 100000
/-! Systems of differences: rings, solutions, the graph of last causes, and why lowering comes to an end. Plain Lean. -/
namespace Lo
section
variable {α : Type} [DecidableEq α]

abbrev Row (α : Type) := α × α × Int
def Sat (rows : List (Row α)) (v : α → Int) : Prop := ∀ r ∈ rows, v r.1 - v r.2.1 ≤ r.2.2
def put {β : Type} (f : α → β) (a : α) (b : β) : α → β := fun x => if x = a then b else f x
theorem put_at {β : Type} (f : α → β) (a : α) (b : β) : put f a b a = b := if_pos rfl
theorem put_off {β : Type} {f : α → β} {a x : α} {b : β} (h : x ≠ a) : put f a b x = f x := if_neg h

/-- the ring of rows es: each right is the next left, no left twice, a negative sum -/
structure IsRing (es : List (Row α)) : Prop where
  two : 2 ≤ es.length
  nd : (es.map (·.1)).Nodup
  turn : es.map (·.2.1) = (es.map (·.1)).drop 1 ++ (es.map (·.1)).take 1
  neg : (es.map (·.2.2)).sum < 0
/-- found are the places of a ring -/
def RingOk (rows : List (Row α)) (found : List Nat) : Prop :=
  ∃ es : List (Row α), found.map (fun i => rows[i]?) = es.map some ∧ IsRing es

theorem sum_map_sub {β : Type} (f g : β → Int) : ∀ l : List β, (l.map fun x => f x - g x).sum = (l.map f).sum - (l.map g).sum
  | [] => rfl
  | x :: l => by
    have ih := sum_map_sub f g l
    simp only [List.map_cons, List.sum_cons]
    omega
theorem sum_le {β : Type} (f g : β → Int) : ∀ l : List β, (∀ x ∈ l, f x ≤ g x) → (l.map f).sum ≤ (l.map g).sum
  | [], _ => Int.le_refl _
  | x :: l, h => by
    have ih := sum_le f g l fun y hy => h y (List.mem_cons_of_mem _ hy)
    have h0 := h x List.mem_cons_self
    simp only [List.map_cons, List.sum_cons]
    omega
theorem sum_lt {β : Type} (f g : β → Int) : ∀ (l : List β) (a : β), a ∈ l → (∀ x ∈ l, f x ≤ g x) → f a < g a → (l.map f).sum < (l.map g).sum
  | [], _, h, _, _ => absurd h List.not_mem_nil
  | x :: l, a, ha, h, hl => by
    have h0 := h x List.mem_cons_self
    have ht : ∀ y ∈ l, f y ≤ g y := fun y hy => h y (List.mem_cons_of_mem _ hy)
    simp only [List.map_cons, List.sum_cons]
    rcases List.mem_cons.mp ha with e | e
    · subst e
      have := sum_le f g l ht
      omega
    · have := sum_lt f g l a e ht hl
      omega
theorem sum_turn {β : Type} (f : β → Int) (l : List β) : ((l.drop 1 ++ l.take 1).map f).sum = (l.map f).sum := by
  cases l with
  | nil => rfl
  | cons x l =>
    simp only [List.drop_succ_cons, List.drop_zero, List.take_succ_cons, List.take_zero, List.map_append, List.sum_append, List.map_cons, List.map_nil, List.sum_cons, List.sum_nil]
    omega
theorem ring_not_sat {rows es : List (Row α)} (h : ∀ e ∈ es, e ∈ rows) (R : IsRing es) (v : α → Int) : ¬ Sat rows v := fun s => by
  have h1 : (es.map fun e => v e.1 - v e.2.1).sum ≤ (es.map (·.2.2)).sum := sum_le _ _ es fun e he => s e (h e he)
  rw [sum_map_sub (fun e : Row α => v e.1) (fun e : Row α => v e.2.1)] at h1
  have h2 : (es.map fun e : Row α => v e.2.1).sum = (es.map fun e : Row α => v e.1).sum := by
    have e1 : (es.map fun e : Row α => v e.2.1) = (es.map (·.2.1)).map v := by rw [List.map_map]; rfl
    have e2 : (es.map fun e : Row α => v e.1) = (es.map (·.1)).map v := by rw [List.map_map]; rfl
    rw [e1, e2, R.turn, sum_turn]
  have := R.neg
  omega
theorem ringOk_not_sat {rows : List (Row α)} {found : List Nat} (h : RingOk rows found) (v : α → Int) : ¬ Sat rows v := by
  obtain ⟨es, e, R⟩ := h
  refine ring_not_sat (fun x hx => ?_) R v
  have h1 : some x ∈ es.map some := List.mem_map_of_mem hx
  rw [← e] at h1
  obtain ⟨i, _, hi⟩ := List.mem_map.mp h1
  exact List.mem_of_getElem? hi

/-- pigeons -/
theorem nodup_le : ∀ (l m : List α), l.Nodup → (∀ x ∈ l, x ∈ m) → l.length ≤ m.length
  | [], _, _, _ => Nat.zero_le _
  | x :: l, m, hd, hs => by
    obtain ⟨h1, h2⟩ := List.nodup_cons.mp hd
    have hx := hs x List.mem_cons_self
    have hl : ∀ y ∈ l, y ∈ m.erase x := fun y hy => by
      have ne : y ≠ x := fun e => h1 (e ▸ hy)
      exact (List.mem_erase_of_ne ne).mpr (hs y (List.mem_cons_of_mem _ hy))
    have ih := nodup_le l (m.erase x) h2 hl
    have z := List.length_erase_of_mem hx
    have p := List.length_pos_of_mem hx
    simp only [List.length_cons]
    omega

/-! ### walks in the graph of the causes -/
abbrev Gr (α : Type) := α → Option (α × Int)
inductive Ch (g : Gr α) : α → List α → α → Int → Prop
  | nil (x : α) : Ch g x [] x 0
  | cons {x y z : α} {c s : Int} {l : List α} : g x = some (y, c) → Ch g y l z s → Ch g x (x :: l) z (c + s)
variable {g : Gr α}
theorem Ch.snoc {x y z : α} {l : List α} {c s : Int} (h : Ch g x l y s) (e : g y = some (z, c)) : Ch g x (l ++ [y]) z (s + c) := by
  induction h with
  | nil x =>
    have q := Ch.cons e (Ch.nil z)
    have z : c + 0 = 0 + c := by omega
    rw [z] at q
    exact q
  | @cons x y z' c' s' l e' _ ih =>
    have q := Ch.cons e' (ih e)
    have z : c' + (s' + c) = c' + s' + c := by omega
    rw [z] at q
    exact q
theorem Ch.from_mem {x y a : α} {l : List α} {s : Int} (h : Ch g x l y s) (ha : a ∈ l) : ∃ p q t, l = p ++ a :: q ∧ Ch g a (a :: q) y t := by
  induction h with
  | nil x => exact absurd ha List.not_mem_nil
  | @cons x y z c s l e h ih =>
    by_cases k : a = x
    · subst k
      exact ⟨[], l, _, rfl, Ch.cons e h⟩
    · have hm : a ∈ l := by
        rcases List.mem_cons.mp ha with q | q
        · exact absurd q k
        · exact q
      obtain ⟨p, q, t, e2, h2⟩ := ih hm
      exact ⟨x :: p, q, t, by rw [e2]; rfl, h2⟩
/-- the walk up to the first stop is told by its start -/
theorem Ch.det {S : α → Prop} {x y y' : α} {l l' : List α} {s s' : Int} (h : Ch g x l y s) (h' : Ch g x l' y' s') (hy : S y) (hy' : S y') (hl : ∀ a ∈ l, ¬ S a) (hl' : ∀ a ∈ l', ¬ S a) : l = l' := by
  induction h generalizing l' s' with
  | nil x =>
    cases h' with
    | nil => rfl
    | cons e h2 => exact absurd hy (hl' _ List.mem_cons_self)
  | @cons x y0 z c s l e h ih =>
    cases h' with
    | nil => exact absurd hy' (hl _ List.mem_cons_self)
    | @cons _ y1 _ c1 s1 l1 e1 h1 =>
      rw [e] at e1
      have q := Option.some.inj e1
      have q1 : y0 = y1 := congrArg Prod.fst q
      subst q1
      have := ih h1 hy (fun a ha => hl a (List.mem_cons_of_mem _ ha)) (fun a ha => hl' a (List.mem_cons_of_mem _ ha))
      rw [this]
theorem Ch.nodup {S : α → Prop} {x y : α} {l : List α} {s : Int} (h : Ch g x l y s) (hy : S y) (hl : ∀ a ∈ l, ¬ S a) : l.Nodup := by
  induction h with
  | nil x => exact List.nodup_nil
  | @cons x y0 z c s l e h ih =>
    have ht : ∀ a ∈ l, ¬ S a := fun a ha => hl a (List.mem_cons_of_mem _ ha)
    refine List.nodup_cons.mpr ⟨fun hm => ?_, ih hy ht⟩
    obtain ⟨p, q, t, e2, h2⟩ := h.from_mem hm
    have hq : ∀ a ∈ x :: q, ¬ S a := fun a ha => ht a (by rw [e2]; exact List.mem_append_right _ ha)
    have z := (Ch.cons e h).det h2 hy hy hl hq
    have z2 := congrArg List.length z
    rw [e2] at z2
    simp only [List.length_cons, List.length_append] at z2
    omega
theorem Ch.le {val : α → Int} (hw : ∀ x y c, g x = some (y, c) → val y + c ≤ val x) {x y : α} {l : List α} {s : Int} (h : Ch g x l y s) : s ≤ val x - val y := by
  induction h with
  | nil x => omega
  | cons e h ih =>
    have := hw _ _ _ e
    omega
theorem Ch.low {M : Int} (hM : ∀ x y c, g x = some (y, c) → -M ≤ c) {x y : α} {l : List α} {s : Int} (h : Ch g x l y s) : -(M * (l.length : Int)) ≤ s := by
  induction h with
  | nil x => simp
  | @cons x y0 z c s l e h ih =>
    have := hM _ _ _ e
    simp only [List.length_cons]
    have e1 : M * ((l.length + 1 : Nat) : Int) = M * (l.length : Int) + M := by
      rw [Int.natCast_add, Int.mul_add]; omega
    rw [e1]
    omega

/-- what holds between the values and the causes -/
structure Low (rows : List (Row α)) (val : α → Int) (g : Gr α) : Prop where
  edge : ∀ x y c, g x = some (y, c) → (x, y, c) ∈ rows ∧ val y + c ≤ val x
  root : ∀ x, g x = none → val x = 0
  neg : ∀ x l s, l ≠ [] → Ch g x l x s → s < 0
theorem Low.start (rows : List (Row α)) : Low rows (fun _ => 0) (fun _ => none) := by
  refine ⟨(fun x y c e => nomatch e), fun _ _ => rfl, fun x l s hl h => ?_⟩
  cases h with
  | nil => exact absurd rfl hl
  | cons e _ => cases e
theorem Low.step {rows : List (Row α)} {val : α → Int} {x0 y0 : α} {c0 : Int} (L : Low rows val g) (hr : (x0, y0, c0) ∈ rows) (hne : x0 ≠ y0) (hlt : val y0 + c0 < val x0) :
    Low rows (put val x0 (val y0 + c0)) (put g x0 (some (y0, c0))) := by
  have weak : ∀ x y c, put g x0 (some (y0, c0)) x = some (y, c) → val y + c ≤ val x := fun x y c e => by
    by_cases k : x = x0
    · subst k
      rw [put_at] at e
      injection e with e
      injection e with e1 e2
      subst e1 e2
      omega
    · rw [put_off k] at e
      exact (L.edge x y c e).2
  have split : ∀ (x z : α) (l : List α) (s : Int), Ch (put g x0 (some (y0, c0))) x l z s → Ch g x l z s ∨ s < val x - val z := fun x z l s h => by
    induction h with
    | nil x => exact .inl (Ch.nil x)
    | @cons x y z c s l e h ih =>
      have hs : s ≤ val y - val z := h.le weak
      by_cases k : x = x0
      · subst k
        rw [put_at] at e
        injection e with e
        injection e with e1 e2
        subst e1 e2
        exact .inr (by omega)
      · rw [put_off k] at e
        have he := (L.edge x y c e).2
        rcases ih with i | i
        · exact .inl (Ch.cons e i)
        · exact .inr (by omega)
  refine ⟨fun x y c e => ?_, fun x e => ?_, fun x l s hl h => ?_⟩
  · by_cases k : x = x0
    · subst k
      rw [put_at] at e
      injection e with e
      injection e with e1 e2
      subst e1 e2
      refine ⟨hr, ?_⟩
      rw [put_at, put_off hne.symm]
      omega
    · rw [put_off k] at e
      have he := L.edge x y c e
      refine ⟨he.1, ?_⟩
      rw [put_off k]
      by_cases j : y = x0
      · subst j
        rw [put_at]
        omega
      · rw [put_off j]
        exact he.2
  · by_cases k : x = x0
    · subst k
      rw [put_at] at e
      cases e
    · rw [put_off k] at e ⊢
      exact L.root x e
  · rcases split x x l s h with i | i
    · exact L.neg x l s hl i
    · omega

/-- from x a name without a cause is reached -/
def Ends (g : Gr α) (x : α) : Prop := ∃ l y s, Ch g x l y s ∧ g y = none
theorem ends_none {x : α} (h : g x = none) : Ends g x := ⟨[], x, 0, Ch.nil x, h⟩
theorem ends_next {x y : α} {c : Int} (e : g x = some (y, c)) (h : Ends g y) : Ends g x := by
  obtain ⟨l, z, s, h1, h2⟩ := h
  exact ⟨_, z, _, Ch.cons e h1, h2⟩
theorem Ch.mem_some {x y : α} {l : List α} {s : Int} (h : Ch g x l y s) : ∀ a ∈ l, g a ≠ none := by
  induction h with
  | nil x => exact fun a ha => absurd ha List.not_mem_nil
  | @cons x y z c s l e h ih =>
    intro a ha
    rcases List.mem_cons.mp ha with q | q
    · rw [q, e]; exact fun z => nomatch z
    · exact ih a q
/-- how low a value can be -/
theorem Low.floor {rows : List (Row α)} {val : α → Int} (L : Low rows val g) (hE : ∀ x, Ends g x) {M : Int} (hM0 : 0 ≤ M) (hM : ∀ r ∈ rows, -M ≤ r.2.2) (x : α) : -(M * (rows.length : Int)) ≤ val x := by
  obtain ⟨l, y, s, h, hy⟩ := hE x
  have hd : l.Nodup := h.nodup (S := fun a => g a = none) hy h.mem_some
  have hl : l.length ≤ (rows.map (·.1)).length := nodup_le l _ hd fun a ha => by
    have k := h.mem_some a ha
    cases e : g a with
    | none => exact absurd e k
    | some p => exact List.mem_map.mpr ⟨_, (L.edge a p.1 p.2 e).1, rfl⟩
  rw [List.length_map] at hl
  have h1 := h.le fun x y c e => (L.edge x y c e).2
  have h2 := h.low (M := M) fun x y c e => hM _ (L.edge x y c e).1
  have h3 := L.root y hy
  have h4 : M * (l.length : Int) ≤ M * (rows.length : Int) := Int.mul_le_mul_of_nonneg_left (by omega) hM0
  omega
end
end Lo
/-! The graph that a table of causes makes, the ring that is read off it, the passes and their measure; least sums of chains. -/
namespace Lo
section
variable {α : Type} [DecidableEq α]
theorem nd_one (x : α) : [x].Nodup := List.nodup_cons.mpr ⟨List.not_mem_nil, List.nodup_nil⟩
theorem Ch.append {g : Gr α} {x y z : α} {l l' : List α} {s s' : Int} (h : Ch g x l y s) (h' : Ch g y l' z s') : Ch g x (l ++ l') z (s + s') := by
  induction h with
  | nil x =>
    have e : (0 : Int) + s' = s' := by omega
    rw [e]
    exact h'
  | @cons x y c0 c s l e _ ih =>
    have q := Ch.cons e (ih h')
    have e2 : c + (s + s') = c + s + s' := by omega
    rw [e2] at q
    exact q
theorem ends_of {g : Gr α} {x y : α} {l : List α} {s : Int} (h : Ch g x l y s) (hy : Ends g y) : Ends g x := by
  obtain ⟨l2, z, s2, h2, hz⟩ := hy
  exact ⟨_, z, _, h.append h2, hz⟩

/-- names cs have causes: the places cz of rows -/
def gOf (rows : List (Row α)) (cs : List α) (cz : α → Nat) : Gr α := fun x => if x ∈ cs then (rows[cz x]?).map fun r => r.2 else none
/-- each cause of a name is a row that begins with it -/
def Lk (rows : List (Row α)) (cs : List α) (cz : α → Nat) : Prop := ∀ x ∈ cs, ∃ y c, rows[cz x]? = some (x, y, c)
variable {rows : List (Row α)} {cs : List α} {cz : α → Nat}
theorem gOf_out {x : α} (h : x ∉ cs) : gOf rows cs cz x = none := if_neg h
theorem gOf_in {x y : α} {c : Int} (h : x ∈ cs) (e : rows[cz x]? = some (x, y, c)) : gOf rows cs cz x = some (y, c) := by
  unfold gOf
  rw [if_pos h, e]
  rfl
theorem gOf_some (k : Lk rows cs cz) {x y : α} {c : Int} (h : gOf rows cs cz x = some (y, c)) : x ∈ cs ∧ rows[cz x]? = some (x, y, c) := by
  by_cases m : x ∈ cs
  · obtain ⟨y', c', e⟩ := k x m
    rw [gOf_in m e] at h
    injection h with h
    injection h with h1 h2
    subst h1 h2
    exact ⟨m, e⟩
  · rw [gOf_out m] at h
    cases h
theorem gOf_none (k : Lk rows cs cz) {x : α} (h : gOf rows cs cz x = none) : x ∉ cs := fun m => by
  obtain ⟨y, c, e⟩ := k x m
  rw [gOf_in m e] at h
  cases h
/-- a list with one more, unless it is there -/
def addN (l : List α) (x : α) : List α := if x ∈ l then l else l ++ [x]
theorem mem_addN {l : List α} {x y : α} : y ∈ addN l x ↔ y ∈ l ∨ y = x := by
  unfold addN
  split
  · rename_i h
    exact ⟨Or.inl, fun z => z.elim id fun e => e ▸ h⟩
  · rw [List.mem_append, List.mem_singleton]
theorem nodup_addN {l : List α} {x : α} (h : l.Nodup) : (addN l x).Nodup := by
  unfold addN
  split
  · exact h
  · rename_i n
    refine List.nodup_append.mpr ⟨h, nd_one x, fun a ha b hb => ?_⟩
    rw [List.mem_singleton] at hb
    subst hb
    exact fun e => n (e ▸ ha)
theorem length_addN {l : List α} {x : α} : (addN l x).length ≤ l.length + 1 := by
  unfold addN
  split <;> simp
theorem lk_put (k : Lk rows cs cz) {x y : α} {c : Int} {i : Nat} (e : rows[i]? = some (x, y, c)) : Lk rows (addN cs x) (put cz x i) := fun z hz => by
  by_cases j : z = x
  · subst j
    exact ⟨y, c, by rw [put_at]; exact e⟩
  · rw [put_off j]
    exact k z ((mem_addN.mp hz).resolve_right j)
theorem gOf_put {x y : α} {c : Int} {i : Nat} (e : rows[i]? = some (x, y, c)) : gOf rows (addN cs x) (put cz x i) = put (gOf rows cs cz) x (some (y, c)) := by
  funext z
  by_cases j : z = x
  · subst j
    rw [put_at]
    refine gOf_in (mem_addN.mpr (.inr rfl)) ?_
    rw [put_at]
    exact e
  · rw [put_off j]
    unfold gOf
    have m : z ∈ addN cs x ↔ z ∈ cs := by
      rw [mem_addN]
      exact ⟨fun h => h.resolve_right j, .inl⟩
    rw [put_off j]
    by_cases h : z ∈ cs
    · rw [if_pos h, if_pos (m.mpr h)]
    · rw [if_neg h, if_neg fun q => h (m.mp q)]

/-! ### the ring -/
theorem Ch.rights (k : Lk rows cs cz) {x y : α} {l : List α} {s : Int} (h : Ch (gOf rows cs cz) x l y s) :
    ∃ es : List (Row α), l.map (fun a => rows[cz a]?) = es.map some ∧ es.map (·.1) = l ∧ x :: es.map (·.2.1) = l ++ [y] ∧ (es.map (·.2.2)).sum = s := by
  induction h with
  | nil x => exact ⟨[], rfl, rfl, rfl, rfl⟩
  | @cons x y z c s l e h ih =>
    obtain ⟨es, h1, h2, h3, h4⟩ := ih
    obtain ⟨_, e2⟩ := gOf_some k e
    refine ⟨(x, y, c) :: es, ?_, ?_, ?_, ?_⟩
    · rw [List.map_cons, e2, h1]
      rfl
    · rw [List.map_cons, h2]
    · show x :: y :: es.map (·.2.1) = x :: (l ++ [z])
      rw [h3]
    · rw [List.map_cons, List.sum_cons, h4]
theorem ring_read (k : Lk rows cs cz) {val : α → Int} (L : Low rows val (gOf rows cs cz)) (hne : ∀ r ∈ rows, r.1 ≠ r.2.1) {start : α} {l : List α} {s : Int} (h : Ch (gOf rows cs cz) start (start :: l) start s)
    (hl : ∀ a ∈ l, a ≠ start) : RingOk rows ((start :: l).map cz) := by
  obtain ⟨es, h1, h2, h3, h4⟩ := h.rights k
  have hs : s < 0 := L.neg start _ s (List.cons_ne_nil _ _) h
  refine ⟨es, ?_, ?_⟩
  · rw [← h1, List.map_map]
    rfl
  · cases h with
    | @cons _ y _ c s' _ e h' =>
      have nd : l.Nodup := h'.nodup (S := fun a => a = start) rfl hl
      refine ⟨?_, ?_, ?_, by rw [h4]; exact hs⟩
      · have hlen : es.length = l.length + 1 := by
          have := congrArg List.length h2
          rw [List.length_map] at this
          exact this
        rw [hlen]
        cases l with
        | cons _ _ => simp
        | nil =>
          cases h' with
          | nil => exact absurd rfl (hne _ (L.edge _ _ _ e).1)
      · rw [h2]
        exact List.nodup_cons.mpr ⟨fun m => hl _ m rfl, nd⟩
      · rw [h2]
        have h5 : es.map (·.2.1) = l ++ [start] := (List.cons.inj h3).2
        rw [h5]
        rfl

/-! ### a pass, and the measure -/
def span (rows : List (Row α)) : Int := ((rows.map fun r => r.2.2.natAbs).sum : Nat)
theorem span_le {rows : List (Row α)} {r : Row α} (h : r ∈ rows) : -span rows ≤ r.2.2 ∧ r.2.2 ≤ span rows := by
  have : r.2.2.natAbs ≤ (rows.map fun r => r.2.2.natAbs).sum := by
    induction rows with
    | nil => exact absurd h List.not_mem_nil
    | cons a t ih =>
      rw [List.map_cons, List.sum_cons]
      rcases List.mem_cons.mp h with e | e
      · subst e
        omega
      · have := ih e
        omega
  unfold span
  omega
theorem span_nonneg (rows : List (Row α)) : 0 ≤ span rows := Int.natCast_nonneg _
/-- how far the values are above what is the least for them -/
def pot (rows : List (Row α)) (ks : List α) (val : α → Int) : Int := (ks.map fun x => val x + span rows * (rows.length : Int)).sum
theorem sum_nonneg {β : Type} (f : β → Int) : ∀ l : List β, (∀ x ∈ l, 0 ≤ f x) → 0 ≤ (l.map f).sum
  | [], _ => Int.le_refl _
  | x :: l, h => by
    have := sum_nonneg f l fun y hy => h y (List.mem_cons_of_mem _ hy)
    have := h x List.mem_cons_self
    rw [List.map_cons, List.sum_cons]
    omega
theorem pot_nonneg {val : α → Int} {g : Gr α} (ks : List α) (L : Low rows val g) (hE : ∀ x, Ends g x) : 0 ≤ pot rows ks val := by
  refine sum_nonneg _ ks fun x _ => ?_
  have := L.floor hE (span_nonneg rows) (fun r hr => (span_le hr).1) x
  omega
theorem pot_put {val : α → Int} {ks : List α} {x : α} {w : Int} (hx : x ∈ ks) (h : w < val x) : pot rows ks (put val x w) < pot rows ks val := by
  refine sum_lt _ _ ks x hx (fun y _ => ?_) ?_
  · by_cases j : y = x
    · subst j
      rw [put_at]
      omega
    · rw [put_off j]
      exact Int.le_refl _
  · rw [put_at]
    omega

/-! ### the places of a turn -/
/-- the rounds of `_turn` at the beginning of turn i: what was met in earlier rounds ends -/
structure Met (g : Gr α) (cs rs : List α) (rn : α → Nat) (i : Nat) : Prop where
  nd : rs.Nodup
  sub : ∀ x ∈ rs, x ∈ cs
  ends : ∀ x ∈ rs, Ends g x ∧ rn x < i
  past : ∀ j x, j < i → cs[j]? = some x → Ends g x
theorem Met.start (g : Gr α) (cs : List α) (rn : α → Nat) : Met g cs [] rn 0 :=
  ⟨List.nodup_nil, fun x h => absurd h List.not_mem_nil, fun x h => absurd h List.not_mem_nil, fun j x h => absurd h (Nat.not_lt_zero _)⟩
/-- within turn i: rs the names met before, t those of this turn -/
structure MetIn (g : Gr α) (cs rs : List α) (rn : α → Nat) (i : Nat) (start : α) (t : List α) (name : α) : Prop where
  nd : (rs ++ t).Nodup
  sub : ∀ x ∈ rs ++ t, x ∈ cs
  ends : ∀ x ∈ rs, Ends g x ∧ rn x < i
  now : ∀ x ∈ t, rn x = i ∧ ∃ l s, l ≠ [] ∧ Ch g x l name s
  from_ : ∃ l s, Ch g start l name s
theorem MetIn.start {g : Gr α} {cs rs : List α} {rn : α → Nat} {i : Nat} (M : Met g cs rs rn i) (start : α) : MetIn g cs rs rn i start [] start := by
  refine ⟨by rw [List.append_nil]; exact M.nd, by rw [List.append_nil]; exact M.sub, M.ends, fun x h => absurd h List.not_mem_nil, [], 0, Ch.nil _⟩
theorem MetIn.step {g : Gr α} {cs rs : List α} {rn : α → Nat} {i : Nat} {start name y : α} {c : Int} {t : List α} (M : MetIn g cs rs rn i start t name) (hc : name ∈ cs) (hn : name ∉ rs ++ t) (e : g name = some (y, c)) :
    MetIn g cs rs (put rn name i) i start (t ++ [name]) y := by
  have one : Ch g name [name] y (c + 0) := Ch.cons e (Ch.nil y)
  refine ⟨?_, fun x hx => ?_, fun x hx => ?_, fun x hx => ?_, ?_⟩
  · rw [← List.append_assoc]
    refine List.nodup_append.mpr ⟨M.nd, nd_one _, fun a ha b hb => ?_⟩
    rw [List.mem_singleton] at hb
    subst hb
    exact fun q => hn (q ▸ ha)
  · rw [← List.append_assoc] at hx
    rcases List.mem_append.mp hx with q | q
    · exact M.sub x q
    · rw [List.mem_singleton] at q
      exact q ▸ hc
  · have ne : x ≠ name := fun q => hn (List.mem_append_left _ (q ▸ hx))
    rw [put_off ne]
    exact M.ends x hx
  · rcases List.mem_append.mp hx with q | q
    · have ne : x ≠ name := fun z => hn (List.mem_append_right _ (z ▸ q))
      obtain ⟨h1, l, s, h2, h3⟩ := M.now x q
      refine ⟨by rw [put_off ne]; exact h1, l ++ [name], _, fun z => ?_, h3.append one⟩
      exact List.cons_ne_nil _ _ (List.append_eq_nil_iff.mp z).2
    · rw [List.mem_singleton] at q
      subst q
      exact ⟨put_at _ _ _, _, _, List.cons_ne_nil _ _, one⟩
  · obtain ⟨l, s, h⟩ := M.from_
    exact ⟨_, _, h.append one⟩
/-- where the walk of turn i comes to something that ends, all of it ends -/
theorem MetIn.close {g : Gr α} {cs rs : List α} {rn : α → Nat} {i : Nat} {start name : α} {t : List α} (M : MetIn g cs rs rn i start t name) (hs : cs[i]? = some start) (h : Ends g name)
    (past : ∀ j x, j < i → cs[j]? = some x → Ends g x) : Met g cs (rs ++ t) rn (i + 1) := by
  refine ⟨M.nd, M.sub, fun x hx => ?_, fun j x hj hx => ?_⟩
  · rcases List.mem_append.mp hx with q | q
    · obtain ⟨h1, h2⟩ := M.ends x q
      exact ⟨h1, by omega⟩
    · obtain ⟨h1, l, s, _, h3⟩ := M.now x q
      exact ⟨ends_of h3 h, by omega⟩
  · by_cases k : j = i
    · subst k
      rw [hs] at hx
      injection hx with hx
      subst hx
      obtain ⟨l, s, h3⟩ := M.from_
      exact ends_of h3 h
    · exact past j x (by omega) hx
theorem Met.all {g : Gr α} {cs rs : List α} {rn : α → Nat} (M : Met g cs rs rn cs.length) (out : ∀ x, x ∉ cs → g x = none) (x : α) : Ends g x := by
  by_cases h : x ∈ cs
  · obtain ⟨j, hj, e⟩ := List.getElem_of_mem h
    exact M.past j x hj (by rw [List.getElem?_eq_getElem hj, e])
  · exact ends_none (out x h)
theorem MetIn.room {g : Gr α} {cs rs : List α} {rn : α → Nat} {i : Nat} {start name : α} {t : List α} (M : MetIn g cs rs rn i start t name) (hc : name ∈ cs) (hn : name ∉ rs ++ t) : (rs ++ t).length < cs.length := by
  have := nodup_le (name :: (rs ++ t)) cs (List.nodup_cons.mpr ⟨hn, M.nd⟩) fun x hx => by
    rcases List.mem_cons.mp hx with q | q
    · exact q ▸ hc
    · exact M.sub x q
  rw [List.length_cons] at this
  omega
end
end Lo
/-! Least sums of chains, told by the solutions: what a system implies. -/
namespace Lo
section
variable {α : Type} [DecidableEq α]
/-- each row that begins with a keeps the sums -/
def Done (rows : List (Row α)) (ss : List α) (sv : α → Int) (a : α) : Prop := ∀ r ∈ rows, r.1 = a → r.2.1 ∈ ss ∧ sv r.2.1 ≤ sv a + r.2.2
/-- the sums so far -/
structure Sums (rows : List (Row α)) (left : α) (ss : List α) (sv : α → Int) : Prop where
  nd : ss.Nodup
  sub : ∀ x ∈ ss, x = left ∨ ∃ r ∈ rows, x = r.2.1
  has : left ∈ ss
  low : sv left ≤ 0
  sound : ∀ x ∈ ss, ∀ u, Sat rows u → u left - u x ≤ sv x
  up : ∀ x ∈ ss, sv x ≤ span rows * (ss.length : Int)
variable {rows : List (Row α)} {left : α} {ss : List α} {sv : α → Int}
theorem Sums.start (rows : List (Row α)) (left : α) (sv : α → Int) (h : sv left = 0) : Sums rows left [left] sv := by
  refine ⟨nd_one left, fun x hx => .inl (List.mem_singleton.mp hx), List.mem_singleton.mpr rfl, by omega, fun x hx u _ => ?_, fun x hx => ?_⟩
  · rw [List.mem_singleton] at hx
    subst hx
    omega
  · rw [List.mem_singleton] at hx
    subst hx
    have := span_nonneg rows
    simp
    omega
/-- a name is reached, or a sum is lowered, by a row -/
theorem Sums.step (S : Sums rows left ss sv) {a b : α} {c : Int} (hr : (a, b, c) ∈ rows) (ha : a ∈ ss) (h : b ∈ ss → sv a + c < sv b) : Sums rows left (addN ss b) (put sv b (sv a + c)) := by
  have hc : -span rows ≤ c ∧ c ≤ span rows := span_le hr
  have h0 := span_nonneg rows
  have hsa := S.up a ha
  have grow : ∀ n : Nat, span rows * ((n : Nat) : Int) ≤ span rows * ((n + 1 : Nat) : Int) := fun n => by
    have : span rows * ((n + 1 : Nat) : Int) = span rows * (n : Int) + span rows := by
      rw [Int.natCast_add, Int.mul_add]
      omega
    omega
  have hlen : b ∉ ss → (addN ss b).length = ss.length + 1 := fun k => by
    unfold addN
    rw [if_neg k, List.length_append]
    rfl
  have hlen2 : b ∈ ss → (addN ss b).length = ss.length := fun k => by
    unfold addN
    rw [if_pos k]
  refine ⟨nodup_addN S.nd, fun x hx => ?_, mem_addN.mpr (.inl S.has), ?_, fun x hx u hu => ?_, fun x hx => ?_⟩
  · rcases mem_addN.mp hx with q | q
    · exact S.sub x q
    · exact .inr ⟨_, hr, q⟩
  · by_cases k : left = b
    · subst k
      have := h S.has
      have := S.low
      rw [put_at]
      omega
    · rw [put_off k]
      exact S.low
  · by_cases k : x = b
    · subst k
      rw [put_at]
      have h1 := S.sound a ha u hu
      have h2 := hu _ hr
      simp only at h2
      omega
    · rw [put_off k]
      exact S.sound x ((mem_addN.mp hx).resolve_right k) u hu
  · by_cases k : x = b
    · subst k
      rw [put_at]
      by_cases m : x ∈ ss
      · have h1 := h m
        have h2 := S.up x m
        rw [hlen2 m]
        omega
      · rw [hlen m]
        have : span rows * ((ss.length + 1 : Nat) : Int) = span rows * (ss.length : Int) + span rows := by
          rw [Int.natCast_add, Int.mul_add]
          omega
        omega
    · rw [put_off k]
      have m := (mem_addN.mp hx).resolve_right k
      have h1 := S.up x m
      by_cases j : b ∈ ss
      · rw [hlen2 j]
        exact h1
      · rw [hlen j]
        have := grow ss.length
        omega
/-- what was done stays done, but for the name that is lowered -/
theorem Done.step {a b x : α} {c : Int} (D : Done rows ss sv x) (hx : x ≠ b) (h : b ∈ ss → sv a + c < sv b) : Done rows (addN ss b) (put sv b (sv a + c)) x := fun r hr e => by
  obtain ⟨h1, h2⟩ := D r hr e
  refine ⟨mem_addN.mpr (.inl h1), ?_⟩
  rw [put_off hx]
  by_cases k : r.2.1 = b
  · rw [k, put_at]
    have := h (k ▸ h1)
    rw [k] at h2
    omega
  · rw [put_off k]
    exact h2
/-! ### the measure -/
def ends_ (rows : List (Row α)) (left : α) : List α := left :: rows.map (·.2.1)
def far (rows : List (Row α)) (left : α) (v : α → Int) : Int := (((ends_ rows left).map fun x => (v left - v x).natAbs).sum : Nat)
theorem far_le {v : α → Int} {x : α} (h : x ∈ ends_ rows left) : -(far rows left v) ≤ v left - v x := by
  have : (v left - v x).natAbs ≤ ((ends_ rows left).map fun x => (v left - v x).natAbs).sum := by
    generalize ends_ rows left = l at h ⊢
    induction l with
    | nil => exact absurd h List.not_mem_nil
    | cons a t ih =>
      rw [List.map_cons, List.sum_cons]
      rcases List.mem_cons.mp h with e | e
      · subst e
        omega
      · have := ih e
        omega
  unfold far
  omega
def slack (rows : List (Row α)) (left : α) (v : α → Int) (ss : List α) (sv : α → Int) (x : α) : Int :=
  if x ∈ ss then sv x - (v left - v x) else span rows * ((rows.length + 1 : Nat) : Int) + far rows left v + 1
def gap (rows : List (Row α)) (left : α) (v : α → Int) (ss : List α) (sv : α → Int) : Int := ((ends_ rows left).map (slack rows left v ss sv)).sum
theorem Sums.few (S : Sums rows left ss sv) : ss.length ≤ rows.length + 1 := by
  have := nodup_le ss (ends_ rows left) S.nd fun x hx => by
    rcases S.sub x hx with e | ⟨r, hr, e⟩
    · exact e ▸ List.mem_cons_self
    · exact List.mem_cons_of_mem _ (List.mem_map.mpr ⟨r, hr, e.symm⟩)
  unfold ends_ at this
  rw [List.length_cons, List.length_map] at this
  exact this
theorem far_nonneg (rows : List (Row α)) (left : α) (v : α → Int) : 0 ≤ far rows left v := Int.natCast_nonneg _
theorem Sums.gap_nonneg (S : Sums rows left ss sv) {v : α → Int} (hv : Sat rows v) : 0 ≤ gap rows left v ss sv := by
  refine sum_nonneg _ _ fun x _ => ?_
  unfold slack
  split
  · rename_i h
    have := S.sound x h v hv
    omega
  · have h1 := far_nonneg rows left v
    have h2 : 0 ≤ span rows * ((rows.length + 1 : Nat) : Int) := Int.mul_nonneg (span_nonneg rows) (Int.natCast_nonneg _)
    omega
theorem Sums.gap_step (S : Sums rows left ss sv) {v : α → Int} {a b : α} {c : Int} (hr : (a, b, c) ∈ rows) (ha : a ∈ ss) (h : b ∈ ss → sv a + c < sv b) :
    gap rows left v (addN ss b) (put sv b (sv a + c)) < gap rows left v ss sv := by
  have S' := S.step hr ha h
  have hb : b ∈ ends_ rows left := List.mem_cons_of_mem _ (List.mem_map.mpr ⟨_, hr, rfl⟩)
  have key : slack rows left v (addN ss b) (put sv b (sv a + c)) b < slack rows left v ss sv b := by
    unfold slack
    rw [if_pos (mem_addN.mpr (.inr rfl)), put_at]
    by_cases k : b ∈ ss
    · rw [if_pos k]
      have := h k
      omega
    · rw [if_neg k]
      have h1 := S'.up b (mem_addN.mpr (.inr rfl))
      rw [put_at] at h1
      have h2 : span rows * ((addN ss b).length : Int) ≤ span rows * ((rows.length + 1 : Nat) : Int) := Int.mul_le_mul_of_nonneg_left (by have := S'.few; omega) (span_nonneg rows)
      have h3 := far_le (v := v) hb
      omega
  refine sum_lt _ _ _ b hb (fun x _ => ?_) key
  by_cases k : x = b
  · rw [k]
    exact Int.le_of_lt key
  · unfold slack
    rw [put_off k]
    by_cases m : x ∈ ss
    · rw [if_pos m, if_pos (mem_addN.mpr (.inl m))]
      exact Int.le_refl _
    · rw [if_neg m, if_neg fun q => k ((mem_addN.mp q).resolve_left m)]
      exact Int.le_refl _
/-! ### at the end -/
theorem big_le (f : Row α → Int) {r : Row α} (h : r ∈ rows) : f r ≤ (((rows.map fun r => (f r).natAbs).sum : Nat) : Int) := by
  have : (f r).natAbs ≤ (rows.map fun r => (f r).natAbs).sum := by
    induction rows with
    | nil => exact absurd h List.not_mem_nil
    | cons a t ih =>
      rw [List.map_cons, List.sum_cons]
      rcases List.mem_cons.mp h with e | e
      · subst e
        omega
      · have := ih e
        omega
  omega
/-- a solution with a greater difference -/
theorem Sums.wide (S : Sums rows left ss sv) (hd : ∀ a ∈ ss, Done rows ss sv a) {v : α → Int} (hv : Sat rows v) {right : α} {n : Int} (h : right ∈ ss → n < sv right) : ∃ u, Sat rows u ∧ n + 1 ≤ u left - u right := by
  refine ⟨fun x => if x ∈ ss then -sv x else v x - ((((rows.map fun r => (v r.1 + sv r.2.1 - r.2.2).natAbs).sum : Nat) : Int) + ((n + 1 + v right).natAbs : Int)), fun r hr => ?_, ?_⟩
  · show (if r.1 ∈ ss then _ else _) - (if r.2.1 ∈ ss then _ else _) ≤ r.2.2
    have hb : v r.1 + sv r.2.1 - r.2.2 ≤ _ := big_le (fun r => v r.1 + sv r.2.1 - r.2.2) hr
    have hs := hv r hr
    by_cases k : r.1 ∈ ss
    · obtain ⟨h1, h2⟩ := hd r.1 k r hr rfl
      rw [if_pos k, if_pos h1]
      omega
    · rw [if_neg k]
      by_cases j : r.2.1 ∈ ss
      · rw [if_pos j]
        omega
      · rw [if_neg j]
        omega
  · show n + 1 ≤ (if left ∈ ss then _ else _) - (if right ∈ ss then _ else _)
    rw [if_pos S.has]
    have hl := S.low
    by_cases k : right ∈ ss
    · rw [if_pos k]
      have := h k
      omega
    · rw [if_neg k]
      omega
/-- what a difference is implied by -/
def Told (rows : List (Row α)) (left right : α) (limit : Int) : Prop := ∀ u, Sat rows u → u left - u right ≤ limit
/-- the greatest value of left minus right (none: there is none) -/
def Best (rows : List (Row α)) (left right : α) (r : Option Int) : Prop := (∀ k, r = some k → Told rows left right k) ∧ ∀ n, (∀ k, r = some k → n < k) → ¬ Told rows left right n
theorem Sums.best (S : Sums rows left ss sv) (hd : ∀ a ∈ ss, Done rows ss sv a) {v : α → Int} (hv : Sat rows v) (right : α) : Best rows left right (if right ∈ ss then some (sv right) else none) := by
  refine ⟨fun k e => ?_, fun n h t => ?_⟩
  · by_cases m : right ∈ ss
    · rw [if_pos m] at e
      injection e with e
      subst e
      exact S.sound right m
    · rw [if_neg m] at e
      cases e
  · obtain ⟨u, h1, h2⟩ := S.wide hd hv (right := right) (n := n) fun m => h _ (by rw [if_pos m])
    have := t u h1
    omega
theorem told_denied {right : α} {limit : Int} : (∃ u, Sat (rows ++ [(right, left, 0 - limit - 1)]) u) ↔ ¬ Told rows left right limit := by
  constructor
  · rintro ⟨u, hu⟩ t
    have h1 := t u fun r hr => hu r (List.mem_append_left _ hr)
    have h2 := hu (right, left, 0 - limit - 1) (List.mem_append_right _ (List.mem_singleton.mpr rfl))
    simp only at h2
    omega
  · intro h
    have : ∃ u, Sat rows u ∧ ¬ u left - u right ≤ limit := by
      refine Classical.byContradiction fun k => h fun u hu => Classical.byContradiction fun j => k ⟨u, hu, j⟩
    obtain ⟨u, h1, h2⟩ := this
    refine ⟨u, fun r hr => ?_⟩
    rcases List.mem_append.mp hr with q | q
    · exact h1 r q
    · rw [List.mem_singleton] at q
      subst q
      show u right - u left ≤ 0 - limit - 1
      omega
theorem told_own {l r : α} {c : Int} (h : (l, r, c) ∈ rows) : Told rows l r c := fun u hu => hu _ h
end
end Lo
namespace Lo
open PySem L2
abbrev SRow := Row Str
/-! ### dicts with text keys -/
def dS (ks : List Str) (f : Str → V) : List (Key × V) := ks.map fun x => ((Sum.inr x : Key), f x)
theorem dS_len (ks : List Str) (f : Str → V) : (dS ks f).length = ks.length := List.length_map ..
theorem dS_val (f : Str → V) (x : Str) : ∀ ks : List Str, valV (dS ks f) (Sum.inr x) = if x ∈ ks then some (f x) else none
  | [] => rfl
  | y :: ks => by
    have ih := dS_val f x ks
    by_cases h : y = x
    · subst h
      rw [if_pos List.mem_cons_self]
      exact valV_pos (p := ((Sum.inr y : Key), f y)) rfl
    · have e : valV (dS (y :: ks) f) (Sum.inr x) = valV (dS ks f) (Sum.inr x) := valV_neg (p := ((Sum.inr y : Key), f y)) fun q => h (Sum.inr.inj q)
      rw [e, ih]
      by_cases m : x ∈ ks
      · rw [if_pos m, if_pos (List.mem_cons_of_mem _ m)]
      · rw [if_neg m, if_neg fun q => (List.mem_cons.mp q).elim (fun z => h z.symm) m]
theorem dS_in {ks : List Str} {f : Str → V} {x : Str} (h : x ∈ ks) : valV (dS ks f) (Sum.inr x) = some (f x) := by rw [dS_val, if_pos h]
theorem dS_out {ks : List Str} {f : Str → V} {x : Str} (h : x ∉ ks) : valV (dS ks f) (Sum.inr x) = none := by rw [dS_val, if_neg h]
theorem dS_congr {ks : List Str} {f g : Str → V} (h : ∀ x ∈ ks, f x = g x) : dS ks f = dS ks g := List.map_congr_left fun x hx => by rw [h x hx]
theorem dS_any {ks : List Str} {f : Str → V} {x : Str} : ((dS ks f).any fun kv => decide (kv.1 = Sum.inr x)) = true ↔ x ∈ ks := by
  rw [valV_any, dS_val]
  by_cases m : x ∈ ks
  · rw [if_pos m]
    exact ⟨fun _ => m, fun _ => rfl⟩
  · rw [if_neg m]
    exact ⟨(fun q => nomatch q), fun q => absurd q m⟩
theorem dS_put (ks : List Str) (f : Str → V) (x : Str) (v : V) : putK (dS ks f) (Sum.inr x) v = dS (addN ks x) (put f x v) := by
  unfold putK addN
  by_cases m : x ∈ ks
  · rw [if_pos (dS_any.mpr m), if_pos m]
    unfold dS
    rw [List.map_map]
    refine List.map_congr_left fun y _ => ?_
    show (if (Sum.inr y : Key) = Sum.inr x then ((Sum.inr y : Key), v) else ((Sum.inr y : Key), f y)) = ((Sum.inr y : Key), put f x v y)
    by_cases j : y = x
    · subst j
      rw [if_pos rfl, put_at]
    · rw [if_neg fun q => j (Sum.inr.inj q), put_off j]
  · rw [if_neg fun q => m (dS_any.mp q), if_neg m]
    have e : dS ks (put f x v) = dS ks f := dS_congr fun y hy => put_off fun q => m (q ▸ hy)
    show dS ks f ++ [((Sum.inr x : Key), v)] = (ks ++ [x]).map _
    rw [List.map_append]
    show _ = dS ks (put f x v) ++ [((Sum.inr x : Key), put f x v x)]
    rw [e, put_at]
theorem dS_keys (ks : List Str) (f : Str → V) : (dS ks f).map (fun kv => kV kv.1) = ks.map V.str := by
  unfold dS
  rw [List.map_map]
  rfl
theorem dget {H : Hp} {a : Addr} {ks : List Str} {f : Str → V} {x : Str} (e : H a = some (.dK (dS ks f))) (h : x ∈ ks) : DGet H a (.str x) (some (f x)) := by
  have q := DGet.k (k := Sum.inr x) e
  rw [dS_in h] at q
  exact q
theorem dget0 {H : Hp} {a : Addr} {ks : List Str} {f : Str → V} {x : Str} (e : H a = some (.dK (dS ks f))) (h : x ∉ ks) : DGet H a (.str x) none := by
  have q := DGet.k (k := Sum.inr x) e
  rw [dS_out h] at q
  exact q
theorem dgetI {H : Hp} {a : Addr} {ks : List Str} {f : Str → V} (x : Str) (e : H a = some (.dK (dS ks f))) : DGet H a (.str x) (if x ∈ ks then some (f x) else none) := by
  have q := DGet.k (k := Sum.inr x) e
  rw [dS_val] at q
  exact q
theorem dput {H : Hp} {a : Addr} {ks : List Str} {f : Str → V} (x : Str) (v : V) (e : H a = some (.dK (dS ks f))) (h : ks.length ≤ 1000) : DPut H a (.str x) v (upd H a (.dK (dS (addN ks x) (put f x v)))) := by
  have q := DPut.k (k := Sum.inr x) (v := v) e (by rw [dS_len]; exact small1000 h)
  rw [dS_put] at q
  exact q
/-! ### heaps -/
theorem same_upd {H : Hp} {p : Addr} {o : HO} (h : H p = none) : Same H (upd H p o) := fun b x e => by
  rw [upd_ne (ne_of_none e h)]
  exact e
/-- what was tracked at the beginning is as it was, though a later thing changes -/
theorem _root_.L2.Same.later {H H' : Hp} {p : Addr} {o : HO} (s : Same H H') (h : H p = none) : Same H (upd H' p o) := fun b x e => by
  rw [upd_ne (ne_of_none e h)]
  exact s b x e
/-! ### systems -/
def rowV (r : SRow) : List V := [.str r.1, .str r.2.1, .int r.2.2]
def RowT (H : Hp) (p : Addr) (r : SRow) : Prop := H p = some (.tup (rowV r))
def RowA (H : Hp) (p : Addr) (r : SRow) : Prop := H p = some (.tup (rowV r)) ∨ H p = some (.lst (rowV r))
/-- a list of rows at a -/
def Sys (R : Hp → Addr → SRow → Prop) (H : Hp) (a : Addr) (rows : List SRow) : Prop :=
  ∃ ps : List Addr, H a = some (.lst (ps.map V.ref)) ∧ ps.length = rows.length ∧ ∀ (i : Nat) (p : Addr) (r : SRow), ps[i]? = some p → rows[i]? = some r → R H p r
def Good1 (r : SRow) : Prop := r.1 ≠ r.2.1 ∧ r.1 ≠ ("" : Str) ∧ r.2.1 ≠ ("" : Str)
structure Good (rows : List SRow) : Prop where
  row : ∀ r ∈ rows, Good1 r
  few : rows.length ≤ 100
theorem RowT.same {H H' : Hp} {p : Addr} {r : SRow} (s : Same H H') (h : RowT H p r) : RowT H' p r := s _ _ h
theorem RowA.same {H H' : Hp} {p : Addr} {r : SRow} (s : Same H H') (h : RowA H p r) : RowA H' p r := h.imp (fun h => s _ _ h) fun h => s _ _ h
theorem RowT.any {H : Hp} {p : Addr} {r : SRow} (h : RowT H p r) : RowA H p r := .inl h
theorem Sys.sameT {H H' : Hp} {a : Addr} {rows : List SRow} (s : Same H H') (h : Sys RowT H a rows) : Sys RowT H' a rows := by
  obtain ⟨ps, h1, h2, h3⟩ := h
  exact ⟨ps, s _ _ h1, h2, fun i p r hp hr => (h3 i p r hp hr).same s⟩
theorem Sys.sameA {H H' : Hp} {a : Addr} {rows : List SRow} (s : Same H H') (h : Sys RowA H a rows) : Sys RowA H' a rows := by
  obtain ⟨ps, h1, h2, h3⟩ := h
  exact ⟨ps, s _ _ h1, h2, fun i p r hp hr => (h3 i p r hp hr).same s⟩
theorem Sys.any {H : Hp} {a : Addr} {rows : List SRow} (h : Sys RowT H a rows) : Sys RowA H a rows := by
  obtain ⟨ps, h1, h2, h3⟩ := h
  exact ⟨ps, h1, h2, fun i p r hp hr => (h3 i p r hp hr).any⟩
/-- the i-th row of a system -/
theorem Sys.at {R : Hp → Addr → SRow → Prop} {H : Hp} {rows : List SRow} {ps : List Addr} (h2 : ps.length = rows.length) (h3 : ∀ (i : Nat) (p : Addr) (r : SRow), ps[i]? = some p → rows[i]? = some r → R H p r) {i : Nat} {v : V} (hv : (ps.map V.ref)[i]? = some v) :
    ∃ p r, v = .ref p ∧ ps[i]? = some p ∧ rows[i]? = some r ∧ r ∈ rows ∧ i < rows.length ∧ R H p r := by
  rw [List.getElem?_map] at hv
  cases e : ps[i]? with
  | none =>
    rw [e] at hv
    cases hv
  | some p =>
    rw [e] at hv
    have hi : i < ps.length := (List.getElem?_eq_some_iff.mp e).1
    have hi2 : i < rows.length := h2 ▸ hi
    refine ⟨p, rows[i], (Option.some.inj hv).symm, rfl, List.getElem?_eq_getElem hi2, List.getElem_mem hi2, hi2, h3 i p _ e (List.getElem?_eq_getElem hi2)⟩
/-- what the module's names hold -/
structure Blt (mg : Str → Option Value) : Prop where
  isi : mg "isinstance" = none
  int : mg "int" = none
  bool : mg "bool" = none
  str : mg "str" = none
  tuple : mg "tuple" = none
  list : mg "list" = none
  len : mg "len" = none
  enum : mg "enumerate" = none
  range : mg "range" = none
  all : mg "all" = none
end Lo
namespace Lo
open PySem L2
def top (i : Nat) : Stmt := PySem.Challenge.pw_loopsheds_k10_spread.main.body.getD i (.Pass ⟨0, 0, 0, 0⟩)
abbrev sWhole : Stmt := top 8
abbrev sSide : Stmt := top 9
abbrev sDiff : Stmt := top 11

section
variable {P : Program} {w : World} {K : PySem.W.Frag} {mg : Str → Option Value} {base : Heap}
/-! ### is_whole, is_side, is_difference -/
def spWhole : Sp := fun vs H Q _ => ∃ i : Int, vs = [.int i] ∧ Q (.bl true) H
theorem scWhole : FnScope ["thing"] ["thing"] (defScope sWhole) := ⟨rfl, rfl, rfl, by decide +kernel, rfl, by decide +kernel, by decide +kernel⟩
theorem ok_whole {f : Addr} {fd : FuncData} (F : Fun K "is_whole" "is_whole" sWhole f fd) (T : Blt mg) : FnOk P w K mg base CX0 1 f fd ["thing"] spWhole := by
  refine F.ok scWhole (fun vs H Q E h => ?_) (fun cdv A outer s H vs Q E hr h => ?_)
  · obtain ⟨i, rfl, _⟩ := h
    rfl
  · obtain ⟨i, rfl, q⟩ := h
    refine ⟨_, pss_one (ps_ret (pe_and (pe_callB call_isi (by rfl) T.isi PyProof.Rows.boot_isinstance (pa_cons (pv 0) (pa_cons (pe_bltn (v := .ty "int") rfl T.int PyProof.Rows.boot_int rfl) pa_nil)))
      (pe_one (pe_not (pe_callB call_isi (by rfl) T.isi PyProof.Rows.boot_isinstance (pa_cons (pv 0) (pa_cons (pe_bltn (v := .ty "bool") rfl T.bool PyProof.Rows.boot_bool rfl) pa_nil))))))), ?_⟩
    refine ⟨_, rfl, _, _, _, _, true, rfl, .ty _, .base (.int _), kit_ty (by decide +kernel), true, rfl, iteT ?_⟩
    exact ⟨_, rfl, _, _, _, _, false, rfl, .ty _, .base (.int _), kit_ty (by decide +kernel), false, rfl, q⟩
def spSide : Sp := fun vs H Q _ => ∃ x : Str, vs = [.str x] ∧ x ≠ ("" : Str) ∧ Q (.bl true) H
theorem scSide : FnScope ["thing"] ["thing"] (defScope sSide) := ⟨rfl, rfl, rfl, by decide +kernel, rfl, by decide +kernel, by decide +kernel⟩
theorem ok_side {f : Addr} {fd : FuncData} (F : Fun K "is_side" "is_side" sSide f fd) (T : Blt mg) : FnOk P w K mg base CX0 1 f fd ["thing"] spSide := by
  refine F.ok scSide (fun vs H Q E h => ?_) (fun cdv A outer s H vs Q E hr h => ?_)
  · obtain ⟨i, rfl, _⟩ := h
    rfl
  · obtain ⟨x, rfl, hx, q⟩ := h
    refine ⟨_, pss_one (ps_ret (pe_and (pe_callB call_isi (by rfl) T.isi PyProof.Rows.boot_isinstance (pa_cons (pv 0) (pa_cons (pe_bltn (v := .ty "str") rfl T.str PyProof.Rows.boot_str rfl) pa_nil)))
      (pe_one (pe_cmpR op_ne (pv 0) pe_str (nomark _))))), ?_⟩
    refine ⟨_, rfl, _, _, _, _, true, rfl, .ty _, .base (.str _), kit_ty (by decide +kernel), true, rfl, iteT ?_⟩
    refine ⟨_, rfl, rfl, ?_⟩
    rw [decide_eq_false (fun e => hx (V.str.inj e))]
    exact q
def spDiff : Sp := fun vs H Q _ => ∃ (p : Addr) (r : SRow), vs = [.ref p] ∧ RowA H p r ∧ Good1 r ∧ ∀ H', Same H H' → Q (.bl true) H'
theorem scDiff : FnScope ["thing", "left", "right", "limit"] ["thing"] (defScope sDiff) := ⟨rfl, rfl, rfl, by decide +kernel, rfl, by decide +kernel, by decide +kernel⟩
/-- a, b, c = a tuple or a list -/
theorem pg_either {X : Cx} {pos : Pos} {es : List Expr} {k : Nat} {t : TGs} {n : Nat} (hc : X.calm = true) (h : PGs X es t)
    (hn : (assignEach es X.env).length = n := by rfl) (hst : (assignEach es X.env).findIdx? (·.1) = none := by rfl) :
    PG X (.Tuple es k pos) (fun v σ H Q => gTup X.K n t v σ H Q ∨ gUnl X.K n t v σ H Q) := by
  refine ⟨fun pins s σ H v u Q I r hw => ?_⟩
  rcases hw with hw | hw
  · exact (pg_tup hc h hn hst).run pins s σ H v u Q I r hw
  · exact (pg_unl hc h hn hst).run pins s σ H v u Q I r hw
theorem ok_diff {f fS fW : Addr} {fd fdS fdW : FuncData} (F : Fun K "is_difference" "is_difference" sDiff f fd) (T : Blt mg) (FS : Fun K "is_side" "is_side" sSide fS fdS) (bS : Binds K fdS ["thing"] []) (gS : mg "is_side" = some (.ref fS))
    (FW : Fun K "is_whole" "is_whole" sWhole fW fdW) (bW : Binds K fdW ["thing"] []) (gW : mg "is_whole" = some (.ref fW)) : FnOk P w K mg base CX0 2 f fd ["thing"] spDiff := by
  have GS : FnOk P w K mg base CX0 1 fS fdS ["thing"] spSide := ok_side FS T
  have GW : FnOk P w K mg base CX0 1 fW fdW ["thing"] spWhole := ok_whole FW T
  refine F.ok scDiff (fun vs H Q E h => ?_) (fun cdv A outer s H vs Q E hr h => ?_)
  · obtain ⟨p, r, rfl, _⟩ := h
    rfl
  · obtain ⟨p, r, rfl, hR, ⟨g1, g2, g3⟩, q⟩ := h
    refine ⟨_, pss_cons (ps_if (PW.pt (pw_or (pt_not (pt_val (pe_callB call_isiT (by rfl) T.isi PyProof.Rows.boot_isinstance (pa_cons (pv 0)
            (pa_cons (pe_tup (pa_cons (pe_bltn (v := .ty "tuple") rfl T.tuple PyProof.Rows.boot_tuple rfl) (pa_cons (pe_bltn (v := .ty "list") rfl T.list PyProof.Rows.boot_list rfl) pa_nil))) pa_nil)))))
          (pw_or1 (pt_cmpR op_ne (pe_callB call_len_seq (by rfl) T.len PySem.boot_len (pa_cons (pv 0) pa_nil)) pe_int (nomark _)))))
        (pss_one (ps_ret pe_bl)) pss_nil)
      (pss_cons (ps_asg (pv 0) (pg_either rfl (pgs_cons (pg_name (i := 1) scDiff.nd rfl (.inl rfl)) (pgs_cons (pg_name (i := 2) scDiff.nd rfl (.inl rfl)) (pgs_cons (pg_name (i := 3) scDiff.nd rfl (.inl rfl)) pgs_nil)))))
      (pss_one (ps_ret (pe_and (pe_call GS hr (by rfl) gS FS.kp bS .nil pass0 (pa_cons (pv 1) pa_nil)) (pe_and (pe_call GS hr (by rfl) gS FS.kp bS .nil pass0 (pa_cons (pv 2) pa_nil))
        (pe_and (pe_cmpR op_ne (pv 1) (pv 2) (nomark _)) (pe_one (pe_call GW hr (by rfl) gW FW.kp bW .nil pass0 (pa_cons (pv 3) pa_nil))))))))), ?_⟩
    refine ⟨_, rfl, by show 2 ≤ sizeLine; decide, fun tp ntp => ?_⟩
    have s1 : Same H (upd H tp (.tup [.ty "tuple", .ty "list"])) := same_upd ntp
    have hR1 := hR.same s1
    rcases hR1 with hR1 | hR1
    · refine ⟨.ref p, tp, _, _, [.type "tuple", .type "list"], true, rfl, upd_same, .cons (.ty _) (.cons (.ty _) .nil), .base (.tup hR1), ?_, ?_⟩
      · exact kitAny_cons (b := true) (kit_ty (by decide +kernel)) (fun z => nomatch z) (fun _ => rfl)
      · refine ⟨true, rfl, iteF ⟨.ref p, rfl, p, rowV r, rfl, .inr (SqT.of hR1), rfl, false, rfl, iteF ?_⟩⟩
        refine ⟨.ref p, rfl, .inl ⟨p, rowV r, rfl, SqT.of hR1, rfl, ?_⟩⟩
        refine ⟨_, _, rfl, _, _, rfl, _, _, rfl, rfl, ?_⟩
        refine ⟨_, rfl, _, rfl, g2, true, rfl, iteT ?_⟩
        refine ⟨_, rfl, _, rfl, g3, true, rfl, iteT ?_⟩
        refine ⟨_, rfl, _, rfl, rfl, _, rfl, ?_⟩
        rw [decide_eq_false (fun e => g1 (V.str.inj e))]
        exact iteT ⟨_, rfl, _, rfl, q _ s1⟩
    · refine ⟨.ref p, tp, _, _, [.type "tuple", .type "list"], true, rfl, upd_same, .cons (.ty _) (.cons (.ty _) .nil), .base (.lst hR1), ?_, ?_⟩
      · exact kitAny_cons (b := false) (kit_ty (by decide +kernel)) (fun _ => kitAny_cons (b := true) (kit_ty (by decide +kernel)) (fun z => nomatch z) (fun _ => rfl)) (fun z => nomatch z)
      · refine ⟨true, rfl, iteF ⟨.ref p, rfl, p, rowV r, rfl, .inl (SqL.of hR1), rfl, false, rfl, iteF ?_⟩⟩
        refine ⟨.ref p, rfl, .inr ⟨p, rowV r, rfl, SqL.of hR1, rfl, ?_⟩⟩
        refine ⟨_, _, rfl, _, _, rfl, _, _, rfl, rfl, ?_⟩
        refine ⟨_, rfl, _, rfl, g2, true, rfl, iteT ?_⟩
        refine ⟨_, rfl, _, rfl, g3, true, rfl, iteT ?_⟩
        refine ⟨_, rfl, _, rfl, rfl, _, rfl, ?_⟩
        rw [decide_eq_false (fun e => g1 (V.str.inj e))]
        exact iteT ⟨_, rfl, _, rfl, q _ s1⟩
end
end Lo
namespace Lo
open PySem L2
section
variable {P : Program} {w : World} {K : PySem.W.Frag} {mg : Str → Option Value} {base : Heap}
/-! ### names_of -/
def Named (rows : List SRow) (x : Str) : Prop := ∃ r ∈ rows, x = r.1 ∨ x = r.2.1
/-- the names of the first i rows -/
def namesTo (rows : List SRow) : Nat → List Str
  | 0 => []
  | i + 1 => match rows[i]? with
    | some r => addN (addN (namesTo rows i) r.1) r.2.1
    | none => namesTo rows i
theorem namesTo_succ {rows : List SRow} {i : Nat} {r : SRow} (h : rows[i]? = some r) : namesTo rows (i + 1) = addN (addN (namesTo rows i) r.1) r.2.1 := by
  show (match rows[i]? with
    | some r => addN (addN (namesTo rows i) r.1) r.2.1
    | none => namesTo rows i) = _
  rw [h]
theorem namesTo_len (rows : List SRow) : ∀ i, (namesTo rows i).length ≤ 2 * i
  | 0 => Nat.le_refl _
  | i + 1 => by
    have ih := namesTo_len rows i
    show (match rows[i]? with
      | some r => addN (addN (namesTo rows i) r.1) r.2.1
      | none => namesTo rows i).length ≤ _
    cases rows[i]? with
    | none => simp only; omega
    | some r =>
      have h1 := length_addN (l := namesTo rows i) (x := r.1)
      have h2 := length_addN (l := addN (namesTo rows i) r.1) (x := r.2.1)
      simp only
      omega
theorem namesTo_nd (rows : List SRow) : ∀ i, (namesTo rows i).Nodup
  | 0 => List.nodup_nil
  | i + 1 => by
    have ih := namesTo_nd rows i
    show (match rows[i]? with
      | some r => addN (addN (namesTo rows i) r.1) r.2.1
      | none => namesTo rows i).Nodup
    cases rows[i]? with
    | none => exact ih
    | some r => exact nodup_addN (nodup_addN ih)
theorem namesTo_mem (rows : List SRow) (x : Str) : ∀ i, i ≤ rows.length → (x ∈ namesTo rows i ↔ ∃ (j : Nat) (r : SRow), j < i ∧ rows[j]? = some r ∧ (x = r.1 ∨ x = r.2.1))
  | 0, _ => ⟨fun h => absurd h List.not_mem_nil, fun ⟨j, _, h, _⟩ => absurd h (Nat.not_lt_zero _)⟩
  | i + 1, hi => by
    have ih := namesTo_mem rows x i (by omega)
    have e : rows[i]? = some rows[i] := List.getElem?_eq_getElem (by omega)
    rw [namesTo_succ e, mem_addN, mem_addN, ih]
    constructor
    · rintro ((⟨j, r, h1, h2, h3⟩ | h) | h)
      · exact ⟨j, r, by omega, h2, h3⟩
      · exact ⟨i, _, by omega, e, .inl h⟩
      · exact ⟨i, _, by omega, e, .inr h⟩
    · rintro ⟨j, r, h1, h2, h3⟩
      by_cases k : j = i
      · subst k
        rw [e] at h2
        have := Option.some.inj h2
        subst this
        exact h3.elim (fun z => .inl (.inr z)) .inr
      · exact .inl (.inl ⟨j, r, by omega, h2, h3⟩)
theorem namesTo_all {rows : List SRow} {x : Str} : x ∈ namesTo rows rows.length ↔ Named rows x := by
  rw [namesTo_mem rows x _ (Nat.le_refl _)]
  constructor
  · rintro ⟨j, r, _, h2, h3⟩
    exact ⟨r, List.mem_of_getElem? h2, h3⟩
  · rintro ⟨r, h2, h3⟩
    obtain ⟨j, hj, e⟩ := List.getElem_of_mem h2
    exact ⟨j, r, hj, by rw [List.getElem?_eq_getElem hj, e], h3⟩
end
end Lo
namespace Lo
open PySem L2
theorem put_map {α β γ : Type} [DecidableEq α] (F : β → γ) (f : α → β) (a : α) (b : β) : put (fun x => F (f x)) a (F b) = fun x => F (put f a b x) := by
  funext x
  unfold put
  split <;> rfl
end Lo
namespace Lo
open PySem L2
abbrev sDraw : Stmt := top 55
abbrev sPool : Stmt := top 56
theorem fmod_in {i j : Int} (h : 0 < j) : 0 ≤ i.fmod j ∧ i.fmod j < j := by
  rw [Int.fmod_eq_emod_of_nonneg _ (Int.le_of_lt h)]
  exact ⟨Int.emod_nonneg _ (by omega), Int.emod_lt_of_pos _ h⟩
theorem other_ne {o d n : Int} (h0 : 0 ≤ o) (h1 : o < n) (h2 : 0 ≤ d) (h3 : d < n - 1) : 0 ≤ (o + 1 + d).fmod n ∧ (o + 1 + d).fmod n < n ∧ (o + 1 + d).fmod n ≠ o := by
  have hn : 0 < n := by omega
  obtain ⟨a, b⟩ := fmod_in (i := o + 1 + d) hn
  refine ⟨a, b, ?_⟩
  rw [Int.fmod_eq_emod_of_nonneg _ (Int.le_of_lt hn)]
  by_cases k : o + 1 + d < n
  · rw [Int.emod_eq_of_lt (by omega) k]
    omega
  · have e : o + 1 + d = (o + 1 + d - n) + n := by omega
    rw [e, Int.add_emod_right, Int.emod_eq_of_lt (by omega) (by omega)]
    omega
theorem dpInts {K : PySem.W.Frag} {H : Hp} : ∀ ns : List Int, DpAll K H (ns.map V.int) (ns.map PyData.int)
  | [] => .nil
  | n :: ns => .cons (.int n) (dpInts ns)
theorem eqv_nil (ns : List Int) : PyData.eqv (.list (ns.map PyData.int)) (.list []) = decide (ns = []) := by
  cases ns with
  | nil => rfl
  | cons n ns => exact (decide_eq_false (fun z => nomatch z)).symm
/-- int(e), e an int -/
theorem call_intI {X : Cx} : CallR X (.type "int") (fun xs H Q => ∃ i, xs = [.int i] ∧ Q (.int i) H) := fun pins s σ H xs us Q I r ⟨i, e, q⟩ => call_int1 pins s σ H xs us Q I r (.inl ⟨i, e, q⟩)
section
variable {P : Program} {w : World} {K : PySem.W.Frag} {mg : Str → Option Value} {base : Heap}
/-- the script at s -/
def Scr (K : PySem.W.Frag) (H : Hp) (s : Addr) : Prop := ∃ ns : List Int, SqL K H s (ns.map V.int) ∧ ns.length ≤ 63
theorem Scr.same {H H' : Hp} {s : Addr} (e : Same H H') (h : Scr K H s) : Scr K H' s := by
  obtain ⟨ns, h1, h2⟩ := h
  exact ⟨ns, e.seq h1, h2⟩
/-! ### _law_draw -/
def spDraw (K : PySem.W.Frag) : Sp := fun vs H Q _ => ∃ (s : Addr) (at_ many : Int), vs = [.ref s, .int at_, .int many] ∧ Scr K H s ∧ 1 ≤ many ∧ ∀ H' k, Same H H' → 0 ≤ k → k < many → Q (.int k) H'
abbrev nDraw : List Str := ["script", "at", "many", "row", "cell", "turn", "step", "mixed"]
theorem scDraw : FnScope nDraw ["script", "at", "many"] (defScope sDraw) := ⟨rfl, rfl, rfl, by decide +kernel, rfl, by decide +kernel, by decide +kernel⟩
theorem ok_draw {f : Addr} {fd : FuncData} (F : Fun K "_law_draw" "_law_draw" sDraw f fd) (T : Blt mg) : FnOk P w K mg base CX0 1 f fd ["script", "at", "many"] (spDraw K) := by
  refine F.ok scDraw (fun vs H Q E h => ?_) (fun cdv A outer s H vs Q E hr h => ?_)
  · obtain ⟨s, a, m, rfl, _⟩ := h
    rfl
  · obtain ⟨s, a, m, rfl, ⟨ns, hS, hlen⟩, hm, q⟩ := h
    have nd := scDraw.nd
    refine ⟨_, pss_cons (ps_set (i := 3) nd rfl (.inl rfl) (pe_ifExp (pt_cmpR (op_neD hr.units) (pv 0) (pe_lst pa_nil) (nomark _)) (pe_slice sl_list (pv 0) po_none (po_some pe_int)) (pe_lst (pa_cons pe_int pa_nil))))
      (pss_cons (ps_par (i := 4) (j := 5) rfl nd rfl rfl (by decide) rfl rfl (pa_cons (pe_ix ix_list (pv 3) (pe_op op_modN (pv 1) (pe_callB call_len_seq (by rfl) T.len PySem.boot_len (pa_cons (pv 3) pa_nil))) (fun _ _ => rfl))
          (pa_cons (pe_op op_fdivN (pv 1) (pe_callB call_len_seq (by rfl) T.len PySem.boot_len (pa_cons (pv 3) pa_nil))) pa_nil)) (by rfl))
      (pss_cons (ps_if (pt_cmpR op_ge (pv 4) (pe_op op_pow pe_int pe_int) (nomark _))
        (pss_cons (ps_set (i := 4) nd rfl (.inl rfl) (pe_op op_modN (pe_callTy call_intI (by rfl) T.int PyProof.Rows.boot_int (pa_cons (pv 4) pa_nil)) (pe_op op_pow pe_int pe_int)))
        (pss_cons (ps_for PassesOwn.never rfl (pi_range1 (by rfl) T.range (pa_cons (pe_op op_modN (pv 5) pe_int) pa_nil)) (pg_name (i := 6) nd rfl (.inl rfl)) (pss_one (ps_set (i := 4) nd rfl (.inl rfl) (pe_op op_fdivN (pv 4) pe_int))))
        (pss_one (ps_ret (pe_op op_modN (pe_op op_modN (pe_callTy call_intI (by rfl) T.int PyProof.Rows.boot_int (pa_cons (pv 4) pa_nil)) pe_int) (pv 2)))))) pss_nil)
      (pss_cons (ps_set (i := 7) nd rfl (.inl rfl) (pe_op op_add (pe_op op_mul (pe_op op_add (pe_op op_add (pe_op op_modN (pe_callTy call_intI (by rfl) T.int PyProof.Rows.boot_int (pa_cons (pe_op op_add (pv 4) (pe_op op_mul pe_int (pv 5))) pa_nil)) pe_int) (pe_op op_mul pe_int (pv 1))) pe_int) pe_int)
          (pe_op op_modN (pe_callTy call_intI (by rfl) T.int PyProof.Rows.boot_int (pa_cons (pe_op op_fdivN (pv 4) pe_int) pa_nil)) pe_int)))
      (pss_one (ps_ret (pe_op op_modN (pe_callTy call_intI (by rfl) T.int PyProof.Rows.boot_int (pa_cons (pe_op op_modN (pe_op op_mul (pe_op op_modN (pv 7) pe_int) pe_int) pe_int) pa_nil)) (pv 2))))))), ?_⟩
    -- the row: a list of ints, not empty
    have rowR : ∀ Q : V → Hp → Prop, (∀ (H2 : Hp) (rw_ : Addr) (rs : List Int), Same H H2 → H2 rw_ = some (.lst (rs.map V.int)) → rs ≠ [] → rs.length ≤ 63 → Q (.ref rw_) H2) →
        (tIf (tTest (tOp (rNeD K) (tVar 0) (tLst tNil))) (tSl (rSlL K) (tVar 0) tNoPart (tPart (tC (.int 60)))) (tLst (tCons (tC (.int 7)) tNil))) (L2.start nDraw [.ref s, .int a, .int m]) H Q := by
      intro Q hQ
      refine ⟨.ref s, rfl, Nat.zero_le _, fun e0 ne0 => ?_⟩
      have s1 : Same H (upd H e0 (.lst [])) := same_upd ne0
      refine ⟨_, _, .lst (s1.seq hS) (dpInts ns), .lst (SqL.of upd_same) .nil, PySem.W.ke_shaped_ints ns, PySem.W.ke_shaped_ints [], _, rfl, ?_⟩
      rw [eqv_nil]
      by_cases hn : ns = []
      · rw [decide_eq_true hn]
        refine iteF ⟨by show 1 ≤ sizeLine; decide, fun p np => ?_⟩
        exact hQ _ p [7] (s1.trans (same_upd np)) upd_same (List.cons_ne_nil _ _) (by decide)
      · rw [decide_eq_false hn]
        refine iteT ⟨.ref s, rfl, 60, rfl, s, _, rfl, s1.seq hS, fun p np => ?_⟩
        have ec : cutV (ns.map V.int) none (some 60) = (ns.take 60).map V.int := by
          unfold cutV
          rw [HT.sIx_none, show HT.sIx (ns.map V.int).length (ns.map V.int).length (some 60) = min 60 (ns.map V.int).length from HT.sIx_nat _ _ 60, List.drop_zero, Nat.sub_zero, List.map_take]
          rw [List.length_map]
          by_cases k : 60 ≤ ns.length
          · rw [Nat.min_eq_left k]
          · rw [Nat.min_eq_right (by omega), List.take_of_length_le (by rw [List.length_map]; exact Nat.le_refl _), List.take_of_length_le (by rw [List.length_map]; omega)]
        rw [ec]
        refine hQ _ p (ns.take 60) (s1.trans (same_upd np)) upd_same (fun z => hn ?_) (by rw [List.length_take]; omega)
        cases ns with
        | nil => rfl
        | cons x r => exact nomatch z
    refine rowR _ fun H2 rw_ rs s2 hrw hne hl => ?_
    have hpos : (0 : Int) < (rs.length : Nat) := by
      have := List.length_pos_iff.mpr hne
      omega
    obtain ⟨j, ej, hj⟩ : ∃ j : Nat, a.fmod (rs.length : Nat) = (j : Nat) ∧ j < rs.length := by
      obtain ⟨h0, h1⟩ := fmod_in (i := a) hpos
      exact ⟨(a.fmod (rs.length : Nat)).toNat, by omega, by omega⟩
    have elen : (((rs.map V.int).length : Nat) : Int) = (rs.length : Nat) := by rw [List.length_map]
    have hcell : (rs.map V.int)[j]? = some (.int rs[j]) := by
      rw [List.getElem?_map, List.getElem?_eq_getElem hj]
      rfl
    refine ⟨.ref rw_, rfl, .int a, rfl, .ref rw_, rfl, rw_, _, rfl, .inl (SqL.of hrw), _, _, rfl, rfl, ?_, rw_, _, (j : Nat), .int rs[j], rfl, ?_, SqL.of hrw, atI_nat hcell, ?_⟩
    · rw [elen]
      omega
    · rw [elen]
      show V.int (a.fmod (rs.length : Nat)) = _
      rw [ej]
    refine ⟨.int a, rfl, .ref rw_, rfl, rw_, _, rfl, .inl (SqL.of hrw), _, _, rfl, rfl, ?_, _, _, rfl, ?_⟩
    · rw [elen]
      exact ⟨by omega, by show (rs.length : Int).natAbs < 1073741824; omega⟩
    have fin : ∀ (H' : Hp) (i : Int), Same H H' → Q (.int (i.fmod m)) H' := fun H' i s' => by
      obtain ⟨h0, h1⟩ := fmod_in (i := i) (show 0 < m by omega)
      exact q H' _ s' h0 h1
    have nz : ∀ {i j : Int}, j ≠ 0 → (fun (_ j : Int) => j ≠ 0) i j := fun h => h
    have p40 : (97 : Int) ^ Int.toNat 40 ≠ 0 := by decide
    refine ⟨_, rfl, _, _, rfl, rfl, ⟨by decide, by decide, by decide⟩, _, _, rfl, rfl, _, rfl, ite2 (fun _ => ?_) (fun _ => ?_)⟩
    · refine ⟨_, rfl, _, rfl, _, _, rfl, rfl, ⟨by decide, by decide, by decide⟩, _, _, rfl, rfl, p40, ?_⟩
      refine ⟨_, rfl, _, _, rfl, rfl, (by decide : (40 : Int) ≠ 0), _, rfl, ?_, ?_, ?_⟩
      · obtain ⟨h0, h1⟩ := fmod_in (i := a.fdiv (((rs.map V.int).length : Nat) : Int)) (show (0 : Int) < 40 by decide)
        omega
      · obtain ⟨h0, h1⟩ := fmod_in (i := a.fdiv (((rs.map V.int).length : Nat) : Int)) (show (0 : Int) < 40 by decide)
        omega
      refine for_range (lo := 0) (fun i σ H' => ∃ (c : Int) (y : Option V), σ = [some (.ref s), some (.int a), some (.int m), some (.ref rw_), some (.int c), some (.int (a.fdiv (((rs.map V.int).length : Nat) : Int))), y, none] ∧ H' = H2) ⟨_, _, rfl, rfl⟩ ?_ ?_
      · rintro i σ H' hi ⟨c, y, rfl, rfl⟩
        exact ⟨_, rfl, _, _, rfl, rfl, ⟨by decide, by decide⟩, _, _, rfl, rfl⟩
      · rintro σ H' ⟨c, y, rfl, rfl⟩
        exact ⟨_, rfl, _, rfl, _, _, rfl, rfl, (by decide : (97 : Int) ≠ 0), _, rfl, _, _, rfl, rfl, (by omega : m ≠ 0), fin _ _ s2⟩
    · refine ⟨_, rfl, _, rfl, _, _, rfl, rfl, .inl ⟨by decide, by decide⟩, _, _, rfl, rfl, _, rfl, _, _, rfl, rfl, (by decide : (1000003 : Int) ≠ 0), ?_⟩
      refine ⟨_, rfl, _, _, rfl, rfl, .inl ⟨by decide, by decide⟩, _, _, rfl, rfl, _, _, rfl, rfl, _, _, rfl, rfl, .inr ⟨by decide, by decide⟩, ?_⟩
      refine ⟨_, rfl, _, _, rfl, rfl, ⟨by decide, by decide⟩, _, rfl, _, _, rfl, rfl, (by decide : (999983 : Int) ≠ 0), _, _, rfl, rfl, ?_⟩
      refine ⟨_, rfl, _, _, rfl, rfl, (by decide : (2147483647 : Int) ≠ 0), _, _, rfl, rfl, .inr ⟨by decide, by decide⟩, _, _, rfl, rfl, (by decide : (4294967291 : Int) ≠ 0), _, rfl, _, rfl, _, _, rfl, rfl, (by omega : m ≠ 0), fin _ _ s2⟩
end
end Lo
/-! set(xs) of things that are all different, and sorted of it: an entry for each, a list of as many. -/
namespace Lo
open PySem PySem.Spec PyProof.Rows L2
section
variable {P : Program} {w : World} {κ : Type} [DecidableEq κ]
/-- the set at a has as many entries as ks has keys, each of one of them; its table can be walked -/
def SetN (knd : KeyKind P w κ) (h : Heap) (a : Addr) (ks : List κ) : Prop :=
  ∃ (ob : Obj) (es : Array (Int × Value)) (ep : Nat) (tb : SetTable), h.get? a = some ob ∧ ob.ExactSet ∧ ob.data = .set es ep tb ∧
    (∀ e ∈ es.toList, (∃ k, k ∈ ks ∧ knd.is k e.2 = true ∧ e.1 = knd.hash k) ∧ e.2.scannable = true) ∧ es.size = ks.length ∧ es.size < scanBound ∧
    tb.fits es.size = true ∧ Ris tb.place.toList ∧ (w.params.followText "set-order" = true ∨ tb.led = true)
variable {knd : KeyKind P w κ} {A : Around} {E : Value → Shared → Prop} {s : Shared} {a : Addr} {ks : List κ}
theorem SetN.at {h h' : Heap} (N : SetN knd h a ks) (keep : ∀ o, h.get? a = some o → h'.get? a = some o) : SetN knd h' a ks := by
  obtain ⟨ob, es, ep, tb, hob, more⟩ := N
  exact ⟨ob, es, ep, tb, keep ob hob, more⟩
/-- behind the laying of an entry: the table is stored, and laid anew where it is too full -/
theorem setN_tail {give : Bool → Sem Unit} (hgive : ∀ (b : Bool) (s1 : Shared) (Q' : Unit → Shared → Prop), Q' () s1 → wpAny (model P w) A (give b) Q' E s1) {ob : Obj} {es : Array (Int × Value)} {ep : Nat} {tb : SetTable}
    (hob : s.heap.get? a = some ob) (hex : ob.ExactSet) (hdt : ob.data = .set es ep tb) {es1 : Array (Int × Value)} {tb2 : SetTable}
    (hall : ∀ e ∈ es1.toList, (∃ k, k ∈ ks ∧ knd.is k e.2 = true ∧ e.1 = knd.hash k) ∧ e.2.scannable = true) (hsz : es1.size = ks.length) (hbd : es1.size < scanBound) (hfit : tb2.fits es1.size = true)
    (hris : Ris tb2.place.toList) (hled : w.params.followText "set-order" = true ∨ tb2.led = true) {old : Bool} {R : Option Bool → Shared → Prop}
    (hR : ∀ h', Heap.SameBut a s.heap h' → SetN knd h' a ks → R (some true) { s with heap := h' }) :
    wpAny (model P w) A (do
        storeSet a es1 tb2
        if (!old && tb2.tooFull) = true then do
            give (relayAll tb2 es1 (SetTable.grown es1.size)).2.2
            storeSet a (relayAll tb2 es1 (SetTable.grown es1.size)).1 (relayAll tb2 es1 (SetTable.grown es1.size)).2.1
            pure (some true)
          else pure (some true)) R E s := by
  refine wpAny_bind (wpAny_storeSet_of hob hdt ?_ (fits_of_scanBound hbd))
  have hob1 := store_at (es' := es1) (t' := tb2) hob hdt
  have but1 := Heap.SameBut.update s.heap a (Obj.putSet es1 tb2)
  split
  · have pe := relayAll_perm tb2 es1 (SetTable.grown es1.size)
    have fi := relayAll_fits tb2 es1 (SetTable.grown es1.size)
    have ri := relayAll_ris tb2 es1 (SetTable.grown es1.size)
    have le := relayAll_led tb2 es1 (SetTable.grown es1.size)
    generalize relayAll tb2 es1 (SetTable.grown es1.size) = out at pe fi ri le ⊢
    obtain ⟨es2, tb3, gave⟩ := out
    dsimp only at pe fi ri le ⊢
    have hsz2 : es2.size = es1.size := by
      have q := pe.length_eq
      rw [Array.length_toList, Array.length_toList] at q
      exact q
    have hbd2 : es2.size < scanBound := hsz2 ▸ hbd
    refine wpAny_bind (hgive _ _ _ ?_)
    refine wpAny_bind (wpAny_storeSet_of hob1 rfl ?_ (fits_of_scanBound hbd2))
    have hob2 := store_at (es' := es2) (t' := tb3) hob1 rfl
    refine wpAny_pure (hR _ (but1.trans (Heap.SameBut.update _ a _)) ?_)
    exact ⟨_, es2, _, tb3, hob2, hex, rfl, fun e he => hall e (pe.mem_iff.mp he), hsz2.trans hsz, hbd2, fi, ri, hled.elim .inl fun z => .inr (le.trans z)⟩
  · exact wpAny_pure (hR _ but1 ⟨_, es1, _, tb2, hob1, hex, rfl, hall, hsz, hbd, hfit, hris, hled⟩)
/-- one more key, which is not among them -/
theorem setN_new {k : κ} {x : Value} {Q : Bool → Shared → Prop} (N : SetN knd s.heap a ks) (hkey : knd.is k x = true) (hscan : x.scannable = true) (hnew : k ∉ ks) (hroom : ks.length + 1 < scanBound)
    (hQ : ∀ h', Heap.SameBut a s.heap h' → SetN knd h' a (k :: ks) → Q true { s with heap := h' }) : wpAny (model P w) A (setAddHashed a x (knd.hash k)) Q E s := by
  obtain ⟨ob, es, ep, tb, hob, hex, hdt, hall, hsz, hbd, hfit, hris, hled⟩ := N
  have elems : ElemsOf knd es.toList := fun e he => by
    obtain ⟨⟨j, _, h2, h3⟩, h4⟩ := hall e he
    exact ⟨⟨j, h2, h3⟩, h4⟩
  have miss : List.findIdx? (fun e : Int × Value => knd.is k e.2) es.toList = none := by
    rw [List.findIdx?_eq_none_iff]
    intro e he
    cases q : knd.is k e.2 with
    | false => rfl
    | true =>
      obtain ⟨⟨j, h1, h2, _⟩, _⟩ := hall e he
      exact absurd (knd.inj e.2 k j q h2 ▸ h1) hnew
  unfold setAddHashed
  unfold setAddHashedIn
  refine wpAny_holding (wpAny_bind (wpAny_setState_of hob hdt hfit ?_))
  dsimp only
  rw [byScan_of hscan hbd elems]
  simp only [↓reduceIte]
  unfold setAddByScan
  refine wpAny_bind ?_
  refine wpAny_bind (wpAny_rule ?_)
  refine wpAny_bind (wpAny_setScan_of hkey hob hdt hfit elems ?_)
  rw [miss]
  dsimp only
  have quiet : ∀ (b : Bool) {s1 : Shared} {Q' : Unit → Shared → Prop}, Q' () s1 → wpAny (model P w) A (match b with | true => rule "set.scan.the-table-gave-way" | false => pure ()) Q' E s1 := fun b s1 Q' q => by
    cases b
    · exact wpAny_pure q
    · exact wpAny_rule q
  have pe := layNew_perm tb es (knd.hash k) x
  have fi := layNew_fits tb es (knd.hash k) x
  have ri := layNew_ris tb es (knd.hash k) x hris
  have le := layNew_led tb es (knd.hash k) x
  generalize layNew tb es (knd.hash k) x = out at pe fi ri le ⊢
  obtain ⟨es1, tb1, old, gave⟩ := out
  dsimp only at pe fi ri le ⊢
  rw [Array.toList_push] at pe
  have hsz1 : es1.size = (k :: ks).length := by
    have q := pe.length_eq
    rw [Array.length_toList, List.length_append, Array.length_toList, hsz] at q
    exact q
  have hbd1 : es1.size < scanBound := by
    rw [hsz1]
    exact hroom
  have hall1 : ∀ e ∈ es1.toList, (∃ j, j ∈ k :: ks ∧ knd.is j e.2 = true ∧ e.1 = knd.hash j) ∧ e.2.scannable = true := fun e he => by
    rcases List.mem_append.mp (pe.mem_iff.mp he) with z | z
    · obtain ⟨⟨j, h1, h2⟩, h3⟩ := hall e z
      exact ⟨⟨j, List.mem_cons_of_mem _ h1, h2⟩, h3⟩
    · rw [List.mem_singleton] at z
      subst z
      exact ⟨⟨k, List.mem_cons_self, hkey, rfl⟩, hscan⟩
  have led1 : w.params.followText "set-order" = true ∨ tb1.led = true := hled.elim .inl fun z => .inr (le.trans z)
  refine wpAny_bind (quiet _ ?_)
  split
  · refine wpAny_bind ?_
    rw [hashByValue_scannable 8 hscan]
    refine wpAny_pure ?_
    refine setN_tail ?_ hob hex hdt hall1 hsz1 hbd1 ?_ ?_ ?_ ?_
    · intro b s1 Q' q
      cases b
      · exact wpAny_pure q
      · exact wpAny_rule q
    · first | (split <;> first | exact fi | exact SetTable.fits_plain_off fi) | exact fi
    · first | (split <;> exact ri) | exact ri
    · first | (split <;> exact led1) | exact led1
    · intro h' but N1
      dsimp only
      exact wpAny_pure (hQ h' but N1)
  · refine wpAny_bind (wpAny_pure ?_)
    simp only [↓reduceIte]
    refine setN_tail ?_ hob hex hdt hall1 hsz1 hbd1 fi ri led1 ?_
    · intro b s1 Q' q
      cases b
      · exact wpAny_pure q
      · exact wpAny_rule q
    · intro h' but N1
      dsimp only
      exact wpAny_pure (hQ h' but N1)
end
section
variable {prog : Program} {w : World} {κ : Type} [DecidableEq κ] {knd : KeyKind prog w κ} {A : Around} {R : Result → Shared → Prop} {I : Addr} {fp wr : List Addr} {G : Array GenState → Array GenState → Prop} {n : Nat} {Pv : Nat → Value → Prop} {St : Nat → Shared → Prop}
/-- set.update's loop over keys that are all different -/
theorem setN_loop (W : WalksS prog w A.in1 I fp wr G n Pv St) (S : Addr) (hfp : S ∉ fp) (ks : List κ) (hlen : ks.length = n) (hdiff : ks.Nodup) (hroom : n + 1 < scanBound)
    (hval : ∀ i v, Pv i v → ∃ k, ks[i]? = some k ∧ knd.is k v = true ∧ v.scannable = true) :
    ∀ (m i : Nat) (s : Shared), n - i = m → i ≤ n → St i s → SetN knd s.heap S (ks.take i).reverse →
      (∀ s', Moved (S :: wr) G s s' → SetN knd s'.heap S ks.reverse → R (.ok (.ret .none)) s') → codeAny (model prog w) A (.builtin "set.update.loop" ⟨[.ref S, .ref I], []⟩) R s := by
  have hwr : S ∉ wr := fun z => hfp (W.sub _ z)
  have more : ∀ b ∈ wr, b ∈ S :: wr := fun b hb => List.mem_cons_of_mem _ hb
  intro m
  induction m with
  | zero =>
    intro i s hm hi st N fin
    obtain rfl : i = n := by omega
    refine codeAny_builtin PyProof.Rows.F.entry_set_update_loop ?_
    rw [Around.under_plainId PyProof.Rows.F.plain_set_update_loop _]
    show wpAny _ A.in1 (pyNext (.ref I) >>= _) _ _ s
    refine wpAny_bind (W.done s _ _ st fun s' mv => ?_)
    show wpAny _ A.in1 (ret Value.none) _ _ s'
    rw [List.take_of_length_le (Nat.le_of_eq hlen)] at N
    exact wpAny_pure (fin s' (mv.mono more) (N.at fun o e => mv.heap S _ hwr e))
  | succ m ih =>
    intro i s hm hi st N fin
    have hlt : i < n := by omega
    refine codeAny_builtin PyProof.Rows.F.entry_set_update_loop ?_
    rw [Around.under_plainId PyProof.Rows.F.plain_set_update_loop _]
    show wpAny _ A.in1 (pyNext (.ref I) >>= _) _ _ s
    refine wpAny_bind (W.item i s _ _ hlt st fun v s1 hv st1 mv => ?_)
    obtain ⟨k, hk, his, hsc⟩ := hval i v hv
    have N1 : SetN knd s1.heap S (ks.take i).reverse := N.at fun o e => mv.heap S _ hwr e
    have hi2 : i < ks.length := hlen ▸ hlt
    have ek : ks[i] = k := by
      rw [List.getElem?_eq_getElem hi2] at hk
      exact Option.some.inj hk
    have fresh : k ∉ (ks.take i).reverse := fun z => by
      rw [List.mem_reverse] at z
      have d := hdiff
      rw [← List.take_append_drop i ks] at d
      exact (List.nodup_append.mp d).2.2 k z k (by rw [List.drop_eq_getElem_cons hi2, ek]; exact List.mem_cons_self) rfl
    have etake : (ks.take (i + 1)).reverse = k :: (ks.take i).reverse := by
      rw [List.take_add_one, hk]
      show (ks.take i ++ [k]).reverse = _
      rw [List.reverse_append]
      rfl
    show wpAny _ A.in1 (holding [v] (setAdd S v) >>= _) _ _ s1
    refine wpAny_bind (wpAny_holding ?_)
    unfold setAdd
    refine wpAny_holding ?_
    refine wpAny_bind (knd.pyHash (k := k) his ?_)
    refine setN_new (s := { s1 with toks := s1.toks + 1 }) N1 his hsc fresh ?_ fun h' but N2 => ?_
    · rw [List.length_reverse, List.length_take]
      omega
    have N3 : SetN knd h' S (ks.take (i + 1)).reverse := by
      rw [etake]
      exact N2
    refine wpAny_pure ⟨plainId_quiet PyProof.Rows.F.plain_set_update_loop _, ih (i + 1) _ (by omega) hlt (W.frame _ s1 _ _ st1 (Nat.le_succ _) fun b hb o e => ?_) N3 fun s2 mv2 N4 => ?_⟩
    · have nb : b ≠ S := fun z => hfp (z ▸ hb)
      rw [but.2 b nb]
      exact e
    · refine fin s2 (Moved.trans W.gtrans ((mv.mono more).then_heap (Nat.le_succ _) fun b o hb e => ?_) mv2) N4
      have nb : b ≠ S := fun z => hb (z ▸ List.mem_cons_self)
      rw [but.2 b nb]
      exact e
end
section
variable {P : Program} {w : World} {κ : Type} [DecidableEq κ] {knd : KeyKind P w κ} {A : Around} {E : Value → Shared → Prop} {s : Shared}
abbrev bareSet (w : World) : Obj := { cls := .type "set", dict := none, data := .set #[] 0 (.fresh 0 0 (!w.params.followText "set-order")) }
theorem setN_bare {h : Heap} {a : Addr} (e : h.get? a = some (bareSet w)) : SetN knd h a [] := by
  refine ⟨_, #[], 0, _, e, ⟨rfl, rfl, rfl⟩, rfl, fun e he => ?_, rfl, by decide, by rfl, List.Pairwise.nil, ?_⟩
  · simp at he
  · show _ ∨ (!w.params.followText "set-order") = true
    cases w.params.followText "set-order"
    · exact .inr rfl
    · exact .inl rfl
set_option maxHeartbeats 3200000 in
/-- set(a list) -/
theorem call_setN {l : Addr} {its : Array Value} {ks : List κ} {Q : Value → Shared → Prop} (hand : A.handled = none) (hlist : s.heap.IsList l its) (hlen : ks.length = its.size) (hdiff : ks.Nodup) (hroom : its.size + 1 < scanBound)
    (hits : ∀ (i : Nat) (v : Value), its[i]? = some v → ∃ k, ks[i]? = some k ∧ knd.is k v = true ∧ v.scannable = true)
    (hQ : ∀ (h' : Heap) (tk : Nat), SetN knd h' s.heap.objs.size ks.reverse → (∀ b o, s.heap.get? b = some o → h'.get? b = some o) → Q (.ref s.heap.objs.size) { s with heap := h', toks := tk }) :
    wpAny (model P w) A (call (.type "set") [.ref l]) Q E s := by
  obtain ⟨c, tl, hmro⟩ := PySem.F.called_set.mro
  have hmade := PySem.F.called_set.made
  have hsub := PySem.F.called_set.sub
  refine wpAny_call (codeAny_of_tree ?_)
  show wpAny _ _ (callAny (.type "set") _) _ _ _
  refine wpAny_pure ⟨Code.quiet_builtin _ (by decide +kernel), codeAny_builtin PySem.F.entry_type_call ?_⟩
  rw [Around.under_plain (weight_type_call_type "set" [.ref l] []) rfl]
  have hnt := PySem.F.called_set.notType
  have hcc := PySem.F.called_set.canCreate
  have hct := PySem.F.typeCall_set_1 (.ref l)
  repeat (any_goals (first | assumption | wp_step))
  refine codeAny_mono (code_set_led1 (.ref l) (E := E) (Q₁ := fun ob s1 => ob = .ref s.heap.objs.size ∧ s1 = { s with heap := s.heap.push (bareSet w) }) ⟨rfl, rfl⟩) fun r s1 hr => ?_
  cases r with
  | error e => exact hr
  | ok fl =>
    cases fl with
    | ret ob =>
      obtain ⟨rfl, rfl⟩ := hr
      have hnew : (s.heap.push (bareSet w)).get? s.heap.objs.size = some (bareSet w) := Heap.get?_push_size _ rfl
      have hty : Shared.TypeIs { s with heap := s.heap.push (bareSet w) } (.ref s.heap.objs.size) "set" := ⟨_, hnew, rfl⟩
      have hli := PySem.F.called_set.init.lookup
      have hbi := PySem.F.called_set.init.bind (.ref s.heap.objs.size)
      repeat (any_goals (first | assumption | wp_step))
      refine codeAny_mono (codeAny_call_builtin (R := wants (fun r s2 => r = .none ∧ ∃ h' tk, s2 = { s with heap := h', toks := tk } ∧ SetN knd h' s.heap.objs.size ks.reverse ∧
          (∀ b o, s.heap.get? b = some o → h'.get? b = some o)) E) PySem.F.called_set.init.plain PySem.F.entry_set_init (check_set_init_1 hty ?_)) fun r2 s2 hr2 => ?_
      · obtain ⟨ol, hol, hcl, nl, hdl⟩ := hlist
        obtain ⟨ocls, odict, odata, oslots⟩ := ol
        simp only at hcl hdl
        subst hcl
        subst hdl
        have hol1 : (s.heap.push (bareSet w)).get? l = some { cls := .type "list", dict := odict, data := .seq its nl, slots := oslots } := Heap.get?_push_of_some _ hol
        have hsls := PySem.F.sub_list_set
        have hslf := PySem.F.sub_list_frozenset
        have hne : (Value.type "list" == Value.type "dict") = false := by decide
        have hl1 : (s.heap.push (bareSet w)).IsList l its := ⟨_, hol1, rfl, nl, rfl⟩
        unfold Builtin.«set.__init__»
        unfold noKeywords
        unfold Builtin.Frozenset.updateFrom
        generalize hPI : pyIter = PI
        wp_walk
        subst hPI
        refine wpAny_pyIter_list hl1 ?_
        refine wpAny_bind (wpAny_runValue ?_)
        have hlS : l < s.heap.objs.size := Heap.lt_size hol
        have hh3 : A.in1.in1.in1.handled = none := by simp [hand]
        have hzz : (s.heap.push (bareSet w)).objs.size = s.heap.objs.size + 1 := Heap.size_push ..
        have hneI : l ≠ (s.heap.push (bareSet w)).objs.size := by
          rw [hzz]
          exact Nat.ne_of_lt (Nat.lt_succ_of_lt hlS)
        have hfp : s.heap.objs.size ∉ [(s.heap.push (bareSet w)).objs.size, l] := by
          rw [hzz]
          intro z
          rcases List.mem_cons.mp z with z | z
          · exact absurd z (Nat.ne_of_lt (Nat.lt_succ_self _))
          · exact absurd (List.mem_singleton.mp z) (Nat.ne_of_gt hlS)
        refine setN_loop (knd := knd) ((Walks.list hh3 _ l hneI its).toS) s.heap.objs.size hfp ks hlen hdiff hroom hits (its.size - 0) 0 _ rfl (Nat.zero_le _) ⟨⟨_, Heap.get?_push_size _ rfl, rfl, rfl⟩, (hl1.push _)⟩ ?hS0 ?hR
        case hS0 => exact setN_bare (Heap.get?_push_of_some _ hnew)
        case hR =>
          intro s3 mv N
          obtain ⟨h', g2, d2, tk2, os2⟩ := s3
          have eg : g2 = s.gens := mv.gens
          have ed : d2 = s.drawn := mv.drawn
          have eo : os2 = s.os := mv.os
          subst eg
          subst ed
          subst eo
          show wpAny _ _ _ _ _ _
          refine wpAny_pure ?_
          show wpAny _ _ (ret Value.none) _ _ _
          refine wpAny_pure ⟨rfl, h', tk2, rfl, N, fun b o e => ?_⟩
          have hb := Heap.lt_size e
          refine mv.heap b o (fun z => ?_) (Heap.get?_push_of_some _ (Heap.get?_push_of_some _ e))
          rcases List.mem_cons.mp z with z | z
          · exact absurd z (Nat.ne_of_lt hb)
          · rw [List.mem_singleton, hzz] at z
            exact absurd z (Nat.ne_of_lt (Nat.lt_succ_of_lt hb))
      · cases r2 with
        | error e => exact hr2
        | ok fl2 =>
          cases fl2 with
          | ret r =>
            obtain ⟨rfl, h', tk, rfl, N, keep⟩ := hr2
            repeat (any_goals (first | assumption | wp_step))
            exact hQ _ _ N keep
          | _ => exact hr2.elim
    | _ => exact hr.elim
end
end Lo
namespace Lo
open PySem PySem.Spec PyProof.Rows L2
section
variable {P : Program} {w : World} {A : Around} {E : Value → Shared → Prop} {s : Shared} {a : Addr}
/-- sorted of a set of texts: as many as there are -/
theorem sorted_setS {ks : List Str} {Q : Value → Shared → Prop} (N : SetN (PySem.strKind P w) s.heap a ks) (hand : A.handled = none) (h64 : ks.length < 64)
    (hQ : ∀ (s2 : Shared) (p : Addr) (out : Array Value) (c : Nat) (ss : List Str), (∀ b o, s.heap.get? b = some o → s2.heap.get? b = some o) → s2.gens = s.gens → s2.os = s.os → s.heap.objs.size ≤ p →
      s2.heap.get? p = some (seqObj "list" out c) → StrsAre out.toList ss → ss.length = ks.length → Q (.ref p) s2) : wpAny (model P w) A (call (.builtin "sorted") [.ref a]) Q E s := by
  obtain ⟨ob, es, ep, tb, hob, hex, hdt, hall, hsz, hbd, hfit, hris, hled⟩ := N
  refine Calls.call_function_entry kind_sorted plain_sorted entry_sorted (args_sorted1 _) ?_
  unfold Builtin.«sorted»
  refine wpAny_bind (m := checkCount "sorted" 1 1 _) (wpAny_pure ?_)
  refine wpAny_bind (collect_set (A := A.in1) hand ⟨ob, hob, hex.1, hdt⟩ hfit hbd hris hled fun s1 vs keep hz eg eo pe => ?_)
  have hlen : vs.length = ks.length := by
    rw [pe.length_eq, List.length_map, Array.length_toList]
    exact hsz
  have hS : StrsAre vs (vs.map strOf) := strsAre_map vs fun v hv => by
    obtain ⟨e, he, q⟩ := List.mem_map.mp (pe.mem_iff.mp hv)
    obtain ⟨⟨k, _, h2, _⟩, _⟩ := hall e he
    obtain ⟨t, ht⟩ := Value.isStrOf_shape (x := k) (v := e.2) h2
    exact ⟨k, t, by rw [← q]; exact ht⟩
  have h64' : vs.length < 64 := by
    rw [hlen]
    exact h64
  refine wpAny_bind (wpAny_newList ?_ (by rw [sizeLine_eq]; omega))
  have hL : (s1.heap.push (seqObj "list" vs.toArray 0)).get? s1.heap.objs.size = some (seqObj "list" vs.toArray 0) := Heap.get?_push_size _ rfl
  refine wpAny_bind (wpAny_holding (wpAny_call_entry slot_list_sort ⟨_, hL, rfl⟩ entry_list_sort (list_sort_treeK strKind_oneLt hL hS.keysOf (fun v1 v2 rest e => keyKind_strs (by rw [← e]; exact hS)) h64' fun st hp hs => ⟨_, rfl, ?_⟩) (args_list_sort _)))
  obtain ⟨ss, h1, h2, _⟩ := sorted_out_str hS hp hs
  obtain ⟨c, hc⟩ := sortedHeap_at (vs := vs) (out := (arrOf st).map (·.2)) hL
  refine wpAny_pure ⟨_, rfl, hQ _ s1.heap.objs.size _ c ss (fun b o e => ?_) eg eo hz hc h1 ?_⟩
  · have q := keep b o e
    have lt := Heap.lt_size q
    show (sortedHeap (s1.heap.push (seqObj "list" vs.toArray 0)) s1.heap.objs.size vs ((arrOf st).map (·.2))).get? b = some o
    rw [sortedHeap_old (Nat.ne_of_lt lt) (by rw [size_push']; exact Nat.lt_succ_of_lt lt)]
    exact Heap.get?_push_of_some _ q
  · rw [h2.length_eq, List.length_map]
    exact hlen
/-- .. of ints -/
theorem sorted_setI {ks : List Int} {Q : Value → Shared → Prop} (N : SetN (intKind P w) s.heap a ks) (hand : A.handled = none) (h64 : ks.length < 64)
    (hQ : ∀ (s2 : Shared) (p : Addr) (out : Array Value) (c : Nat) (ns : List Int), (∀ b o, s.heap.get? b = some o → s2.heap.get? b = some o) → s2.gens = s.gens → s2.os = s.os → s.heap.objs.size ≤ p →
      s2.heap.get? p = some (seqObj "list" out c) → IntsAre out.toList ns → ns.length = ks.length → Q (.ref p) s2) : wpAny (model P w) A (call (.builtin "sorted") [.ref a]) Q E s := by
  obtain ⟨ob, es, ep, tb, hob, hex, hdt, hall, hsz, hbd, hfit, hris, hled⟩ := N
  refine Calls.call_function_entry kind_sorted plain_sorted entry_sorted (args_sorted1 _) ?_
  unfold Builtin.«sorted»
  refine wpAny_bind (m := checkCount "sorted" 1 1 _) (wpAny_pure ?_)
  refine wpAny_bind (collect_set (A := A.in1) hand ⟨ob, hob, hex.1, hdt⟩ hfit hbd hris hled fun s1 vs keep hz eg eo pe => ?_)
  have hlen : vs.length = ks.length := by
    rw [pe.length_eq, List.length_map, Array.length_toList]
    exact hsz
  have hS : IntsAre vs (vs.map Builtin.Re.reRawOf) := ints_of vs fun v hv => by
    obtain ⟨e, he, q⟩ := List.mem_map.mp (pe.mem_iff.mp hv)
    obtain ⟨⟨k, _, h2, _⟩, _⟩ := hall e he
    obtain ⟨t, ht⟩ := Value.isInt_shape (k := k) (v := e.2) h2
    exact ⟨k, t, by rw [← q]; exact ht⟩
  have h64' : vs.length < 64 := by
    rw [hlen]
    exact h64
  refine wpAny_bind (wpAny_newList ?_ (by rw [sizeLine_eq]; omega))
  have hL : (s1.heap.push (seqObj "list" vs.toArray 0)).get? s1.heap.objs.size = some (seqObj "list" vs.toArray 0) := Heap.get?_push_size _ rfl
  refine wpAny_bind (wpAny_holding (wpAny_call_entry slot_list_sort ⟨_, hL, rfl⟩ entry_list_sort (list_sort_tree hL hS h64' fun out ns h1 h2 _ => ⟨_, rfl, ?_⟩) (args_list_sort _)))
  obtain ⟨c, hc⟩ := sortedHeap_at (vs := vs) (out := out) hL
  refine wpAny_pure ⟨_, rfl, hQ _ s1.heap.objs.size _ c ns (fun b o e => ?_) eg eo hz hc h1 ?_⟩
  · have q := keep b o e
    have lt := Heap.lt_size q
    show (sortedHeap (s1.heap.push (seqObj "list" vs.toArray 0)) s1.heap.objs.size vs out).get? b = some o
    rw [sortedHeap_old (Nat.ne_of_lt lt) (by rw [size_push']; exact Nat.lt_succ_of_lt lt)]
    exact Heap.get?_push_of_some _ q
  · rw [h2.length_eq, List.length_map]
    exact hlen
end
/-! ### as rules of the layer -/
def SetSO (P : Program) (w : World) (a : Addr) (n : Nat) : HO := .ext fun h => ∃ ks : List Str, ks.length = n ∧ SetN (PySem.strKind P w) h a ks
def SetIO (P : Program) (w : World) (a : Addr) (n : Nat) : HO := .ext fun h => ∃ ks : List Int, ks.length = n ∧ SetN (intKind P w) h a ks
theorem setSO_new {P : Program} {w : World} {H : Hp} {h : Heap} {a : Addr} {ks : List Str} (N : SetN (PySem.strKind P w) h a ks) : ObjOk P w H h a (SetSO P w a ks.length) := by
  have ⟨ob, _, _, _, hob, _⟩ := N
  exact ⟨⟨ks, rfl, N⟩, ⟨ob, hob⟩, fun h1 h2 ⟨js, e, N1⟩ keep => ⟨js, e, N1.at keep⟩⟩
theorem setIO_new {P : Program} {w : World} {H : Hp} {h : Heap} {a : Addr} {ks : List Int} (N : SetN (intKind P w) h a ks) : ObjOk P w H h a (SetIO P w a ks.length) := by
  have ⟨ob, _, _, _, hob, _⟩ := N
  exact ⟨⟨ks, rfl, N⟩, ⟨ob, hob⟩, fun h1 h2 ⟨js, e, N1⟩ keep => ⟨js, e, N1.at keep⟩⟩
section
variable {X : Cx}
/-- set(xs), texts that are all different -/
theorem cr_setS (hc : X.calm = true) : CallR X (.type "set") (fun xs H Q => ∃ (l : Addr) (zs : List Str), xs = [V.ref l] ∧ SqL X.K H l (zs.map V.str) ∧ zs.Nodup ∧ zs.length < 64 ∧ ∀ a, H a = none → Q (.ref a) (upd H a (SetSO X.prog X.w a zs.length))) := by
  intro pins s σ H xs us Q I r h
  obtain ⟨l, zs, rfl, hl, hd, h64, q⟩ := h
  rw [Vals.ref1 r]
  obtain ⟨its, rv, pl, hz⟩ := I.list hl
  have hn : H s.heap.objs.size = none := I.hok.fresh (Nat.le_refl _)
  have hlen : zs.length = its.toArray.size := by
    have := rv.length
    rw [List.length_map] at this
    simpa using this
  refine call_setN (knd := PySem.strKind X.prog X.w) (ks := zs) (I.ok.hd hc) pl.isList hlen hd (by rw [← hlen]; unfold scanBound; omega) (fun i v hv => ?_) fun h' tk N keep => ?_
  · have hi : i < zs.length := by
      rw [hlen]
      exact (Array.getElem?_eq_some_iff.mp hv).1
    obtain ⟨u, e1, r1⟩ := rv.get (i := i) (x := .str zs[i]) (by rw [List.getElem?_map, List.getElem?_eq_getElem hi]; rfl)
    obtain ⟨t, rfl⟩ := r1
    have ev : v = .str zs[i] t := by
      rw [List.getElem?_toArray, e1] at hv
      exact (Option.some.inj hv).symm
    subst ev
    exact ⟨zs[i], List.getElem?_eq_getElem hi, strKind_is _ _ _ _, rfl⟩
  · have nw := setSO_new (H := upd H s.heap.objs.size (SetSO X.prog X.w s.heap.objs.size zs.reverse.length)) N
    rw [List.length_reverse] at nw
    exact ⟨.ref _, _, I.laid (t' := tk) keep (Nat.le_refl _) nw, rfl, q _ hn⟩
/-- set(xs), ints that are all different -/
theorem cr_setI (hc : X.calm = true) : CallR X (.type "set") (fun xs H Q => ∃ (l : Addr) (zs : List Int), xs = [V.ref l] ∧ SqL X.K H l (zs.map V.int) ∧ zs.Nodup ∧ zs.length < 64 ∧ ∀ a, H a = none → Q (.ref a) (upd H a (SetIO X.prog X.w a zs.length))) := by
  intro pins s σ H xs us Q I r h
  obtain ⟨l, zs, rfl, hl, hd, h64, q⟩ := h
  rw [Vals.ref1 r]
  obtain ⟨its, rv, pl, hz⟩ := I.list hl
  have hn : H s.heap.objs.size = none := I.hok.fresh (Nat.le_refl _)
  have hlen : zs.length = its.toArray.size := by
    have := rv.length
    rw [List.length_map] at this
    simpa using this
  refine call_setN (knd := intKind X.prog X.w) (ks := zs) (I.ok.hd hc) pl.isList hlen hd (by rw [← hlen]; unfold scanBound; omega) (fun i v hv => ?_) fun h' tk N keep => ?_
  · have hi : i < zs.length := by
      rw [hlen]
      exact (Array.getElem?_eq_some_iff.mp hv).1
    obtain ⟨u, e1, r1⟩ := rv.get (i := i) (x := .int zs[i]) (by rw [List.getElem?_map, List.getElem?_eq_getElem hi]; rfl)
    obtain ⟨t, rfl⟩ := r1
    have ev : v = .int zs[i] t := by
      rw [List.getElem?_toArray, e1] at hv
      exact (Option.some.inj hv).symm
    subst ev
    exact ⟨zs[i], List.getElem?_eq_getElem hi, intKind_is _ _ _ _, rfl⟩
  · have nw := setIO_new (H := upd H s.heap.objs.size (SetIO X.prog X.w s.heap.objs.size zs.reverse.length)) N
    rw [List.length_reverse] at nw
    exact ⟨.ref _, _, I.laid (t' := tk) keep (Nat.le_refl _) nw, rfl, q _ hn⟩
/-- sorted(set) of texts -/
theorem cr_sortedN (hc : X.calm = true) : CallR X (.builtin "sorted") (fun xs H Q => ∃ (a : Addr) (n : Nat), xs = [V.ref a] ∧ H a = some (SetSO X.prog X.w a n) ∧ n < 64 ∧ ∀ (ss : List Str) (p : Addr), ss.length = n → H p = none → Q (.ref p) (upd H p (.lst (ss.map V.str)))) := by
  intro pins s σ H xs us Q I r h
  obtain ⟨a, n, rfl, ha, h64, q⟩ := h
  obtain ⟨⟨ks, rfl, N⟩, _⟩ := I.hok a _ ha
  rw [Vals.ref1 r]
  refine sorted_setS N (I.ok.hd hc) h64 fun s2 p out c ss keep eg eo hp hpo hss hlen => ?_
  have hn : H p = none := I.hok.fresh hp
  have hsz : (ss.map V.str).length ≤ sizeLine := by
    rw [List.length_map, hlen, sizeLine_eq]
    omega
  have J : Inv X pins σ (upd H p (.lst (ss.map V.str))) { s with heap := s2.heap, gens := s2.gens, drawn := s2.drawn, toks := s2.toks } :=
    I.call (ch := []) (Un.laid keep hp hn) (I.hok.laid keep hp ⟨hsz, out.toList, c, vals_of_strs hss, hpo⟩) (by rw [eg]; exact I.bare) (fun _ z => nomatch z)
  obtain ⟨h2, g2, d2, t2, o2⟩ := s2
  obtain rfl : o2 = s.os := eo
  exact ⟨.ref p, _, J, rfl, q ss p hlen hn⟩
/-- sorted(set) of ints -/
theorem cr_sortedM (hc : X.calm = true) : CallR X (.builtin "sorted") (fun xs H Q => ∃ (a : Addr) (n : Nat), xs = [V.ref a] ∧ H a = some (SetIO X.prog X.w a n) ∧ n < 64 ∧ ∀ (ns : List Int) (p : Addr), ns.length = n → H p = none → Q (.ref p) (upd H p (.lst (ns.map V.int)))) := by
  intro pins s σ H xs us Q I r h
  obtain ⟨a, n, rfl, ha, h64, q⟩ := h
  obtain ⟨⟨ks, rfl, N⟩, _⟩ := I.hok a _ ha
  rw [Vals.ref1 r]
  refine sorted_setI N (I.ok.hd hc) h64 fun s2 p out c ns keep eg eo hp hpo hss hlen => ?_
  have hn : H p = none := I.hok.fresh hp
  have hsz : (ns.map V.int).length ≤ sizeLine := by
    rw [List.length_map, hlen, sizeLine_eq]
    omega
  have J : Inv X pins σ (upd H p (.lst (ns.map V.int))) { s with heap := s2.heap, gens := s2.gens, drawn := s2.drawn, toks := s2.toks } :=
    I.call (ch := []) (Un.laid keep hp hn) (I.hok.laid keep hp ⟨hsz, out.toList, c, vals_of_ints hss, hpo⟩) (by rw [eg]; exact I.bare) (fun _ z => nomatch z)
  obtain ⟨h2, g2, d2, t2, o2⟩ := s2
  obtain rfl : o2 = s.os := eo
  exact ⟨.ref p, _, J, rfl, q ns p hlen hn⟩
end
end Lo
/-! Sorted texts are told by what is in them; data of texts and rows. -/
namespace Lo
open PySem PySem.Spec L2 PyProof.Rows
def leS (x y : Str) : Prop := x.cps.toList ≤ y.cps.toList
theorem str_ext {x y : Str} (h : x.cps.toList = y.cps.toList) : x = y := by
  obtain ⟨a⟩ := x
  obtain ⟨b⟩ := y
  have e : a = b := Array.ext' h
  rw [e]
theorem leS_of {x y : Str} (h : (!ltCps y.cps.toList x.cps.toList) = true) : leS x y := by
  rw [ltCps_eq, Bool.not_eq_true', decide_eq_false_iff_not] at h
  exact List.not_lt.mp h
theorem rising_pw : ∀ (l : List Str) (p : Str), risingS p l = true → (p :: l).Pairwise leS
  | [], p, _ => List.pairwise_cons.mpr ⟨fun x h => absurd h List.not_mem_nil, List.Pairwise.nil⟩
  | x :: r, p, h => by
    have h2 : (!ltCps x.cps.toList p.cps.toList && risingS x r) = true := h
    rw [Bool.and_eq_true] at h2
    have ih := rising_pw r x h2.2
    have px := leS_of h2.1
    refine List.pairwise_cons.mpr ⟨fun y hy => ?_, ih⟩
    rcases List.mem_cons.mp hy with e | e
    · exact e ▸ px
    · exact List.le_trans px ((List.pairwise_cons.mp ih).1 y e)
theorem sorted_pw : ∀ l : List Str, sortedS l = true → l.Pairwise leS
  | [], _ => List.Pairwise.nil
  | x :: r, h => rising_pw r x h
theorem sorted_one : ∀ (l m : List Str), l.Perm m → l.Pairwise leS → m.Pairwise leS → l = m
  | [], m, p, _, _ => (List.nil_perm.mp p).symm
  | x :: l, [], p, _, _ => absurd p.length_eq (by simp)
  | x :: l, y :: m, p, hl, hm => by
    obtain ⟨l1, l2⟩ := List.pairwise_cons.mp hl
    obtain ⟨m1, m2⟩ := List.pairwise_cons.mp hm
    have e : x = y := by
      rcases List.mem_cons.mp (p.mem_iff.mp (List.mem_cons_self (a := x) (l := l))) with h | h
      · exact h
      · rcases List.mem_cons.mp (p.mem_iff.mpr (List.mem_cons_self (a := y) (l := m))) with h' | h'
        · exact h'.symm
        · exact str_ext (List.le_antisymm (l1 y h') (m1 x h))
    subst e
    rw [sorted_one l m (List.Perm.cons_inv p) l2 m2]
/-- two lists without repetition that have the same things -/
theorem perm_same {α : Type} [DecidableEq α] : ∀ (l m : List α), l.Nodup → m.Nodup → (∀ x, x ∈ l ↔ x ∈ m) → l.Perm m
  | [], m, _, _, h => by
    cases m with
    | nil => exact List.Perm.nil
    | cons y m => exact absurd ((h y).mpr List.mem_cons_self) List.not_mem_nil
  | x :: l, m, hl, hm, h => by
    obtain ⟨h1, h2⟩ := List.nodup_cons.mp hl
    have hx := (h x).mp List.mem_cons_self
    have hp := List.perm_cons_erase hx
    refine (List.Perm.cons x (perm_same l (m.erase x) h2 (hm.erase x) fun y => ?_)).trans hp.symm
    rw [hm.mem_erase_iff]
    constructor
    · intro hy
      exact ⟨fun e => h1 (e ▸ hy), (h y).mp (List.mem_cons_of_mem _ hy)⟩
    · rintro ⟨h3, h4⟩
      exact (List.mem_cons.mp ((h y).mpr h4)).resolve_left h3
theorem sorted_same {l m l' m' : List Str} (p : l'.Perm l) (q : m'.Perm m) (hl : sortedS l' = true) (hm : sortedS m' = true) (h1 : l.Nodup) (h2 : m.Nodup) (h : ∀ x, x ∈ l ↔ x ∈ m) : l' = m' :=
  sorted_one l' m' ((p.trans (perm_same l m h1 h2 h)).trans q.symm) (sorted_pw _ hl) (sorted_pw _ hm)
/-! ### data -/
def strsD (zs : List Str) : PyData := .list (zs.map PyData.str)
def rowD (r : SRow) : PyData := .tuple [.str r.1, .str r.2.1, .int r.2.2]
def rowsD (rows : List SRow) : PyData := .list (rows.map rowD)
def OkR (r : SRow) : Prop := PyData.strOk r.1 = true ∧ PyData.strOk r.2.1 = true
theorem lay_strs : ∀ zs : List Str, (∀ z ∈ zs, PyData.strOk z = true) → PyData.canLayAll0 (zs.map PyData.str) = true
  | [], _ => rfl
  | z :: zs, h => by
    have h1 := h z List.mem_cons_self
    have h2 := lay_strs zs fun x hx => h x (List.mem_cons_of_mem _ hx)
    simp [PyData.canLayAll0, PyData.canLay0, h1, h2]
theorem deep_strs : ∀ zs : List Str, PyData.depthAll (zs.map PyData.str) = 0
  | [] => rfl
  | z :: zs => by simp [PyData.depthAll, PyData.depth, deep_strs zs]
theorem shaped_strs {zs : List Str} (h : ∀ z ∈ zs, PyData.strOk z = true) : SeqAt.shaped (strsD zs) = true := by
  unfold strsD
  simp [SeqAt.shaped, PyData.canLay0, PyData.depth, lay_strs zs h, deep_strs]
theorem lay_rows : ∀ rows : List SRow, (∀ r ∈ rows, OkR r) → PyData.canLayAll0 (rows.map rowD) = true
  | [], _ => rfl
  | r :: rows, h => by
    obtain ⟨h1, h2⟩ := h r List.mem_cons_self
    have h3 := lay_rows rows fun x hx => h x (List.mem_cons_of_mem _ hx)
    simp [PyData.canLayAll0, PyData.canLay0, rowD, h1, h2, h3]
theorem deep_rows : ∀ rows : List SRow, PyData.depthAll (rows.map rowD) ≤ 1
  | [] => by simp [PyData.depthAll]
  | r :: rows => by
    have ih := deep_rows rows
    simp [PyData.depthAll, PyData.depth, rowD]
    omega
theorem shaped_rows {rows : List SRow} (hr : ∀ r ∈ rows, OkR r) : SeqAt.shaped (rowsD rows) = true := by
  have h := deep_rows rows
  unfold rowsD
  simp [SeqAt.shaped, PyData.canLay0, PyData.depth, lay_rows rows hr]
  omega
theorem eqv_strs : ∀ zs : List Str, PyData.eqvAll (zs.map PyData.str) (zs.map PyData.str) = true
  | [] => by simp [PyData.eqvAll]
  | z :: zs => by simp [PyData.eqvAll, PyData.eqv, eqv_strs zs]
theorem eqv_strsD (zs : List Str) : PyData.eqv (strsD zs) (strsD zs) = true := by
  unfold strsD
  simp [PyData.eqv, eqv_strs]
theorem eqv_rows : ∀ rows : List SRow, PyData.eqvAll (rows.map rowD) (rows.map rowD) = true
  | [] => by simp [PyData.eqvAll]
  | r :: rows => by simp [PyData.eqvAll, PyData.eqv, rowD, eqv_rows rows]
theorem eqv_rowsD (rows : List SRow) : PyData.eqv (rowsD rows) (rowsD rows) = true := by
  unfold rowsD
  simp [PyData.eqv, eqv_rows]
theorem eqv_rows0 (rows : List SRow) : PyData.eqv (rowsD rows) (.list []) = decide (rows = []) := by
  cases rows with
  | nil =>
    unfold rowsD
    simp [PyData.eqv, PyData.eqvAll]
  | cons r rows =>
    unfold rowsD
    simp [PyData.eqv, PyData.eqvAll]
theorem dp_strs {K : PySem.W.Frag} {H : Hp} : ∀ zs : List Str, DpAll K H (zs.map V.str) (zs.map PyData.str)
  | [] => .nil
  | z :: zs => .cons (.str z) (dp_strs zs)
theorem dp_rows {K : PySem.W.Frag} {H : Hp} : ∀ (ps : List Addr) (rows : List SRow), ps.length = rows.length → (∀ (i : Nat) (p : Addr) (r : SRow), ps[i]? = some p → rows[i]? = some r → RowT H p r) → DpAll K H (ps.map V.ref) (rows.map rowD)
  | [], [], _, _ => .nil
  | p :: ps, r :: rows, hl, h => .cons (.tup (SqT.of (h 0 p r rfl rfl)) (.cons (.str _) (.cons (.str _) (.cons (.int _) .nil)))) (dp_rows ps rows (Nat.succ.inj hl) fun i p' r' h1 h2 => h (i + 1) p' r' h1 h2)
  | [], _ :: _, hl, _ => absurd hl (by simp)
  | _ :: _, [], hl, _ => absurd hl (by simp)
theorem dp_sys {K : PySem.W.Frag} {H : Hp} {a : Addr} {rows : List SRow} (h : Sys RowT H a rows) : Dp K H (.ref a) (rowsD rows) := by
  obtain ⟨ps, h1, h2, h3⟩ := h
  exact .lst (SqL.of h1) (dp_rows ps rows h2 h3)
end Lo
namespace Lo
open PySem L2
abbrev sSystem : Stmt := top 57


def pools : List (List Str) := [["a", "b", "c", "d"], ["z", "Z9", "00", " "], ["n", "n1", "m", "long name"], ["x", "xx", "xxx", "y"]]
theorem pools_len : ∀ xs ∈ pools, xs.length = 4 := by decide +kernel
theorem pools_nd : ∀ xs ∈ pools, xs.Nodup := by decide +kernel
theorem pools_ok : ∀ xs ∈ pools, ∀ x ∈ xs, x ≠ ("" : Str) ∧ x ≠ ("0" : Str) ∧ x ≠ ("new" : Str) ∧ x ≠ ("old" : Str) ∧ PyData.strOk x = true := by decide +kernel
section
variable {P : Program} {w : World} {K : PySem.W.Frag} {mg : Str → Option Value} {base : Heap}
/-! ### _law_pool -/
def spPool (K : PySem.W.Frag) : Sp := fun vs H Q _ => ∃ (s : Addr) (at_ : Int), vs = [.ref s, .int at_] ∧ Scr K H s ∧ ∀ H' p xs, Same H H' → H' p = some (.tup (xs.map V.str)) → xs ∈ pools → Q (.ref p) H'
theorem scPool : FnScope ["script", "at"] ["script", "at"] (defScope sPool) := ⟨rfl, rfl, rfl, by decide +kernel, rfl, by decide +kernel, by decide +kernel⟩
theorem ok_pool {f fD : Addr} {fd fdD : FuncData} (F : Fun K "_law_pool" "_law_pool" sPool f fd) (GD : FnOk P w K mg base CX0 1 fD fdD ["script", "at", "many"] (spDraw K)) (kD : PySem.W.keepIn K (.ref fD) = true) (bD : Binds K fdD ["script", "at", "many"] []) (gD : mg "_law_draw" = some (.ref fD)) :
    FnOk P w K mg base CX0 2 f fd ["script", "at"] (spPool K) := by
  refine F.ok scPool (fun vs H Q E h => ?_) (fun cdv A outer s H vs Q E hr h => ?_)
  · obtain ⟨s, a, rfl, _⟩ := h
    rfl
  · obtain ⟨s, a, rfl, hS, q⟩ := h
    refine ⟨_, pss_one (ps_ret (pe_ix ix_tup (pe_tup (pa_cons (pe_tup (pa_cons pe_str (pa_cons pe_str (pa_cons pe_str (pa_cons pe_str pa_nil))))) (pa_cons (pe_tup (pa_cons pe_str (pa_cons pe_str (pa_cons pe_str (pa_cons pe_str pa_nil)))))
      (pa_cons (pe_tup (pa_cons pe_str (pa_cons pe_str (pa_cons pe_str (pa_cons pe_str pa_nil))))) (pa_cons (pe_tup (pa_cons pe_str (pa_cons pe_str (pa_cons pe_str (pa_cons pe_str pa_nil))))) pa_nil)))))
      (pe_call GD hr (by rfl) gD kD bD .nil pass0 (pa_cons (pv 0) (pa_cons (pv 1) (pa_cons pe_int pa_nil)))) (fun _ _ => rfl))), ?_⟩
    refine ⟨by show 4 ≤ sizeLine; decide, fun t0 n0 => ⟨by show 4 ≤ sizeLine; decide, fun t1 n1 => ⟨by show 4 ≤ sizeLine; decide, fun t2 n2 => ⟨by show 4 ≤ sizeLine; decide, fun t3 n3 => ⟨by show 4 ≤ sizeLine; decide, fun tt nt => ?_⟩⟩⟩⟩⟩
    have s0 := same_upd (o := HO.tup ((["a", "b", "c", "d"] : List Str).map V.str)) n0
    have s1 := same_upd (o := HO.tup ((["z", "Z9", "00", " "] : List Str).map V.str)) n1
    have s2 := same_upd (o := HO.tup ((["n", "n1", "m", "long name"] : List Str).map V.str)) n2
    have s3 := same_upd (o := HO.tup ((["x", "xx", "xxx", "y"] : List Str).map V.str)) n3
    have s4 := same_upd (o := HO.tup [V.ref t0, V.ref t1, V.ref t2, V.ref t3]) nt
    have e0 := s4 _ _ (s3 _ _ (s2 _ _ (s1 _ _ (upd_same (H := H) (a := t0) (o := HO.tup ((["a", "b", "c", "d"] : List Str).map V.str))))))
    have e1 := s4 _ _ (s3 _ _ (s2 _ _ (upd_same (a := t1) (o := HO.tup ((["z", "Z9", "00", " "] : List Str).map V.str)))))
    have e2 := s4 _ _ (s3 _ _ (upd_same (a := t2) (o := HO.tup ((["n", "n1", "m", "long name"] : List Str).map V.str))))
    have e3 := s4 _ _ (upd_same (a := t3) (o := HO.tup ((["x", "xx", "xxx", "y"] : List Str).map V.str)))
    have sAll := (((s0.trans s1).trans s2).trans s3).trans s4
    refine ⟨.ref s, rfl, .int a, rfl, s, a, 4, rfl, hS.same sAll, by decide, fun H' k s' h0 h1 => ?_⟩
    have et := s' _ _ (upd_same (a := tt) (o := HO.tup [V.ref t0, V.ref t1, V.ref t2, V.ref t3]))
    have hk : k = ((0 : Nat) : Int) ∨ k = ((1 : Nat) : Int) ∨ k = ((2 : Nat) : Int) ∨ k = ((3 : Nat) : Int) := by omega
    rcases hk with rfl | rfl | rfl | rfl
    · exact ⟨tt, _, _, _, rfl, rfl, SqT.of et, atI_nat rfl, q H' t0 _ (sAll.trans s') (s' _ _ e0) (by decide +kernel)⟩
    · exact ⟨tt, _, _, _, rfl, rfl, SqT.of et, atI_nat rfl, q H' t1 _ (sAll.trans s') (s' _ _ e1) (by decide +kernel)⟩
    · exact ⟨tt, _, _, _, rfl, rfl, SqT.of et, atI_nat rfl, q H' t2 _ (sAll.trans s') (s' _ _ e2) (by decide +kernel)⟩
    · exact ⟨tt, _, _, _, rfl, rfl, SqT.of et, atI_nat rfl, q H' t3 _ (sAll.trans s') (s' _ _ e3) (by decide +kernel)⟩
/-! ### _law_system -/
/-- names that a law draws -/
structure Names (ns : List Str) : Prop where
  two : 2 ≤ ns.length
  few : ns.length ≤ 4
  nd : ns.Nodup
  ok : ∀ x ∈ ns, x ≠ ("" : Str) ∧ x ≠ ("0" : Str) ∧ x ≠ ("new" : Str) ∧ x ≠ ("old" : Str) ∧ PyData.strOk x = true
theorem Names.ends (N : Names ns) : (("0" : Str) :: ns).Nodup ∧ ∀ x ∈ (("0" : Str) :: ns), x ≠ ("" : Str) ∧ x ≠ ("new" : Str) ∧ x ≠ ("old" : Str) ∧ PyData.strOk x = true := by
  refine ⟨List.nodup_cons.mpr ⟨fun h => (N.ok _ h).2.1 rfl, N.nd⟩, fun x hx => ?_⟩
  rcases List.mem_cons.mp hx with h | h
  · subst h
    decide +kernel
  · obtain ⟨a, b, c, d, e⟩ := N.ok x h
    exact ⟨a, c, d, e⟩
/-- its two sides are ends -/
def In2 (ns : List Str) (r : SRow) : Prop := r.1 ∈ (("0" : Str) :: ns) ∧ r.2.1 ∈ (("0" : Str) :: ns)
def spSystem (K : PySem.W.Frag) : Sp := fun vs H Q _ => ∃ (s np : Addr) (at_ most : Int) (ns : List Str), vs = [.ref s, .int at_, .ref np, .int most] ∧ Scr K H s ∧ H np = some (.tup (ns.map V.str)) ∧ Names ns ∧ 0 ≤ most ∧ most ≤ 10 ∧
  ∀ H' p rows, Same H H' → H p = none → Sys RowT H' p rows → Good rows → rows.length ≤ 10 → (∀ r ∈ rows, OkR r ∧ In2 ns r) → Q (.ref p) H'
abbrev nSystem : List Str := ["script", "at", "names", "most", "found", "ends", "scale", "turn", "spot", "one", "other", "limit"]
theorem scSystem : FnScope nSystem ["script", "at", "names", "most"] (defScope sSystem) := ⟨rfl, rfl, rfl, by decide +kernel, rfl, by decide +kernel, by decide +kernel⟩
theorem ok_system {f fD : Addr} {fd fdD : FuncData} (F : Fun K "_law_system" "_law_system" sSystem f fd) (T : Blt mg) (GD : FnOk P w K mg base CX0 1 fD fdD ["script", "at", "many"] (spDraw K)) (kD : PySem.W.keepIn K (.ref fD) = true) (bD : Binds K fdD ["script", "at", "many"] []) (gD : mg "_law_draw" = some (.ref fD)) :
    FnOk P w K mg base CX0 2 f fd ["script", "at", "names", "most"] (spSystem K) := by
  refine F.ok scSystem (fun vs H Q E h => ?_) (fun cdv A outer s H vs Q E hr h => ?_)
  · obtain ⟨s, np, a, m, ns, rfl, _⟩ := h
    rfl
  · obtain ⟨s, np, a, most, ns, rfl, hS, hN, N, hm0, hm1, q⟩ := h
    have nd := scSystem.nd
    refine ⟨_, pss_cons (ps_par (i := 4) (j := 5) rfl nd rfl rfl (by decide) rfl rfl (pa_cons (pe_lst pa_nil) (pa_cons (pe_op op_catT (pe_tup (pa_cons pe_str pa_nil)) (pe_callTy call_tuple_of (by rfl) T.tuple PyProof.Rows.boot_tuple (pa_cons (pv 2) pa_nil))) pa_nil)) (by rfl))
      (pss_cons (ps_set (i := 6) nd rfl (.inl rfl) (pe_ix ix_tup (pe_tup (pa_cons pe_int (pa_cons pe_int (pa_cons pe_int (pa_cons pe_int (pa_cons (pe_op op_pow pe_int pe_int) pa_nil))))))
        (pe_call GD hr (by rfl) gD kD bD .nil pass0 (pa_cons (pv 0) (pa_cons (pv 1) (pa_cons pe_int pa_nil)))) (fun _ _ => rfl)))
      (pss_cons (ps_for PassesOwn.never rfl (pi_range1 (by rfl) T.range (pa_cons (pe_call GD hr (by rfl) gD kD bD .nil pass0 (pa_cons (pv 0) (pa_cons (pe_op op_add (pv 1) pe_int) (pa_cons (pe_op op_add (pv 3) pe_int) pa_nil)))) pa_nil)) (pg_name (i := 7) nd rfl (.inl rfl))
        (pss_cons (ps_set (i := 8) nd rfl (.inl rfl) (pe_op op_add (pe_op op_add (pv 1) pe_int) (pe_op op_mul pe_int (pv 7))))
        (pss_cons (ps_set (i := 9) nd rfl (.inl rfl) (pe_call GD hr (by rfl) gD kD bD .nil pass0 (pa_cons (pv 0) (pa_cons (pv 8) (pa_cons (pe_callB call_len_seq (by rfl) T.len PySem.boot_len (pa_cons (pv 5) pa_nil)) pa_nil)))))
        (pss_cons (ps_set (i := 10) nd rfl (.inl rfl) (pe_op op_modN (pe_callTy call_intI (by rfl) T.int PyProof.Rows.boot_int (pa_cons (pe_op op_add (pe_op op_add (pv 9) pe_int)
            (pe_call GD hr (by rfl) gD kD bD .nil pass0 (pa_cons (pv 0) (pa_cons (pe_op op_add (pv 8) pe_int) (pa_cons (pe_op op_sub (pe_callB call_len_seq (by rfl) T.len PySem.boot_len (pa_cons (pv 5) pa_nil)) pe_int) pa_nil))))) pa_nil))
            (pe_callB call_len_seq (by rfl) T.len PySem.boot_len (pa_cons (pv 5) pa_nil))))
        (pss_cons (ps_set (i := 11) nd rfl (.inl rfl) (pe_op op_sub (pe_call GD hr (by rfl) gD kD bD .nil pass0 (pa_cons (pv 0) (pa_cons (pe_op op_add (pv 8) pe_int) (pa_cons pe_int pa_nil)))) pe_int))
        (pss_cons (ps_if (PW.pt (pw_and (pt_cmpR op_gt (pv 6) pe_int (nomark _)) (pw_and1 (pt_cmpR op_eq (pe_call GD hr (by rfl) gD kD bD .nil pass0 (pa_cons (pv 0) (pa_cons (pe_op op_add (pv 8) pe_int) (pa_cons pe_int pa_nil)))) pe_int (nomark _)))))
          (pss_one (ps_set (i := 11) nd rfl (.inl rfl) (pe_op op_add (pe_op op_mul (pe_op op_sub (pv 11) pe_int) (pv 6)) (pv 11)))) pss_nil)
        (pss_one (ps_expr (pe_bm PySem.F.plainAttrs_list PySem.F.slot_list_append PySem.F.type_list_append mt_append (pv 4)
          (pa_cons (pe_tup (pa_cons (pe_ix ix_tup (pv 5) (pv 9) (fun _ _ => rfl)) (pa_cons (pe_ix ix_tup (pv 5) (pv 10) (fun _ _ => rfl)) (pa_cons (pv 11) pa_nil)))) pa_nil))))))))))
      (pss_one (ps_ret (pv 4))))), ?_⟩
    refine ⟨Nat.zero_le _, fun o no => ⟨by show 1 ≤ sizeLine; decide, fun z nz => ?_⟩⟩
    have sA := same_upd (o := HO.lst []) no
    have sB := same_upd (o := HO.tup [V.str "0"]) nz
    have s2 := sA.trans sB
    have nsne : ns.map V.str ≠ [] := fun e => by
      have := N.two
      cases ns with
      | nil => exact absurd this (by decide)
      | cons x r => exact nomatch e
    refine ⟨.ref np, rfl, np, _, rfl, .inr ⟨SqT.of (s2 _ _ hN), z, np, _, _, rfl, rfl, SqT.of upd_same, SqT.of (s2 _ _ hN), List.cons_ne_nil _ _, ?_, fun e => absurd e nsne, fun _ en nen => ?_⟩⟩
    · rw [List.length_map]
      have := N.few
      exact Nat.le_of_lt (small1000 (by show 1 + ns.length ≤ 1000; omega))
    have sC := same_upd (o := HO.tup ([V.str "0"] ++ ns.map V.str)) nen
    have s3 := s2.trans sC
    obtain ⟨end_nd, end_ok⟩ := N.ends
    have eE : [V.str "0"] ++ ns.map V.str = (("0" : Str) :: ns).map V.str := rfl
    have ho3 := sC _ _ (sB _ _ (upd_same (H := H) (a := o) (o := HO.lst [])))
    have he3 := upd_same (H := upd (upd H o (.lst [])) z (.tup [V.str "0"])) (a := en) (o := HO.tup ([V.str "0"] ++ ns.map V.str))
    generalize upd (upd (upd H o (.lst [])) z (.tup [V.str "0"])) en (.tup ([V.str "0"] ++ ns.map V.str)) = H3 at s3 ho3 he3 ⊢
    rw [eE] at he3
    -- the scale
    refine ⟨_, _, rfl, _, _, rfl, rfl, ⟨by decide, by decide, by decide⟩, by show 5 ≤ sizeLine; decide, fun sc nsc => ?_⟩
    have sD := same_upd (o := HO.tup [V.int 1, V.int 1, V.int 1, V.int 1000, V.int (10 ^ Int.toNat 15)]) nsc
    refine ⟨.ref s, rfl, .int a, rfl, s, a, 5, rfl, hS.same (s3.trans sD), by decide, fun H4 k s4 h0 h1 => ?_⟩
    have et := s4 _ _ (upd_same (H := H3) (a := sc) (o := HO.tup [V.int 1, V.int 1, V.int 1, V.int 1000, V.int (10 ^ Int.toNat 15)]))
    obtain ⟨scale, hat, hs0, hs1⟩ : ∃ scale : Int, atI [V.int 1, V.int 1, V.int 1, V.int 1000, V.int (10 ^ Int.toNat 15)] k = some (.int scale) ∧ -(2 ^ 64) < scale ∧ scale < 2 ^ 64 := by
      have hk : k = ((0 : Nat) : Int) ∨ k = ((1 : Nat) : Int) ∨ k = ((2 : Nat) : Int) ∨ k = ((3 : Nat) : Int) ∨ k = ((4 : Nat) : Int) := by omega
      rcases hk with rfl | rfl | rfl | rfl | rfl
      · exact ⟨1, atI_nat rfl, by decide, by decide⟩
      · exact ⟨1, atI_nat rfl, by decide, by decide⟩
      · exact ⟨1, atI_nat rfl, by decide, by decide⟩
      · exact ⟨1000, atI_nat rfl, by decide, by decide⟩
      · exact ⟨10 ^ Int.toNat 15, atI_nat rfl, by decide, by decide⟩
    refine ⟨sc, _, _, _, rfl, rfl, SqT.of et, hat, ?_⟩
    have s14 := (s3.trans sD).trans s4
    have ho4 := s4 _ _ (sD _ _ ho3)
    have he4 := s4 _ _ (sD _ _ he3)
    refine ⟨.ref s, rfl, .int a, rfl, _, _, rfl, rfl, .int most, rfl, _, _, rfl, rfl, s, _, _, rfl, hS.same s14, by omega, fun H5 turns s5 t0 t1 => ?_⟩
    refine ⟨_, rfl, by omega, by omega, for_range (lo := 0) (fun i σ H' => ∃ (y7 y8 y9 y10 y11 : Option V) (rows : List SRow) (qs : List Addr), σ = [some (.ref s), some (.int a), some (.ref np), some (.int most), some (.ref o), some (.ref en), some (.int scale), y7, y8, y9, y10, y11] ∧ Same H H' ∧
        H' en = some (.tup ((("0" : Str) :: ns).map V.str)) ∧ H' o = some (.lst (qs.map V.ref)) ∧ qs.length = i ∧ rows.length = i ∧ (∀ (j : Nat) (p : Addr) (r : SRow), qs[j]? = some p → rows[j]? = some r → RowT H' p r) ∧ ∀ r ∈ rows, Good1 r ∧ OkR r ∧ In2 ns r)
      ⟨none, none, none, none, none, [], [], rfl, s14.trans s5, s5 _ _ he4, s5 _ _ ho4, rfl, rfl, fun j p r e => (nomatch e), fun r h => absurd h List.not_mem_nil⟩ ?_ ?_⟩
    · rintro i σ H6 hi ⟨y7, y8, y9, y10, y11, rows, qs, rfl, s6, he6, ho6, hq, hrl, hrow, hgood⟩
      have elen : (((("0" : Str) :: ns).map V.str).length : Int) = (ns.length : Int) + 1 := by
        rw [List.length_map]
        rfl
      have l2 := N.two
      have l4 := N.few
      -- spot, one
      refine ⟨.int a, rfl, _, _, rfl, rfl, _, rfl, _, _, rfl, rfl, .inl ⟨by decide, by decide⟩, _, _, rfl, rfl, ?_⟩
      refine ⟨.ref s, rfl, _, rfl, .ref en, rfl, en, _, rfl, .inr (SqT.of he6), s, _, _, rfl, hS.same s6, by rw [elen]; omega, fun H7 one s7 o0 o1 => ?_⟩
      rw [elen] at o1
      have he7 := s7 _ _ he6
      -- other
      refine ⟨.int one, rfl, _, _, rfl, rfl, .ref s, rfl, _, rfl, _, _, rfl, rfl, .ref en, rfl, en, _, rfl, .inr (SqT.of he7), _, _, rfl, rfl, s, _, _, rfl, hS.same (s6.trans s7), by rw [elen]; omega, fun H8 d s8 d0 d1 => ?_⟩
      rw [elen] at d1
      have he8 := s8 _ _ he7
      refine ⟨_, _, rfl, rfl, _, rfl, .ref en, rfl, en, _, rfl, .inr (SqT.of he8), _, _, rfl, rfl, (by rw [elen]; omega), ?_⟩
      rw [elen]
      obtain ⟨z0, z1, z2⟩ := other_ne (o := one) (d := d) (n := (ns.length : Int) + 1) o0 o1 d0 (by omega)
      -- limit
      refine ⟨.ref s, rfl, _, rfl, _, _, rfl, rfl, s, _, 9, rfl, hS.same ((s6.trans s7).trans s8), by decide, fun H9 lim s9 l0 l1 => ?_⟩
      refine ⟨_, _, rfl, rfl, ?_⟩
      have s69 := ((s6.trans s7).trans s8).trans s9
      -- the two ends
      obtain ⟨j1, rfl, hj1⟩ : ∃ j : Nat, one = (j : Nat) ∧ j < (("0" : Str) :: ns).length := ⟨one.toNat, by omega, by rw [List.length_cons]; omega⟩
      obtain ⟨j2, ej2, hj2⟩ : ∃ j : Nat, ((j1 : Int) + 1 + d).fmod ((ns.length : Int) + 1) = (j : Nat) ∧ j < (("0" : Str) :: ns).length :=
        ⟨(((j1 : Int) + 1 + d).fmod ((ns.length : Int) + 1)).toNat, by omega, by rw [List.length_cons]; omega⟩
      rw [ej2] at z2
      dsimp only
      rw [ej2]
      have at1 : atI ((("0" : Str) :: ns).map V.str) (j1 : Nat) = some (.str (("0" : Str) :: ns)[j1]) := atI_nat (by rw [List.getElem?_map, List.getElem?_eq_getElem hj1]; rfl)
      have at2 : atI ((("0" : Str) :: ns).map V.str) (j2 : Nat) = some (.str (("0" : Str) :: ns)[j2]) := atI_nat (by rw [List.getElem?_map, List.getElem?_eq_getElem hj2]; rfl)
      have hne : (("0" : Str) :: ns)[j1] ≠ (("0" : Str) :: ns)[j2] := fun e => z2 (by rw [(List.getElem_inj end_nd).mp e])
      have g1 : ∀ c : Int, Good1 ((("0" : Str) :: ns)[j1], (("0" : Str) :: ns)[j2], c) ∧ OkR ((("0" : Str) :: ns)[j1], (("0" : Str) :: ns)[j2], c) ∧ In2 ns ((("0" : Str) :: ns)[j1], (("0" : Str) :: ns)[j2], c) := fun c => ⟨⟨hne, (end_ok _ (List.getElem_mem hj1)).1, (end_ok _ (List.getElem_mem hj2)).1⟩, ⟨(end_ok _ (List.getElem_mem hj1)).2.2.2, (end_ok _ (List.getElem_mem hj2)).2.2.2⟩, List.getElem_mem hj1, List.getElem_mem hj2⟩
      have fin : ∀ (H' : Hp) (t : Addr) (c : Int) (y : Option V), Same H6 H' → H' t = none → ∃ (y7 y8 y9 y10 y11 : Option V) (rows : List SRow) (qs' : List Addr),
          [some (V.ref s), some (.int a), some (.ref np), some (.int most), some (.ref o), some (.ref en), some (.int scale), some (.int (0 + (i : Int))), some (.int (a + 2 + 4 * (0 + (i : Int)))), some (.int (j1 : Nat)), some (.int (j2 : Nat)), y] = [some (.ref s), some (.int a), some (.ref np), some (.int most), some (.ref o), some (.ref en), some (.int scale), y7, y8, y9, y10, y11] ∧
          Same H (upd (upd H' t (.tup [.str (("0" : Str) :: ns)[j1], .str (("0" : Str) :: ns)[j2], .int c])) o (.lst (qs.map V.ref ++ [.ref t]))) ∧
          upd (upd H' t (.tup [.str (("0" : Str) :: ns)[j1], .str (("0" : Str) :: ns)[j2], .int c])) o (.lst (qs.map V.ref ++ [.ref t])) en = some (.tup ((("0" : Str) :: ns).map V.str)) ∧
          upd (upd H' t (.tup [.str (("0" : Str) :: ns)[j1], .str (("0" : Str) :: ns)[j2], .int c])) o (.lst (qs.map V.ref ++ [.ref t])) o = some (.lst (qs'.map V.ref)) ∧ qs'.length = i + 1 ∧ rows.length = i + 1 ∧
          (∀ (j : Nat) (p : Addr) (r : SRow), qs'[j]? = some p → rows[j]? = some r → RowT (upd (upd H' t (.tup [.str (("0" : Str) :: ns)[j1], .str (("0" : Str) :: ns)[j2], .int c])) o (.lst (qs.map V.ref ++ [.ref t]))) p r) ∧ ∀ r ∈ rows, Good1 r ∧ OkR r ∧ In2 ns r := by
        intro H' t c y s' nt
        have sT := same_upd (o := HO.tup [.str (("0" : Str) :: ns)[j1], .str (("0" : Str) :: ns)[j2], .int c]) nt
        have ho' := sT _ _ (s' _ _ ho6)
        have keep : ∀ (b : Addr) (xs : List V), upd H' t (.tup [.str (("0" : Str) :: ns)[j1], .str (("0" : Str) :: ns)[j2], .int c]) b = some (.tup xs) → upd (upd H' t (.tup [.str (("0" : Str) :: ns)[j1], .str (("0" : Str) :: ns)[j2], .int c])) o (.lst (qs.map V.ref ++ [.ref t])) b = some (.tup xs) := fun b xs e => by
          rw [upd_ne (ne_of e ho' (by intro z; cases z))]
          exact e
        refine ⟨_, _, _, _, _, rows ++ [((("0" : Str) :: ns)[j1], (("0" : Str) :: ns)[j2], c)], qs ++ [t], rfl, ((s6.trans s').trans sT).later no, keep _ _ (sT _ _ (s' _ _ he6)), by rw [upd_same, List.map_append]; rfl, by rw [List.length_append, hq]; rfl, by rw [List.length_append, hrl]; rfl, fun j p r hp hr' => ?_, fun r hr' => ?_⟩
        · by_cases k : j < i
          · rw [List.getElem?_append_left (by omega)] at hp hr'
            exact keep _ _ (sT _ _ (s' _ _ (hrow j p r hp hr')))
          · have hj2 : j = i := by
              have := (List.getElem?_eq_some_iff.mp hp).1
              rw [List.length_append, List.length_singleton] at this
              omega
            subst hj2
            rw [List.getElem?_append_right (by omega), hq, Nat.sub_self] at hp
            rw [List.getElem?_append_right (by omega), hrl, Nat.sub_self] at hr'
            have e1 : t = p := Option.some.inj hp
            have e2 := Option.some.inj hr'
            subst e1 e2
            exact keep _ _ upd_same
        · rcases List.mem_append.mp hr' with h | h
          · exact hgood r h
          · rw [List.mem_singleton] at h
            subst h
            exact g1 c
      have hsz : (qs.map V.ref).length < sizeLine := by
        rw [List.length_map, hq]
        exact small1000 (by omega)
      have ho9 := s9 _ _ (s8 _ _ (s7 _ _ ho6))
      have he9 := s9 _ _ he8
      have s39 := (s7.trans s8).trans s9
      refine ⟨_, rfl, _, _, rfl, rfl, _, rfl, ite2 (fun _ => ?_) (fun _ => ?_)⟩
      · refine ⟨.ref s, rfl, _, rfl, _, _, rfl, rfl, s, _, 2, rfl, hS.same s69, by decide, fun H10 k2 s10 _ _ => ?_⟩
        have ho10 := s10 _ _ ho9
        have he10 := s10 _ _ he9
        refine ⟨rfl, _, rfl, ite2 (fun _ => ?_) (fun _ => ?_)⟩
        · refine ⟨_, rfl, _, _, rfl, rfl, _, rfl, _, _, rfl, rfl, .inr ⟨hs0, hs1⟩, _, rfl, _, _, rfl, rfl, ?_⟩
          refine ⟨.ref o, rfl, .inl ⟨rfl, _, SqL.of ho10⟩, .ref en, rfl, _, rfl, en, _, _, _, rfl, rfl, SqT.of he10, at1, .ref en, rfl, _, rfl, en, _, _, _, rfl, rfl, SqT.of he10, at2, _, rfl, by show 3 ≤ sizeLine; decide, fun t nt => ?_⟩
          exact ⟨o, _, _, rfl, rfl, same_upd nt _ _ ho10, hsz, fin H10 t _ _ (s39.trans s10) nt⟩
        · refine ⟨.ref o, rfl, .inl ⟨rfl, _, SqL.of ho10⟩, .ref en, rfl, _, rfl, en, _, _, _, rfl, rfl, SqT.of he10, at1, .ref en, rfl, _, rfl, en, _, _, _, rfl, rfl, SqT.of he10, at2, _, rfl, by show 3 ≤ sizeLine; decide, fun t nt => ?_⟩
          exact ⟨o, _, _, rfl, rfl, same_upd nt _ _ ho10, hsz, fin H10 t _ _ (s39.trans s10) nt⟩
      · refine iteF ?_
        refine ⟨.ref o, rfl, .inl ⟨rfl, _, SqL.of ho9⟩, .ref en, rfl, _, rfl, en, _, _, _, rfl, rfl, SqT.of he9, at1, .ref en, rfl, _, rfl, en, _, _, _, rfl, rfl, SqT.of he9, at2, _, rfl, by show 3 ≤ sizeLine; decide, fun t nt => ?_⟩
        exact ⟨o, _, _, rfl, rfl, same_upd nt _ _ ho9, hsz, fin H9 t _ _ s39 nt⟩
    · rintro σ H6 ⟨y7, y8, y9, y10, y11, rows, qs, rfl, s6, he6, ho6, hq, hrl, hrow, hgood⟩
      refine ⟨.ref o, rfl, q H6 o rows s6 no ⟨qs, ho6, by omega, hrow⟩ ⟨fun r h => (hgood r h).1, by omega⟩ (by omega) fun r h => (hgood r h).2⟩
end
end Lo
namespace Lo
open PySem L2
structure Blt2 (mg : Str → Option Value) : Prop where
  sorted : mg "sorted" = none
  set : mg "set" = none
  sum : mg "sum" = none
  dict : mg "dict" = none
/-! ### _law_names_of -/
/-- names without the number -/
def noZ (ks : List Str) : List Str := ks.filter fun x => decide (x ≠ ("0" : Str))
theorem noZ_add (ks : List Str) (x : Str) : noZ (addN ks x) = if x = ("0" : Str) then noZ ks else addN (noZ ks) x := by
  unfold addN noZ
  by_cases z : x = ("0" : Str)
  · rw [if_pos z]
    split
    · rfl
    · rw [List.filter_append, List.filter_cons, if_neg (by rw [decide_eq_true_eq]; exact fun n => n z), List.filter_nil, List.append_nil]
  · rw [if_neg z]
    by_cases m : x ∈ ks
    · rw [if_pos m, if_pos (List.mem_filter.mpr ⟨m, decide_eq_true z⟩)]
    · rw [if_neg m, if_neg (fun h => m (List.mem_filter.mp h).1), List.filter_append, List.filter_cons, if_pos (decide_eq_true z), List.filter_nil]
theorem inV_strs (x : Str) : ∀ zs : List Str, inV (.str x) (zs.map V.str) = decide (x ∈ zs)
  | [] => by simp [inV]
  | z :: zs => by
    have ih := inV_strs x zs
    unfold inV at ih ⊢
    rw [List.map_cons, List.any_cons, ih]
    show ((z == x) || decide (x ∈ zs)) = decide (x ∈ z :: zs)
    by_cases e : z = x
    · subst e
      simp
    · have e' : ¬ x = z := fun q => e q.symm
      simp [e, e']
theorem flat_all (zs : List Str) : (zs.map V.str).all flatV = true := by
  rw [List.all_eq_true]
  intro v hv
  obtain ⟨z, _, rfl⟩ := List.mem_map.mp hv
  rfl
theorem ne_dec (x y : Str) : (!decide (V.str x = V.str y)) = decide (x ≠ y) := by
  by_cases e : x = y
  · subst e
    simp
  · rw [decide_eq_false fun q => e (V.str.inj q), decide_eq_true e]
    rfl
end Lo
/-! The last causes of the sums lead back to the left side: a chain of the least sum. -/
namespace Lo
section
variable {α : Type} [DecidableEq α]
/-- from x back along the last causes -/
inductive Cway (rows : List (Row α)) (left : α) (cs : List α) (cz : α → Nat) : α → List Nat → Prop
  | here : Cway rows left cs cz left []
  | step {x a : α} {c : Int} {l : List Nat} : x ≠ left → x ∈ cs → rows[cz x]? = some (a, x, c) → Cway rows left cs cz a l → Cway rows left cs cz x (cz x :: l)
/-- a chain of rows by their places -/
inductive Path (rows : List (Row α)) : α → List Nat → α → Int → Prop
  | nil (a : α) : Path rows a [] a 0
  | cons {a m b : α} {j : Nat} {c s : Int} {l : List Nat} : rows[j]? = some (a, m, c) → Path rows m l b s → Path rows a (j :: l) b (c + s)
variable {rows : List (Row α)} {left : α} {ss cs : List α} {sv : α → Int} {cz : α → Nat}
theorem Path.snoc {a m x : α} {l : List Nat} {s c : Int} {j : Nat} (h : Path rows a l m s) (hj : rows[j]? = some (m, x, c)) : Path rows a (l ++ [j]) x (s + c) := by
  induction h with
  | nil a =>
    have q : Path rows a [j] x (c + 0) := .cons hj (.nil x)
    have e : (0 : Int) + c = c + 0 := by omega
    rw [e]
    exact q
  | @cons a m' b j' c' s' l' h1 h2 ih =>
    have q := Path.cons h1 (ih hj)
    have e : c' + s' + c = c' + (s' + c) := by omega
    rw [e]
    exact q
theorem Cway.fn {x : α} {l : List Nat} (h : Cway rows left cs cz x l) : ∀ {l' : List Nat}, Cway rows left cs cz x l' → l = l' := by
  induction h with
  | here =>
    intro l' h'
    cases h' with
    | here => rfl
    | step n => exact absurd rfl n
  | @step x a c l n hc hr h ih =>
    intro l' h'
    cases h' with
    | here => exact absurd rfl n
    | @step _ a' c' l'' n' hc' hr' h' =>
      rw [hr] at hr'
      injection hr' with e
      injection e with e1 e2
      subst e1
      rw [ih h']
theorem Cway.under {x : α} {l : List Nat} (h : Cway rows left cs cz x l) : ∀ j ∈ l, ∃ (z a : α) (c : Int) (l' : List Nat), rows[j]? = some (a, z, c) ∧ Cway rows left cs cz z l' ∧ l'.length ≤ l.length := by
  induction h with
  | here => exact fun j hj => absurd hj List.not_mem_nil
  | @step x a c l n hc hr h ih =>
    intro j hj
    rcases List.mem_cons.mp hj with e | e
    · subst e
      exact ⟨x, a, c, _, hr, .step n hc hr h, Nat.le_refl _⟩
    · obtain ⟨z, a', c', l', h1, h2, h3⟩ := ih j e
      exact ⟨z, a', c', l', h1, h2, by rw [List.length_cons]; omega⟩
theorem Cway.nodup {x : α} {l : List Nat} (h : Cway rows left cs cz x l) : l.Nodup := by
  induction h with
  | here => exact List.nodup_nil
  | @step x a c l n hc hr h ih =>
    refine List.nodup_cons.mpr ⟨fun m => ?_, ih⟩
    obtain ⟨z, a', c', l', h1, h2, h3⟩ := h.under _ m
    rw [hr] at h1
    injection h1 with e
    injection e with _ e
    injection e with e _
    subst e
    have := (Cway.step n hc hr h).fn h2
    rw [← this, List.length_cons] at h3
    omega
theorem Cway.lt {x : α} {l : List Nat} (h : Cway rows left cs cz x l) : ∀ j ∈ l, j < rows.length := fun j hj => by
  obtain ⟨_, _, _, _, h1, _⟩ := h.under j hj
  exact (List.getElem?_eq_some_iff.mp h1).1
/-- the sums with their last causes -/
structure SW (rows : List (Row α)) (left : α) (ss : List α) (sv : α → Int) (cs : List α) (cz : α → Nat) : Prop extends Sums rows left ss sv where
  way : ∀ x ∈ ss, ∃ l, Cway rows left cs cz x l
  cau : ∀ x ∈ ss, x ≠ left → ∀ (a : α) (c : Int), rows[cz x]? = some (a, x, c) → a ∈ ss ∧ sv a + c ≤ sv x
theorem Sums.zero (S : Sums rows left ss sv) {v : α → Int} (hv : Sat rows v) : sv left = 0 := by
  have h1 := S.low
  have h2 := S.sound left S.has v hv
  omega
/-- a name on the way to x, when its sum is lowered from x: none -/
theorem SW.past (S : SW rows left ss sv cs cz) {v : α → Int} (hv : Sat rows v) {b : α} {j : Nat} {x : α} {l : List Nat} (h : Cway rows left cs cz x l) (hx : x ∈ ss) (hb : b ≠ left) :
    (∃ l', Cway rows left (addN cs b) (put cz b j) x l') ∨ (b ∈ ss ∧ sv b + v b ≤ sv x + v x) := by
  induction h with
  | here => exact .inl ⟨[], .here⟩
  | @step x a c l n hc hr h ih =>
    by_cases k : x = b
    · subst k
      exact .inr ⟨hx, Int.le_refl _⟩
    · obtain ⟨h1, h2⟩ := S.cau x hx n a c hr
      have h3 := hv _ (List.mem_of_getElem? hr)
      simp only at h3
      rcases ih h1 with ⟨l', q⟩ | ⟨q1, q2⟩
      · refine .inl ⟨_, Cway.step (c := c) n (mem_addN.mpr (.inl hc)) ?_ q⟩
        rw [put_off k]
        exact hr
      · exact .inr ⟨q1, by omega⟩
theorem Cway.moved {b : α} {j : Nat} {lb : List Nat} (B : Cway rows left (addN cs b) (put cz b j) b lb) {x : α} {l : List Nat} (h : Cway rows left cs cz x l) : ∃ l', Cway rows left (addN cs b) (put cz b j) x l' := by
  induction h with
  | here => exact ⟨[], .here⟩
  | @step x a c l n hc hr h ih =>
    by_cases k : x = b
    · subst k
      exact ⟨_, B⟩
    · obtain ⟨l', q⟩ := ih
      refine ⟨_, Cway.step (c := c) n (mem_addN.mpr (.inl hc)) ?_ q⟩
      rw [put_off k]
      exact hr
theorem SW.step (S : SW rows left ss sv cs cz) {v : α → Int} (hv : Sat rows v) {a b : α} {c : Int} {j : Nat} (hr : rows[j]? = some (a, b, c)) (nab : a ≠ b) (ha : a ∈ ss) (h : b ∈ ss → sv a + c < sv b) :
    SW rows left (addN ss b) (put sv b (sv a + c)) (addN cs b) (put cz b j) := by
  have hm := List.mem_of_getElem? hr
  have T := S.toSums.step hm ha h
  have z := S.toSums.zero hv
  have hb : b ≠ left := fun e => by
    subst e
    have h1 := h S.has
    have h2 := S.sound a ha v hv
    have h3 := hv _ hm
    simp only at h3
    omega
  obtain ⟨la, wa⟩ := S.way a ha
  have hab : ∃ l', Cway rows left (addN cs b) (put cz b j) a l' := by
    rcases S.past hv (b := b) (j := j) wa ha hb with q | ⟨q1, q2⟩
    · exact q
    · have h1 := h q1
      have h3 := hv _ hm
      simp only at h3
      omega
  obtain ⟨la', wa'⟩ := hab
  have B : Cway rows left (addN cs b) (put cz b j) b (put cz b j b :: la') := by
    refine .step (c := c) hb (mem_addN.mpr (.inr rfl)) ?_ wa'
    rw [put_at]
    exact hr
  refine { T with way := fun x hx => ?_, cau := fun x hx nx a' c' hr' => ?_ }
  · by_cases k : x = b
    · subst k
      exact ⟨_, B⟩
    · obtain ⟨l, w⟩ := S.way x ((mem_addN.mp hx).resolve_right k)
      exact B.moved w
  · by_cases k : x = b
    · subst k
      rw [put_at, hr] at hr'
      injection hr' with e
      injection e with e1 e
      injection e with _ e2
      subst e1 e2
      refine ⟨mem_addN.mpr (.inl ha), ?_⟩
      rw [put_at, put_off nab]
      exact Int.le_refl _
    · rw [put_off k] at hr'
      obtain ⟨h1, h2⟩ := S.cau x ((mem_addN.mp hx).resolve_right k) nx a' c' hr'
      refine ⟨mem_addN.mpr (.inl h1), ?_⟩
      rw [put_off k]
      by_cases m : a' = b
      · subst m
        rw [put_at]
        have := h h1
        omega
      · rw [put_off m]
        exact h2
theorem SW.start (rows : List (Row α)) (left : α) (sv : α → Int) (cz : α → Nat) (h : sv left = 0) : SW rows left [left] sv [] cz := by
  refine { Sums.start rows left sv h with way := fun x hx => ?_, cau := fun x hx nx => absurd (List.mem_singleton.mp hx) nx }
  rw [List.mem_singleton] at hx
  subst hx
  exact ⟨[], .here⟩
theorem SW.path (S : SW rows left ss sv cs cz) (hd : ∀ a ∈ ss, Done rows ss sv a) (z : sv left = 0) {x : α} {l : List Nat} (h : Cway rows left cs cz x l) (hx : x ∈ ss) : Path rows left l.reverse x (sv x) := by
  induction h with
  | here =>
    rw [z]
    exact .nil left
  | @step x a c l n hc hr h ih =>
    obtain ⟨h1, h2⟩ := S.cau x hx n a c hr
    have h3 := (hd a h1 _ (List.mem_of_getElem? hr) rfl).2
    simp only at h3
    have e : sv x = sv a + c := by omega
    rw [List.reverse_cons, e]
    exact (ih h1).snoc hr
/-- the chain that is read off -/
def Chain (rows : List (Row α)) (left right : α) (k : Int) (l : List Nat) : Prop := l.Nodup ∧ (∀ j ∈ l, j < rows.length) ∧ Path rows left l.reverse right k
theorem SW.chain (S : SW rows left ss sv cs cz) (hd : ∀ a ∈ ss, Done rows ss sv a) {v : α → Int} (hv : Sat rows v) {right : α} (hr : right ∈ ss) :
    ∃ l, Cway rows left cs cz right l ∧ Chain rows left right (sv right) l := by
  obtain ⟨l, w⟩ := S.way right hr
  exact ⟨l, w, w.nodup, w.lt, S.path hd (S.toSums.zero hv) w hr⟩
/-- the sides alike: nothing between them -/
theorem best_self {v : α → Int} (hv : Sat rows v) {b : Option Int} (B : Best rows left left b) : b = some 0 := by
  cases b with
  | none => exact absurd (fun u _ => by omega) (B.2 0 fun k e => nomatch e)
  | some k =>
    have h1 := B.1 k rfl v hv
    by_cases h : 0 < k
    · exact absurd (fun u _ => by omega) (B.2 0 fun k' e => by injection e with e; omega)
    · have : k = 0 := by omega
      rw [this]
/-- no greatest value: there are solutions as far as one wishes -/
theorem best_far {right : α} (B : Best rows left right none) (n : Int) : ∃ u, Sat (rows ++ [(right, left, 0 - n)]) u := by
  have h := B.2 n fun k e => nomatch e
  have : ∃ u, Sat rows u ∧ ¬ u left - u right ≤ n := Classical.byContradiction fun k => h fun u hu => Classical.byContradiction fun j => k ⟨u, hu, j⟩
  obtain ⟨u, h1, h2⟩ := this
  refine ⟨u, fun r hr => ?_⟩
  rcases List.mem_append.mp hr with q | q
  · exact h1 r q
  · rw [List.mem_singleton] at q
    subst q
    show u right - u left ≤ 0 - n
    omega
theorem best_near {right : α} {n : Int} (B : Best rows left right (some n)) : ∃ u, Sat (rows ++ [(right, left, 0 - n)]) u := by
  have h := B.2 (n - 1) fun k e => by injection e with e; omega
  have : ∃ u, Sat rows u ∧ ¬ u left - u right ≤ n - 1 := Classical.byContradiction fun k => h fun u hu => Classical.byContradiction fun j => k ⟨u, hu, j⟩
  obtain ⟨u, h1, h2⟩ := this
  refine ⟨u, fun r hr => ?_⟩
  rcases List.mem_append.mp hr with q | q
  · exact h1 r q
  · rw [List.mem_singleton] at q
    subst q
    show u right - u left ≤ 0 - n
    omega
theorem best_beyond {right : α} {n : Int} (B : Best rows left right (some n)) (u : α → Int) : ¬ Sat (rows ++ [(right, left, 0 - n - 1)]) u := fun h => told_denied.mp ⟨u, h⟩ (B.1 n rfl)
end
end Lo
/-! The greatest values of a system as one function; one more row. -/
namespace Lo
section
variable {α : Type} [DecidableEq α]
variable {rows : List (Row α)} {v : α → Int}
theorem told_trans {a b c : α} {x y : Int} (h : Told rows a b x) (k : Told rows b c y) : Told rows a c (x + y) := fun u hu => by
  have h1 := h u hu
  have h2 := k u hu
  omega
theorem told_le {a b : α} {x y : Int} (h : Told rows a b x) (k : x ≤ y) : Told rows a b y := fun u hu => by
  have := h u hu
  omega
theorem best_one {a b : α} {r r' : Option Int} (h : Best rows a b r) (k : Best rows a b r') : r = r' := by
  cases r with
  | none =>
    cases r' with
    | none => rfl
    | some y => exact absurd (k.1 y rfl) (h.2 y fun z e => nomatch e)
  | some x =>
    cases r' with
    | none => exact absurd (h.1 x rfl) (k.2 x fun z e => nomatch e)
    | some y =>
      have h1 : ¬ x < y := fun l => k.2 x (fun z e => by injection e with e; omega) (h.1 x rfl)
      have h2 : ¬ y < x := fun l => h.2 y (fun z e => by injection e with e; omega) (k.1 y rfl)
      have : x = y := by omega
      rw [this]
/-- a least integer with a property that none below a bound has -/
theorem least_int {p : Int → Prop} (lo : Int) (h : ∀ n, p n → lo ≤ n) {n : Int} (hn : p n) : ∃ m, p m ∧ ∀ n, p n → m ≤ n := by
  have key : ∀ d : Nat, ∀ n, p n → n - lo ≤ d → ∃ m, p m ∧ ∀ n, p n → m ≤ n := by
    intro d
    induction d with
    | zero =>
      intro n hn hd
      exact ⟨n, hn, fun k hk => by have := h k hk; have := h n hn; omega⟩
    | succ d ih =>
      intro n hn hd
      by_cases e : ∃ k, p k ∧ k < n
      · obtain ⟨k, hk, hlt⟩ := e
        exact ih k hk (by omega)
      · exact ⟨n, hn, fun k hk => by
          have : ¬ k < n := fun z => e ⟨k, hk, z⟩
          omega⟩
  exact key (n - lo).toNat n hn (by have := h n hn; omega)
theorem best_is (hv : Sat rows v) (a b : α) : ∃ r, Best rows a b r := by
  by_cases h : ∃ n, Told rows a b n
  · obtain ⟨n, hn⟩ := h
    obtain ⟨m, hm, hle⟩ := least_int (p := Told rows a b) (v a - v b) (fun n t => t v hv) hn
    refine ⟨some m, fun k e => by injection e with e; exact e ▸ hm, fun n hlt t => ?_⟩
    have h1 := hlt m rfl
    have h2 := hle n t
    omega
  · exact ⟨none, fun k e => (nomatch e), fun n _ t => h ⟨n, t⟩⟩
open Classical in
/-- the greatest value of a minus b -/
noncomputable def D (rows : List (Row α)) (a b : α) : Option Int := if h : ∃ r, Best rows a b r then Classical.choose h else none
theorem d_best (hv : Sat rows v) (a b : α) : Best rows a b (D rows a b) := by
  have h := best_is hv a b
  unfold D
  rw [dif_pos h]
  exact Classical.choose_spec h
theorem d_of (hv : Sat rows v) {a b : α} {r : Option Int} (h : Best rows a b r) : D rows a b = r := best_one (d_best hv a b) h
theorem d_self (hv : Sat rows v) (a : α) : D rows a a = some 0 := best_self hv (d_best hv a a)
theorem d_told (hv : Sat rows v) {a b : α} {x : Int} (h : D rows a b = some x) : Told rows a b x := (d_best hv a b).1 x h
theorem told_d (hv : Sat rows v) {a b : α} {x : Int} (h : Told rows a b x) : ∃ y, D rows a b = some y ∧ y ≤ x := by
  have B := d_best hv a b
  cases e : D rows a b with
  | none =>
    rw [e] at B
    exact absurd h (B.2 x fun k z => nomatch z)
  | some y =>
    rw [e] at B
    refine ⟨y, rfl, ?_⟩
    have : ¬ x < y := fun l => B.2 x (fun k z => by injection z with z; omega) h
    omega
theorem d_tri (hv : Sat rows v) {a b c : α} {x y : Int} (h : D rows a b = some x) (k : D rows b c = some y) : ∃ z, D rows a c = some z ∧ z ≤ x + y := told_d hv (told_trans (d_told hv h) (d_told hv k))
theorem d_back (hv : Sat rows v) {a b : α} {x y : Int} (h : D rows a b = some x) (k : D rows b a = some y) : 0 ≤ x + y := by
  obtain ⟨z, e, hz⟩ := d_tri hv h k
  rw [d_self hv] at e
  injection e with e
  omega
theorem d_row (hv : Sat rows v) {a b : α} {c : Int} (h : (a, b, c) ∈ rows) : ∃ x, D rows a b = some x ∧ x ≤ c := told_d hv (told_own h)
/-- sums that are sound and closed under the rows are the greatest values -/
theorem closed_best {a : α} {f : α → Option Int} (fa : f a = some 0) (snd : ∀ y k, f y = some k → Told rows a y k) (cl : ∀ r ∈ rows, ∀ k, f r.1 = some k → ∃ k', f r.2.1 = some k' ∧ k' ≤ k + r.2.2) (hv : Sat rows v) (y : α) : Best rows a y (f y) := by
  refine ⟨fun k e => snd y k e, fun n hn t => ?_⟩
  have hu : Sat rows (fun x => match f x with | some k => -k | none => v x - ((((rows.map fun r => (v r.1 + (f r.2.1).getD 0 - r.2.2).natAbs).sum : Nat) : Int) + ((n + 1 + v y).natAbs : Int))) := by
    intro r hr
    have hb : v r.1 + (f r.2.1).getD 0 - r.2.2 ≤ _ := big_le (fun r => v r.1 + (f r.2.1).getD 0 - r.2.2) hr
    have hs := hv r hr
    cases e1 : f r.1 with
    | some k =>
      obtain ⟨k', e2, hle⟩ := cl r hr k e1
      simp only [e1, e2]
      omega
    | none =>
      cases e2 : f r.2.1 with
      | some k' =>
        simp only [e1, e2]
        rw [e2] at hb
        simp only [Option.getD_some] at hb
        omega
      | none =>
        simp only [e1, e2]
        omega
  have h1 := t _ hu
  simp only [fa] at h1
  cases e : f y with
  | some k =>
    simp only [e] at h1
    have := hn k e
    omega
  | none =>
    simp only [e] at h1
    omega
/-- a side that no row has -/
theorem d_alone (hv : Sat rows v) {a : α} (h : ∀ r ∈ rows, r.1 ≠ a) (y : α) : D rows a y = if y = a then some 0 else none := by
  refine d_of hv (closed_best (f := fun y => if y = a then some 0 else none) (if_pos rfl) (fun y k e => ?_) (fun r hr k e => ?_) hv y)
  · by_cases z : y = a
    · subst z
      simp only [if_true] at e
      injection e with e
      subst e
      intro u hu
      omega
    · simp only [if_neg z] at e
      cases e
  · simp only [if_neg (h r hr)] at e
    cases e
/-- the lesser one -/
def minO : Option Int → Option Int → Option Int
  | some x, some y => some (if y < x then y else x)
  | some x, none => some x
  | none, y => y
def addO (x : Option Int) (c : Int) (y : Option Int) : Option Int := match x, y with
  | some a, some b => some (a + c + b)
  | _, _ => none
theorem minO_le {x y : Option Int} {k : Int} (h : x = some k) : ∃ m, minO x y = some m ∧ m ≤ k := by
  subst h
  cases y with
  | none => exact ⟨k, rfl, Int.le_refl _⟩
  | some b =>
    refine ⟨_, rfl, ?_⟩
    split
    · omega
    · omega
theorem minO_le2 {x y : Option Int} {k : Int} (h : y = some k) : ∃ m, minO x y = some m ∧ m ≤ k := by
  subst h
  cases x with
  | none => exact ⟨k, rfl, Int.le_refl _⟩
  | some b =>
    refine ⟨_, rfl, ?_⟩
    split
    · omega
    · omega
theorem minO_or {x y : Option Int} {k : Int} (h : minO x y = some k) : x = some k ∨ y = some k := by
  cases x with
  | none => exact .inr h
  | some a =>
    cases y with
    | none => exact .inl h
    | some b =>
      have h' : some (if b < a then b else a) = some k := h
      injection h' with h'
      by_cases l : b < a
      · rw [if_pos l] at h'
        exact .inr (by rw [h'])
      · rw [if_neg l] at h'
        exact .inl (by rw [h'])
/-- one more row: is there a solution still? -/
theorem more_sat (hv : Sat rows v) {l r : α} {c : Int} (h : ∀ b, D rows r l = some b → 0 ≤ b + c) : ∃ u, Sat (rows ++ [(l, r, c)]) u := by
  have B := d_best hv r l
  have hn : ¬ Told rows r l (-c - 1) := fun t => by
    obtain ⟨y, e, hy⟩ := told_d hv t
    have := h y e
    omega
  have : ∃ u, Sat rows u ∧ ¬ u r - u l ≤ -c - 1 := Classical.byContradiction fun k => hn fun u hu => Classical.byContradiction fun j => k ⟨u, hu, j⟩
  obtain ⟨u, h1, h2⟩ := this
  refine ⟨u, fun q hq => ?_⟩
  rcases List.mem_append.mp hq with m | m
  · exact h1 q m
  · rw [List.mem_singleton] at m
    subst m
    show u l - u r ≤ c
    omega
theorem more_none (hv : Sat rows v) {l r : α} {c b : Int} (h : D rows r l = some b) (hb : b + c < 0) (u : α → Int) : ¬ Sat (rows ++ [(l, r, c)]) u := fun hu => by
  have h1 := d_told hv h u fun q hq => hu q (List.mem_append_left _ hq)
  have h2 := hu (l, r, c) (List.mem_append_right _ (List.mem_singleton.mpr rfl))
  simp only at h2
  omega
theorem sub_sat {q : Row α} {u : α → Int} (h : Sat (rows ++ [q]) u) : Sat rows u := fun r hr => h r (List.mem_append_left _ hr)
/-- one more row: the greatest values -/
theorem more_d (hv : Sat rows v) {l r : α} {c : Int} {u : α → Int} (hu : Sat (rows ++ [(l, r, c)]) u) (a y : α) : D (rows ++ [(l, r, c)]) a y = minO (D rows a y) (addO (D rows a l) c (D rows r y)) := by
  have new : Told (rows ++ [(l, r, c)]) l r c := told_own (List.mem_append_right _ (List.mem_singleton.mpr rfl))
  have up : ∀ {a b : α} {x : Int}, D rows a b = some x → Told (rows ++ [(l, r, c)]) a b x := fun e w hw => d_told hv e w (sub_sat hw)
  have nn : ∀ b, D rows r l = some b → 0 ≤ b + c := fun b e => by
    have : ¬ b + c < 0 := fun z => more_none hv e z u hu
    omega
  have cyc : ∀ {a : α} {x y : Int}, D rows a l = some x → D rows r a = some y → 0 ≤ x + c + y := fun {a x y} h1 h2 => by
    obtain ⟨z, e, hz⟩ := d_tri hv h2 h1
    have := nn z e
    omega
  refine d_of hu (closed_best (a := a) (f := fun y => minO (D rows a y) (addO (D rows a l) c (D rows r y))) ?_ (fun y k e => ?_) (fun q hq k e => ?_) hu y)
  · show minO (D rows a a) (addO (D rows a l) c (D rows r a)) = some 0
    rw [d_self hv]
    cases e1 : D rows a l with
    | none => rfl
    | some x =>
      cases e2 : D rows r a with
      | none => rfl
      | some y =>
        have := cyc e1 e2
        show some (if x + c + y < 0 then x + c + y else 0) = some 0
        rw [if_neg (by omega)]
  · rcases minO_or e with e | e
    · exact up e
    · cases e1 : D rows a l with
      | none =>
        rw [e1] at e
        cases e
      | some x =>
        cases e2 : D rows r y with
        | none =>
          rw [e1, e2] at e
          cases e
        | some z =>
          rw [e1, e2] at e
          have e : some (x + c + z) = some k := e
          injection e with e
          subst e
          exact told_trans (told_trans (up e1) new) (up e2)
  · rcases List.mem_append.mp hq with m | m
    · obtain ⟨x, ex, hx⟩ := d_row hv (show (q.1, q.2.1, q.2.2) ∈ rows from m)
      rcases minO_or e with e | e
      · obtain ⟨z, ez, hz⟩ := d_tri hv e ex
        obtain ⟨m', em, hm⟩ := minO_le (y := addO (D rows a l) c (D rows r q.2.1)) ez
        exact ⟨m', em, by omega⟩
      · cases e1 : D rows a l with
        | none =>
          rw [e1] at e
          cases e
        | some x1 =>
          cases e2 : D rows r q.1 with
          | none =>
            rw [e1, e2] at e
            cases e
          | some x2 =>
            rw [e1, e2] at e
            have e : some (x1 + c + x2) = some k := e
            injection e with e
            obtain ⟨z, ez, hz⟩ := d_tri hv e2 ex
            obtain ⟨m', em, hm⟩ := minO_le2 (x := D rows a q.2.1) (y := addO (D rows a l) c (D rows r q.2.1)) (k := x1 + c + z) (by rw [e1, ez]; rfl)
            exact ⟨m', by rw [e1] at em; exact em, by omega⟩
    · rw [List.mem_singleton] at m
      subst m
      obtain ⟨m', em, hm⟩ : ∃ m', minO (D rows a r) (addO (D rows a l) c (D rows r r)) = some m' ∧ m' ≤ k + c := by
        have hl : ∃ x, D rows a l = some x ∧ x ≤ k := by
          rcases minO_or e with e | e
          · exact ⟨k, e, Int.le_refl _⟩
          · cases e1 : D rows a l with
            | none =>
              rw [e1] at e
              cases e
            | some x1 =>
              cases e2 : D rows r l with
              | none =>
                rw [e1, e2] at e
                cases e
              | some x2 =>
                rw [e1, e2] at e
                have e : some (x1 + c + x2) = some k := e
                injection e with e
                have := nn x2 e2
                exact ⟨x1, rfl, by omega⟩
        obtain ⟨x, e1, hx⟩ := hl
        obtain ⟨m', em, hm⟩ := minO_le2 (x := D rows a r) (y := addO (D rows a l) c (D rows r r)) (k := x + c + 0) (by rw [e1, d_self hv]; rfl)
        exact ⟨m', em, by omega⟩
      exact ⟨m', em, hm⟩
/-- a row that is told already -/
theorem more_told (hv : Sat rows v) {l r : α} {c : Int} (h : Told rows l r c) (a y : α) : Sat (rows ++ [(l, r, c)]) v ∧ D (rows ++ [(l, r, c)]) a y = D rows a y := by
  have same : ∀ u, Sat rows u ↔ Sat (rows ++ [(l, r, c)]) u := fun u => ⟨fun hu q hq => by
    rcases List.mem_append.mp hq with m | m
    · exact hu q m
    · rw [List.mem_singleton] at m
      subst m
      exact h u hu, sub_sat⟩
  have tl : ∀ n, Told (rows ++ [(l, r, c)]) a y n ↔ Told rows a y n := fun n => ⟨fun t u hu => t u ((same u).mp hu), fun t u hu => t u ((same u).mpr hu)⟩
  refine ⟨(same v).mp hv, d_of ((same v).mp hv) ⟨fun k e => (tl k).mpr ((d_best hv a y).1 k e), fun n hn t => (d_best hv a y).2 n hn ((tl n).mp t)⟩⟩
end
end Lo
/-! The fewest rows that tell the same: why they tell all, and why none of them is told by the others. -/
namespace Lo
section
variable {α : Type} [DecidableEq α]
variable {rows : List (Row α)} {v : α → Int}
theorem path_told {a b : α} {l : List Nat} {s : Int} (h : Path rows a l b s) : Told rows a b s := by
  induction h with
  | nil a =>
    intro u hu
    omega
  | cons hj h ih => exact told_trans (told_own (List.mem_of_getElem? hj)) ih
open Classical in
theorem told_path (hv : Sat rows v) {a b : α} {k : Int} (h : Told rows a b k) : ∃ l s, Path rows a l b s ∧ s ≤ k := by
  let Pm : α → Int → Prop := fun y m => ∃ l, Path rows a l y m
  have low : ∀ y m, Pm y m → v a - v y ≤ m := fun y m ⟨l, hp⟩ => path_told hp v hv
  let f : α → Option Int := fun y => if h : ∃ m, Pm y m ∧ ∀ n, Pm y n → m ≤ n then some (Classical.choose h) else none
  have fspec : ∀ y k, f y = some k → Pm y k ∧ ∀ n, Pm y n → k ≤ n := by
    intro y k e
    by_cases h : ∃ m, Pm y m ∧ ∀ n, Pm y n → m ≤ n
    · have e1 : f y = some (Classical.choose h) := dif_pos h
      rw [e1] at e
      injection e with e
      exact e ▸ Classical.choose_spec h
    · have e1 : f y = none := dif_neg h
      rw [e1] at e
      cases e
  have fhas : ∀ y m, Pm y m → ∃ k, f y = some k ∧ k ≤ m := by
    intro y m hm
    have h := least_int (p := Pm y) (v a - v y) (low y) hm
    have e1 : f y = some (Classical.choose h) := dif_pos h
    exact ⟨_, e1, (Classical.choose_spec h).2 m hm⟩
  have fa : f a = some 0 := by
    obtain ⟨k, e, hk⟩ := fhas a 0 ⟨[], .nil a⟩
    have := low a k (fspec a k e).1
    have : k = 0 := by omega
    rw [e, this]
  have B := closed_best (a := a) (f := f) fa (fun y k e => by
    obtain ⟨⟨l, hp⟩, _⟩ := fspec y k e
    exact path_told hp) (fun r hr k e => by
    obtain ⟨⟨l, hp⟩, _⟩ := fspec _ k e
    obtain ⟨j, hj, ej⟩ := List.getElem_of_mem hr
    exact fhas r.2.1 (k + r.2.2) ⟨_, hp.snoc (j := j) (x := r.2.1) (c := r.2.2) (by rw [List.getElem?_eq_getElem hj, ej])⟩) hv b
  obtain ⟨x, e, hx⟩ := told_d hv h
  rw [d_of hv B] at e
  obtain ⟨⟨l, hp⟩, _⟩ := fspec b x e
  exact ⟨l, x, hp, hx⟩
/-! ### sides that are tied -/
/-- a and b are tied: their difference is one number at all solutions -/
def Eqv (rows : List (Row α)) (a b : α) : Prop := ∃ x, D rows a b = some x ∧ D rows b a = some (-x)
theorem eqv_refl (hv : Sat rows v) (a : α) : Eqv rows a a := ⟨0, d_self hv a, by rw [d_self hv]; rfl⟩
theorem Eqv.symm {a b : α} (h : Eqv rows a b) : Eqv rows b a := by
  obtain ⟨x, h1, h2⟩ := h
  exact ⟨-x, h2, by rw [h1, Int.neg_neg]⟩
theorem eqv_of (hv : Sat rows v) {a b : α} {x y : Int} (h1 : D rows a b = some x) (h2 : D rows b a = some y) (h : x + y ≤ 0) : Eqv rows a b := by
  have := d_back hv h1 h2
  have e : y = -x := by omega
  exact ⟨x, h1, by rw [h2, e]⟩
theorem Eqv.trans (hv : Sat rows v) {a b c : α} (h : Eqv rows a b) (k : Eqv rows b c) : Eqv rows a c := by
  obtain ⟨x, h1, h2⟩ := h
  obtain ⟨y, k1, k2⟩ := k
  obtain ⟨z, e1, hz⟩ := d_tri hv h1 k1
  obtain ⟨w, e2, hw⟩ := d_tri hv k2 h2
  exact eqv_of hv e1 e2 (by omega)
/-- the difference of tied sides -/
theorem Eqv.val (hv : Sat rows v) {a b : α} (h : Eqv rows a b) : D rows a b = some (v a - v b) := by
  obtain ⟨x, h1, h2⟩ := h
  have a1 := d_told hv h1 v hv
  have a2 := d_told hv h2 v hv
  have : x = v a - v b := by omega
  rw [h1, this]
/-- m is on a shortest way from a to b -/
def Tight (rows : List (Row α)) (a m b : α) : Prop := ∃ x y z, D rows a m = some x ∧ D rows m b = some y ∧ D rows a b = some z ∧ x + y ≤ z
/-- what makes rows E the fewest -/
structure Edges (rows E : List (Row α)) (hs : List α) : Prop where
  own : ∀ x y c, (x, y, c) ∈ E → x ≠ y ∧ D rows x y = some c
  succ : ∀ x y c y' c', (x, y, c) ∈ E → (x, y', c') ∈ E → Eqv rows x y → Eqv rows x y' → y = y'
  lead : ∀ x y c, (x, y, c) ∈ E → ¬ Eqv rows x y → x ∈ hs ∧ y ∈ hs ∧ ∀ m ∈ hs, m ≠ x → m ≠ y → ¬ Tight rows x m y
  two : ∀ (A B : List (Row α)) (p : Row α), E = A ++ p :: B → ∀ q ∈ A ++ B, ¬ (q.1 = p.1 ∧ q.2.1 = p.2.1)
  one : ∀ a ∈ hs, ∀ b ∈ hs, Eqv rows a b → a = b
variable {E : List (Row α)} {hs : List α}
theorem Edges.told (N : Edges rows E hs) (hv : Sat rows v) : Sat E v := fun q hq => by
  obtain ⟨x, y, c⟩ := q
  exact d_told hv (N.own x y c hq).2 v hv
theorem path_d (hv : Sat rows v) {G : List (Row α)} (hG : ∀ x y c, (x, y, c) ∈ G → D rows x y = some c) {a b : α} {l : List Nat} {s : Int} (h : Path G a l b s) : ∃ z, D rows a b = some z ∧ z ≤ s := by
  induction h with
  | nil a => exact ⟨0, d_self hv a, Int.le_refl _⟩
  | cons hj h ih =>
    obtain ⟨z, e, hz⟩ := ih
    obtain ⟨w, e2, hw⟩ := d_tri hv (hG _ _ _ (List.mem_of_getElem? hj)) e
    exact ⟨w, e2, by omega⟩
/-- none of them is told by the others -/
theorem Edges.needed (N : Edges rows E hs) (hv : Sat rows v) {A B : List (Row α)} {L R : α} {k : Int} (hE : E = A ++ (L, R, k) :: B) : ¬ Told (A ++ B) L R k := by
  intro t
  have hf : (L, R, k) ∈ E := by
    rw [hE]
    exact List.mem_append_right _ List.mem_cons_self
  have hG : ∀ q ∈ A ++ B, q ∈ E := fun q hq => by
    rw [hE]
    rcases List.mem_append.mp hq with h | h
    · exact List.mem_append_left _ h
    · exact List.mem_append_right _ (List.mem_cons_of_mem _ h)
  have hGd : ∀ x y c, (x, y, c) ∈ A ++ B → D rows x y = some c := fun x y c h => (N.own x y c (hG _ h)).2
  have notf : ∀ c, (L, R, c) ∉ A ++ B := fun c h => N.two A B _ hE _ h ⟨rfl, rfl⟩
  have satG : Sat (A ++ B) v := fun q hq => N.told hv q (hG q hq)
  obtain ⟨nlr, hk⟩ := N.own L R k hf
  obtain ⟨l, s, hp, hs'⟩ := told_path satG t
  by_cases tied : Eqv rows L R
  · cases hp with
    | nil => exact nlr rfl
    | @cons _ y _ j c s' l' hj hp' =>
      have hm := List.mem_of_getElem? hj
      obtain ⟨z, ez, hz⟩ := path_d hv hGd hp'
      obtain ⟨x, ex, ex'⟩ := tied
      rw [hk] at ex
      injection ex with ex
      subst ex
      obtain ⟨w, ew, hw⟩ := d_tri hv ez ex'
      have t1 : Eqv rows L y := eqv_of hv (hGd _ _ _ hm) ew (by omega)
      have e := N.succ L y c R k (hG _ hm) hf t1 ⟨k, hk, ex'⟩
      subst e
      exact notf _ hm
  · obtain ⟨hL, hR, hmid⟩ := N.lead L R k hf tied
    have key : ∀ {x r : α} {l : List Nat} {s : Int}, Path (A ++ B) x l r s → r = R → Eqv rows L x → (∃ p, D rows L x = some p ∧ p + s ≤ k) → False := by
      intro x r l s hp
      induction hp with
      | nil x =>
        intro e t1 _
        subst e
        exact tied t1
      | @cons x y r j c s' l' hj hp' ih =>
        intro e t1 ⟨p, ep, hps⟩
        subst e
        have hm := List.mem_of_getElem? hj
        obtain ⟨q, eq, hq⟩ := d_tri hv ep (hGd _ _ _ hm)
        by_cases t2 : Eqv rows L y
        · exact ih rfl t2 ⟨q, eq, by omega⟩
        · have t3 : ¬ Eqv rows x y := fun z => t2 (t1.trans hv z)
          obtain ⟨hx, hy, _⟩ := N.lead x y c (hG _ hm) t3
          have ex := N.one L hL x hx t1
          subst ex
          by_cases yr : y = r
          · subst yr
            exact notf _ hm
          · obtain ⟨z, ez, hz⟩ := path_d hv hGd hp'
            exact hmid y hy (fun e => t2 (e ▸ eqv_refl hv _)) yr ⟨q, z, k, eq, ez, hk, by omega⟩
    exact key hp rfl (eqv_refl hv L) ⟨0, d_self hv L, by omega⟩
open Classical in
noncomputable def between (rows : List (Row α)) (hs : List α) (a b : α) : Nat := (hs.filter fun m => decide (Tight rows a m b)).length
theorem filter_lt {p q : α → Bool} : ∀ (l : List α), (∀ x ∈ l, p x = true → q x = true) → (∃ x ∈ l, q x = true ∧ p x = false) → (l.filter p).length < (l.filter q).length
  | [], _, h => by
    obtain ⟨x, hx, _⟩ := h
    exact absurd hx List.not_mem_nil
  | a :: l, h, h2 => by
    have mono : (l.filter p).length ≤ (l.filter q).length := by
      clear h2
      induction l with
      | nil => exact Nat.le_refl _
      | cons b l ih =>
        have ih := ih fun x hx => h x (by
          rcases List.mem_cons.mp hx with e | e
          · exact e ▸ List.mem_cons_self
          · exact List.mem_cons_of_mem _ (List.mem_cons_of_mem _ e))
        have hb := h b (List.mem_cons_of_mem _ List.mem_cons_self)
        rw [List.filter_cons, List.filter_cons]
        cases eq : q b with
        | true =>
          cases ep : p b with
          | true =>
            simp only [if_true, List.length_cons]
            omega
          | false =>
            simp
            omega
        | false =>
          cases ep : p b with
          | true =>
            rw [hb ep] at eq
            cases eq
          | false =>
            simp
            omega
    have ha := h a List.mem_cons_self
    by_cases d : q a = true ∧ p a = false
    · rw [List.filter_cons_of_pos d.1, List.filter_cons_of_neg (by rw [d.2]; exact fun z => nomatch z), List.length_cons]
      omega
    · have h3 : ∃ x ∈ l, q x = true ∧ p x = false := by
        obtain ⟨x, hx, h4⟩ := h2
        rcases List.mem_cons.mp hx with e | e
        · subst e
          exact absurd h4 d
        · exact ⟨x, e, h4⟩
      have ih := filter_lt l (fun x hx => h x (List.mem_cons_of_mem _ hx)) h3
      cases eq : q a with
      | true =>
        cases ep : p a with
        | true =>
          rw [List.filter_cons_of_pos ep, List.filter_cons_of_pos eq, List.length_cons, List.length_cons]
          omega
        | false => exact absurd ⟨eq, ep⟩ d
      | false =>
        cases ep : p a with
        | true =>
          rw [ha ep] at eq
          cases eq
        | false =>
          rw [List.filter_cons_of_neg (by rw [ep]; exact fun z => nomatch z), List.filter_cons_of_neg (by rw [eq]; exact fun z => nomatch z)]
          exact ih
/-- together they tell the differences of the heads -/
theorem heads_told (hv : Sat rows v) {u : α → Int} (hu : Sat E u) (one : ∀ a ∈ hs, ∀ b ∈ hs, Eqv rows a b → a = b)
    (all : ∀ a ∈ hs, ∀ b ∈ hs, a ≠ b → ∀ k, D rows a b = some k → (∀ m ∈ hs, m ≠ a → m ≠ b → ¬ Tight rows a m b) → (a, b, k) ∈ E) :
    ∀ n a b, a ∈ hs → b ∈ hs → between rows hs a b ≤ n → ∀ k, D rows a b = some k → u a - u b ≤ k := by
  intro n
  induction n with
  | zero =>
    intro a b ha hb hn k hk
    exfalso
    have : a ∈ hs.filter fun m => @decide (Tight rows a m b) (Classical.propDecidable _) := List.mem_filter.mpr ⟨ha, by simp only [decide_eq_true_eq]; exact ⟨0, k, k, d_self hv a, hk, hk, by omega⟩⟩
    have := List.length_pos_of_mem this
    unfold between at hn
    omega
  | succ n ih =>
    intro a b ha hb hn k hk
    by_cases e : a = b
    · subst e
      rw [d_self hv] at hk
      injection hk with hk
      omega
    by_cases h : ∃ m ∈ hs, m ≠ a ∧ m ≠ b ∧ Tight rows a m b
    · obtain ⟨m, hm, ma, mb, T⟩ := h
      obtain ⟨x, y, z, h1, h2, h3, h4⟩ := id T
      rw [hk] at h3
      injection h3 with h3
      subst h3
      have sub1 : between rows hs a m < between rows hs a b := by
        refine filter_lt hs (fun w _ hw => ?_) ⟨b, hb, ?_, ?_⟩
        · simp only [decide_eq_true_eq] at hw ⊢
          obtain ⟨p, q, r, e1, e2, e3, e4⟩ := hw
          rw [h1] at e3
          injection e3 with e3
          obtain ⟨t, et, ht⟩ := d_tri hv e2 h2
          exact ⟨p, t, k, e1, et, hk, by omega⟩
        · simp only [decide_eq_true_eq]
          exact ⟨k, 0, k, hk, d_self hv b, hk, by omega⟩
        · simp only [decide_eq_false_iff_not]
          rintro ⟨p, q, r, e1, e2, e3, e4⟩
          rw [hk] at e1
          rw [h1] at e3
          injection e1 with e1
          injection e3 with e3
          exact mb (one m hm b hb (eqv_of hv h2 e2 (by omega)))
      have sub2 : between rows hs m b < between rows hs a b := by
        refine filter_lt hs (fun w _ hw => ?_) ⟨a, ha, ?_, ?_⟩
        · simp only [decide_eq_true_eq] at hw ⊢
          obtain ⟨p, q, r, e1, e2, e3, e4⟩ := hw
          rw [h2] at e3
          injection e3 with e3
          obtain ⟨t, et, ht⟩ := d_tri hv h1 e1
          exact ⟨t, q, k, et, e2, hk, by omega⟩
        · simp only [decide_eq_true_eq]
          exact ⟨0, k, k, d_self hv a, hk, hk, by omega⟩
        · simp only [decide_eq_false_iff_not]
          rintro ⟨p, q, r, e1, e2, e3, e4⟩
          rw [hk] at e2
          rw [h2] at e3
          injection e2 with e2
          injection e3 with e3
          exact ma (one m hm a ha (eqv_of hv e1 h1 (by omega)))
      have i1 := ih a m ha hm (by omega) x h1
      have i2 := ih m b hm hb (by omega) y h2
      omega
    · have := hu _ (all a ha b hb e k hk fun m hm ma mb T => h ⟨m, hm, ma, mb, T⟩)
      exact this
/-- a ring of tied sides -/
theorem ring_told (hv : Sat rows v) {u : α → Int} (ms : List α) (hm : 0 < ms.length) (h : ∀ (i : Nat) (hi : i < ms.length), u ms[i] - u (ms[(i + 1) % ms.length]'(Nat.mod_lt _ hm)) ≤ v ms[i] - v (ms[(i + 1) % ms.length]'(Nat.mod_lt _ hm))) :
    ∀ x ∈ ms, ∀ y ∈ ms, u x - u y = v x - v y := by
  have up : ∀ (i : Nat) (hi : i < ms.length), u ms[0] - v ms[0] ≤ u ms[i] - v ms[i] := by
    intro i
    induction i with
    | zero =>
      intro hi
      exact Int.le_refl _
    | succ i ih =>
      intro hi
      have h1 := ih (by omega)
      have h2 := h i (by omega)
      have e : (i + 1) % ms.length = i + 1 := Nat.mod_eq_of_lt hi
      simp only [e] at h2
      omega
  have down : ∀ (d i : Nat) (hi : i < ms.length), ms.length - i ≤ d → u ms[i] - v ms[i] ≤ u ms[0] - v ms[0] := by
    intro d
    induction d with
    | zero =>
      intro i hi hd
      omega
    | succ d ih =>
      intro i hi hd
      have h2 := h i hi
      by_cases k : i + 1 < ms.length
      · have e : (i + 1) % ms.length = i + 1 := Nat.mod_eq_of_lt k
        simp only [e] at h2
        have h1 := ih (i + 1) k (by omega)
        omega
      · have e : (i + 1) % ms.length = 0 := by
          have : i + 1 = ms.length := by omega
          rw [this, Nat.mod_self]
        simp only [e] at h2
        omega
  have all : ∀ x ∈ ms, u x - v x = u ms[0] - v ms[0] := fun x hx => by
    obtain ⟨i, hi, rfl⟩ := List.getElem_of_mem hx
    have h1 := up i hi
    have h2 := down ms.length i hi (by omega)
    omega
  intro x hx y hy
  have h1 := all x hx
  have h2 := all y hy
  omega
end
end Lo
/-! Groups of tied sides, their heads, the rows made of them; how many there are does not hang on the order. -/
namespace Lo
section
variable {α : Type} [DecidableEq α]
def hstep (e : α → α → Bool) (hs : List α) (x : α) : List α := if hs.any (fun h => e h x) then hs else hs ++ [x]
def headsOf (e : α → α → Bool) (l : List α) : List α := l.foldl (hstep e) []
theorem headsOf_snoc (e : α → α → Bool) (l : List α) (x : α) : headsOf e (l ++ [x]) = hstep e (headsOf e l) x := by
  unfold headsOf
  rw [List.foldl_append]
  rfl
structure Eqq (e : α → α → Bool) : Prop where
  refl : ∀ a, e a a = true
  symm : ∀ a b, e a b = true → e b a = true
  trans : ∀ a b c, e a b = true → e b c = true → e a c = true
/-- heads of what was seen -/
structure Hds (e : α → α → Bool) (hs seen : List α) : Prop where
  sub : ∀ h ∈ hs, h ∈ seen
  apart : hs.Pairwise fun a b => e a b = false
  cover : ∀ x ∈ seen, ∃ h ∈ hs, e h x = true
  first : ∀ h ∈ hs, ∃ rest, seen.filter (e h) = h :: rest
variable {e : α → α → Bool}
theorem Hds.one {hs seen : List α} (H : Hds e hs seen) (q : Eqq e) : ∀ a ∈ hs, ∀ b ∈ hs, e a b = true → a = b := by
  intro a ha b hb hab
  have h := H.apart
  clear H
  induction hs with
  | nil => exact absurd ha List.not_mem_nil
  | cons x t ih =>
    obtain ⟨h1, h2⟩ := List.pairwise_cons.mp h
    rcases List.mem_cons.mp ha with e1 | e1
    · rcases List.mem_cons.mp hb with e2 | e2
      · rw [e1, e2]
      · subst e1
        rw [h1 b e2] at hab
        cases hab
    · rcases List.mem_cons.mp hb with e2 | e2
      · subst e2
        have := q.symm _ _ hab
        rw [h1 a e1] at this
        cases this
      · exact ih e1 e2 h2
theorem Hds.step {hs seen : List α} (H : Hds e hs seen) (q : Eqq e) (x : α) : Hds e (hstep e hs x) (seen ++ [x]) := by
  unfold hstep
  by_cases k : hs.any (fun h => e h x) = true
  · rw [if_pos k]
    rw [List.any_eq_true] at k
    obtain ⟨h0, hh0, e0⟩ := k
    refine ⟨fun h hh => List.mem_append_left _ (H.sub h hh), H.apart, fun y hy => ?_, fun h hh => ?_⟩
    · rcases List.mem_append.mp hy with m | m
      · exact H.cover y m
      · rw [List.mem_singleton] at m
        exact ⟨h0, hh0, m ▸ e0⟩
    · obtain ⟨rest, hr⟩ := H.first h hh
      exact ⟨rest ++ [x].filter (e h), by rw [List.filter_append, hr]; rfl⟩
  · rw [if_neg k]
    have none : ∀ h ∈ hs, e h x = false := fun h hh => by
      cases z : e h x with
      | false => rfl
      | true => exact absurd (List.any_eq_true.mpr ⟨h, hh, z⟩) k
    refine ⟨fun h hh => ?_, List.pairwise_append.mpr ⟨H.apart, List.pairwise_singleton _ _, fun a ha b hb => ?_⟩, fun y hy => ?_, fun h hh => ?_⟩
    · rcases List.mem_append.mp hh with m | m
      · exact List.mem_append_left _ (H.sub h m)
      · exact List.mem_append_right _ m
    · rw [List.mem_singleton] at hb
      subst hb
      exact none a ha
    · rcases List.mem_append.mp hy with m | m
      · obtain ⟨h, hh, e0⟩ := H.cover y m
        exact ⟨h, List.mem_append_left _ hh, e0⟩
      · exact ⟨x, List.mem_append_right _ (List.mem_singleton.mpr rfl), by rw [List.mem_singleton.mp m]; exact q.refl x⟩
    · rcases List.mem_append.mp hh with m | m
      · obtain ⟨rest, hr⟩ := H.first h m
        exact ⟨rest ++ [x].filter (e h), by rw [List.filter_append, hr]; rfl⟩
      · rw [List.mem_singleton] at m
        subst m
        have z : seen.filter (e h) = [] := List.filter_eq_nil_iff.mpr fun y hy hy2 => by
          obtain ⟨g, hg, eg⟩ := H.cover y hy
          have := q.trans _ _ _ eg (q.symm _ _ hy2)
          rw [none g hg] at this
          cases this
        refine ⟨[], ?_⟩
        rw [List.filter_append, z, List.filter_cons_of_pos (q.refl h)]
        rfl
theorem heads_ok (q : Eqq e) (l : List α) : Hds e (headsOf e l) l := by
  have key : ∀ (l hs seen : List α), Hds e hs seen → Hds e (l.foldl (hstep e) hs) (seen ++ l) := by
    intro l
    induction l with
    | nil =>
      intro hs seen H
      rw [List.append_nil]
      exact H
    | cons x l ih =>
      intro hs seen H
      have := ih _ _ (H.step q x)
      rw [List.append_assoc] at this
      exact this
  have z : Hds e ([] : List α) [] := ⟨fun h m => absurd m List.not_mem_nil, List.Pairwise.nil, fun x m => absurd m List.not_mem_nil, fun h m => absurd m List.not_mem_nil⟩
  exact key l [] [] z
theorem Hds.nodup {hs seen : List α} (H : Hds e hs seen) (q : Eqq e) : hs.Nodup := H.apart.imp fun {a b} h z => by
  subst z
  rw [q.refl] at h
  cases h
/-! ### the rows -/
/-- the next ones around -/
def rot (ms : List α) : List α := ms.drop 1 ++ ms.take 1
theorem rot_len (ms : List α) : (rot ms).length = ms.length := by
  unfold rot
  rw [List.length_append, List.length_drop, List.length_take]
  omega
theorem rot_get (ms : List α) (i : Nat) (hi : i < ms.length) : (rot ms)[i]? = ms[(i + 1) % ms.length]? := by
  unfold rot
  by_cases k : i + 1 < ms.length
  · rw [List.getElem?_append_left (by rw [List.length_drop]; omega), List.getElem?_drop, Nat.mod_eq_of_lt k, Nat.add_comm]
  · have e : i + 1 = ms.length := by omega
    rw [List.getElem?_append_right (by rw [List.length_drop]; omega), List.length_drop, e, Nat.mod_self, List.getElem?_take_of_lt (by omega), show i - (ms.length - 1) = 0 by omega]
def ringE (w : α → α → Int) (ms : List α) : List (Row α) := if 1 < ms.length then (ms.zip (rot ms)).map fun p => (p.1, p.2, w p.1 p.2) else []
def leadE (w : α → α → Int) (c : α → α → Bool) (hs : List α) : List (Row α) := hs.flatMap fun a => (hs.filter (c a)).map fun b => (a, b, w a b)
def edgesE (e : α → α → Bool) (w : α → α → Int) (c : α → α → Bool) (hs l : List α) : List (Row α) := (hs.flatMap fun h => ringE w (l.filter (e h))) ++ leadE w c hs
theorem ringE_mem {w : α → α → Int} {ms : List α} {x y : α} {c : Int} (h : (x, y, c) ∈ ringE w ms) : 1 < ms.length ∧ ∃ (i : Nat) (hi : i < ms.length), x = ms[i] ∧ ms[(i + 1) % ms.length]? = some y ∧ c = w x y := by
  unfold ringE at h
  by_cases k : 1 < ms.length
  · rw [if_pos k] at h
    obtain ⟨p, hp, ep⟩ := List.mem_map.mp h
    obtain ⟨i, hi, ei⟩ := List.getElem_of_mem hp
    rw [List.length_zip, rot_len, Nat.min_self] at hi
    have e1 : ms[i] = p.1 := by rw [← ei, List.getElem_zip]
    have e2 : ms[(i + 1) % ms.length]? = some p.2 := by
      rw [← rot_get ms i hi, ← ei, List.getElem_zip]
      exact List.getElem?_eq_getElem _
    injection ep with q1 q2
    injection q2 with q2 q3
    refine ⟨k, i, hi, by rw [e1, q1], by rw [e2, q2], ?_⟩
    rw [← q3, q1, q2]
  · rw [if_neg k] at h
    exact absurd h List.not_mem_nil
theorem ringE_has {w : α → α → Int} {ms : List α} (k : 1 < ms.length) (i : Nat) (hi : i < ms.length) {y : α} (hy : ms[(i + 1) % ms.length]? = some y) : (ms[i], y, w ms[i] y) ∈ ringE w ms := by
  unfold ringE
  rw [if_pos k]
  refine List.mem_map.mpr ⟨(ms[i], y), ?_, rfl⟩
  have hr : i < (rot ms).length := by
    rw [rot_len]
    exact hi
  have e : (rot ms)[i] = y := by
    have := rot_get ms i hi
    rw [hy, List.getElem?_eq_getElem hr] at this
    exact Option.some.inj this
  refine List.mem_of_getElem? (i := i) ?_
  rw [List.getElem?_eq_getElem (by rw [List.length_zip, rot_len, Nat.min_self]; exact hi), List.getElem_zip, e]
theorem ringE_len (w : α → α → Int) (ms : List α) : (ringE w ms).length = if 1 < ms.length then ms.length else 0 := by
  unfold ringE
  split
  · rw [List.length_map, List.length_zip, rot_len, Nat.min_self]
  · rfl
theorem leadE_mem {w : α → α → Int} {c : α → α → Bool} {hs : List α} {x y : α} {k : Int} : (x, y, k) ∈ leadE w c hs ↔ x ∈ hs ∧ y ∈ hs ∧ c x y = true ∧ k = w x y := by
  unfold leadE
  rw [List.mem_flatMap]
  constructor
  · rintro ⟨a, ha, h⟩
    obtain ⟨b, hb, eb⟩ := List.mem_map.mp h
    obtain ⟨h1, h2⟩ := List.mem_filter.mp hb
    injection eb with q1 q2
    injection q2 with q2 q3
    subst q1 q2
    exact ⟨ha, h1, h2, q3.symm⟩
  · rintro ⟨hx, hy, hc, rfl⟩
    exact ⟨x, hx, List.mem_map.mpr ⟨y, List.mem_filter.mpr ⟨hy, hc⟩, rfl⟩⟩
variable {rows : List (Row α)} {v : α → Int}
/-- what the tests of the program stand for -/
structure Tests (rows : List (Row α)) (hs : List α) (e : α → α → Bool) (w : α → α → Int) (c : α → α → Bool) : Prop where
  e : ∀ a b, e a b = true ↔ Eqv rows a b
  w : ∀ a b k, D rows a b = some k → w a b = k
  c : ∀ a b, a ∈ hs → b ∈ hs → (c a b = true ↔ a ≠ b ∧ D rows a b ≠ none ∧ ∀ m ∈ hs, m ≠ a → m ≠ b → ¬ Tight rows a m b)
theorem Tests.eqq {hs : List α} {w : α → α → Int} {c : α → α → Bool} (T : Tests rows hs e w c) (hv : Sat rows v) : Eqq e :=
  ⟨fun a => (T.e a a).mpr (eqv_refl hv a), fun a b h => (T.e b a).mpr ((T.e a b).mp h).symm, fun a b c h k => (T.e a c).mpr (((T.e a b).mp h).trans hv ((T.e b c).mp k))⟩
theorem edges_mem {w : α → α → Int} {c : α → α → Bool} {hs l : List α} {x y : α} {k : Int} (h : (x, y, k) ∈ edgesE e w c hs l) : (∃ g ∈ hs, (x, y, k) ∈ ringE w (l.filter (e g))) ∨ (x, y, k) ∈ leadE w c hs := by
  unfold edgesE at h
  rcases List.mem_append.mp h with m | m
  · exact .inl (List.mem_flatMap.mp m)
  · exact .inr m
theorem ring_facts {w : α → α → Int} {l : List α} (q : Eqq e) (hnd : l.Nodup) {g x y : α} {k : Int} (h : (x, y, k) ∈ ringE w (l.filter (e g))) : x ≠ y ∧ e g x = true ∧ e g y = true ∧ e x y = true ∧ x ∈ l ∧ k = w x y := by
  obtain ⟨h1, i, hi, ex, ey, ek⟩ := ringE_mem h
  have hx := List.mem_filter.mp (ex ▸ List.getElem_mem hi)
  have hy := List.mem_filter.mp (List.mem_of_getElem? ey)
  refine ⟨fun z => ?_, hx.2, hy.2, q.trans _ _ _ (q.symm _ _ hx.2) hy.2, hx.1, ek⟩
  have hm : (i + 1) % (l.filter (e g)).length < (l.filter (e g)).length := Nat.mod_lt _ (by omega)
  rw [List.getElem?_eq_getElem hm] at ey
  have ey := Option.some.inj ey
  rw [ex, ← ey] at z
  have := (List.getElem_inj (hnd.filter _)).mp z
  by_cases t : i + 1 < (l.filter (e g)).length
  · rw [Nat.mod_eq_of_lt t] at this
    omega
  · rw [show i + 1 = (l.filter (e g)).length by omega, Nat.mod_self] at this
    omega
theorem edges_ok {w : α → α → Int} {c : α → α → Bool} {hs l : List α} (T : Tests rows hs e w c) (hv : Sat rows v) (hnd : l.Nodup) (H : Hds e hs l) : Edges rows (edgesE e w c hs l) hs := by
  have q := T.eqq hv
  have one := H.one q
  have leadF : ∀ {x y : α} {k : Int}, (x, y, k) ∈ leadE w c hs → x ∈ hs ∧ y ∈ hs ∧ x ≠ y ∧ e x y = false ∧ D rows x y = some k ∧ ∀ m ∈ hs, m ≠ x → m ≠ y → ¬ Tight rows x m y := fun {x y k} h => by
    obtain ⟨h1, h2, h3, h4⟩ := leadE_mem.mp h
    obtain ⟨c1, c2, c3⟩ := (T.c x y h1 h2).mp h3
    refine ⟨h1, h2, c1, ?_, ?_, c3⟩
    · cases z : e x y with
      | false => rfl
      | true => exact absurd (one x h1 y h2 z) c1
    · cases z : D rows x y with
      | none => exact absurd z c2
      | some m => rw [h4, T.w x y m z]
  have ringF : ∀ {g x y : α} {k : Int}, (x, y, k) ∈ ringE w (l.filter (e g)) → D rows x y = some k := fun {g x y k} h => by
    obtain ⟨_, _, _, h1, _, h2⟩ := ring_facts q hnd h
    have z := ((T.e x y).mp h1).val hv
    rw [z, h2, T.w x y _ z]
  refine ⟨fun x y k h => ?_, fun x y k y' k' h h' t t' => ?_, fun x y k h t => ?_, fun A B p hE r hr => ?_, fun a ha b hb t => one a ha b hb ((T.e a b).mpr t)⟩
  · rcases edges_mem h with ⟨g, hg, m⟩ | m
    · exact ⟨(ring_facts q hnd m).1, ringF m⟩
    · obtain ⟨_, _, h1, _, h2, _⟩ := leadF m
      exact ⟨h1, h2⟩
  · have t1 := (T.e _ _).mpr t
    have t2 := (T.e _ _).mpr t'
    rcases edges_mem h with ⟨g, hg, m⟩ | m
    · rcases edges_mem h' with ⟨g', hg', m'⟩ | m'
      · obtain ⟨_, a1, _⟩ := ring_facts q hnd m
        obtain ⟨_, a2, _⟩ := ring_facts q hnd m'
        have eg := one g hg g' hg' (q.trans _ _ _ a1 (q.symm _ _ a2))
        subst eg
        obtain ⟨_, i, hi, ex, ey, _⟩ := ringE_mem m
        obtain ⟨_, i', hi', ex', ey', _⟩ := ringE_mem m'
        have ei := (List.getElem_inj (hnd.filter _)).mp (ex.symm.trans ex')
        subst ei
        rw [ey] at ey'
        exact Option.some.inj ey'
      · obtain ⟨_, _, _, z, _⟩ := leadF m'
        rw [z] at t2
        cases t2
    · obtain ⟨_, _, _, z, _⟩ := leadF m
      rw [z] at t1
      cases t1
  · rcases edges_mem h with ⟨g, hg, m⟩ | m
    · obtain ⟨_, _, _, h1, _⟩ := ring_facts q hnd m
      exact absurd ((T.e _ _).mp h1) t
    · obtain ⟨h1, h2, _, _, _, h3⟩ := leadF m
      exact ⟨h1, h2, h3⟩
  · have pw : (edgesE e w c hs l).Pairwise fun p q => ¬ (p.1 = q.1 ∧ p.2.1 = q.2.1) := by
      unfold edgesE
      refine List.pairwise_append.mpr ⟨List.pairwise_flatMap.mpr ⟨fun g hg => ?_, H.apart.imp_of_mem fun {a b} ha hb hab x hx y hy z => ?_⟩, ?_, fun x hx y hy z => ?_⟩
      · unfold ringE
        split
        · refine List.pairwise_map.mpr ?_
          refine List.pairwise_iff_getElem.mpr fun i j hi hj hij z => ?_
          rw [List.getElem_zip, List.getElem_zip] at z
          have hi' : i < (l.filter (e g)).length := by
            rw [List.length_zip, rot_len, Nat.min_self] at hi
            exact hi
          have hj' : j < (l.filter (e g)).length := by
            rw [List.length_zip, rot_len, Nat.min_self] at hj
            exact hj
          have := (List.getElem_inj (hnd.filter _)).mp z.1
          omega
        · exact List.Pairwise.nil
      · obtain ⟨x1, x2, x3⟩ := x
        obtain ⟨y1, y2, y3⟩ := y
        obtain ⟨_, a1, _⟩ := ring_facts q hnd hx
        obtain ⟨_, a2, _⟩ := ring_facts q hnd hy
        have z1 : x1 = y1 := z.1
        subst z1
        have := q.trans _ _ _ a1 (q.symm _ _ a2)
        rw [hab] at this
        cases this
      · unfold leadE
        refine List.pairwise_flatMap.mpr ⟨fun a ha => List.pairwise_map.mpr (((H.nodup q).filter _).imp fun {b b'} n z => n z.2), (H.nodup q).imp fun {a b} n x hx y hy z => ?_⟩
        obtain ⟨x', _, rfl⟩ := List.mem_map.mp hx
        obtain ⟨y', _, rfl⟩ := List.mem_map.mp hy
        exact n z.1
      · obtain ⟨x1, x2, x3⟩ := x
        obtain ⟨y1, y2, y3⟩ := y
        obtain ⟨g, hg, m⟩ := List.mem_flatMap.mp hx
        obtain ⟨_, _, _, h1, _⟩ := ring_facts q hnd m
        obtain ⟨_, _, _, h2, _⟩ := leadF hy
        obtain ⟨z1, z2⟩ := z
        have z1 : x1 = y1 := z1
        have z2 : x2 = y2 := z2
        subst z1 z2
        rw [h1] at h2
        cases h2
    rw [hE] at pw
    obtain ⟨_, p2, p3⟩ := List.pairwise_append.mp pw
    obtain ⟨p4, _⟩ := List.pairwise_cons.mp p2
    rcases List.mem_append.mp hr with m | m
    · exact p3 r m p List.mem_cons_self
    · exact fun z => p4 r m ⟨z.1.symm, z.2.symm⟩
/-- together they tell all rows -/
theorem edges_tell {w : α → α → Int} {c : α → α → Bool} {hs l : List α} (T : Tests rows hs e w c) (hv : Sat rows v) (H : Hds e hs l) (hl : ∀ r ∈ rows, r.1 ∈ l ∧ r.2.1 ∈ l) {u : α → Int} (hu : Sat (edgesE e w c hs l) u) : Sat rows u := by
  have q := T.eqq hv
  have one := H.one q
  have grp : ∀ g ∈ hs, ∀ x ∈ l, e g x = true → u x - u g = v x - v g := fun g hg x hx t => by
    have mg : g ∈ l.filter (e g) := List.mem_filter.mpr ⟨H.sub g hg, q.refl g⟩
    have mx : x ∈ l.filter (e g) := List.mem_filter.mpr ⟨hx, t⟩
    by_cases k : 1 < (l.filter (e g)).length
    · refine ring_told hv (l.filter (e g)) (by omega) (fun i hi => ?_) x mx g mg
      have hm : (i + 1) % (l.filter (e g)).length < (l.filter (e g)).length := Nat.mod_lt _ (by omega)
      have hr := ringE_has (w := w) k i hi (List.getElem?_eq_getElem hm)
      have hE : ((l.filter (e g))[i], (l.filter (e g))[(i + 1) % (l.filter (e g)).length], w (l.filter (e g))[i] (l.filter (e g))[(i + 1) % (l.filter (e g)).length]) ∈ edgesE e w c hs l := List.mem_append_left _ (List.mem_flatMap.mpr ⟨g, hg, hr⟩)
      have h1 := hu _ hE
      have t1 := (List.mem_filter.mp (List.getElem_mem hi)).2
      have t2 := (List.mem_filter.mp (List.getElem_mem hm)).2
      have z := ((T.e _ _).mp (q.trans _ _ _ (q.symm _ _ t1) t2)).val hv
      rw [T.w _ _ _ z] at h1
      exact h1
    · have : ∀ (m : List α), ¬ 1 < m.length → x ∈ m → g ∈ m → x = g := by
        intro m hm h1 h2
        match m, hm with
        | [], _ => exact absurd h1 List.not_mem_nil
        | [a], _ =>
          rw [List.mem_singleton] at h1 h2
          rw [h1, h2]
        | a :: b :: t, hm => exact absurd (by simp) hm
      have e1 := this _ k mx mg
      subst e1
      omega
  intro r hr
  obtain ⟨a, b, c'⟩ := r
  obtain ⟨la, lb⟩ := hl _ hr
  obtain ⟨ga, hga, ta⟩ := H.cover a la
  obtain ⟨gb, hgb, tb⟩ := H.cover b lb
  have h1 := grp ga hga a la ta
  have h2 := grp gb hgb b lb tb
  obtain ⟨x, ex, hx⟩ := d_row hv hr
  have d1 := ((T.e _ _).mp ta).val hv
  have d2 := ((T.e _ _).mp tb).symm.val hv
  obtain ⟨y, ey, hy⟩ := d_tri hv d1 ex
  obtain ⟨k, ek, hk⟩ := d_tri hv ey d2
  have h3 := heads_told (E := edgesE e w c hs l) hv hu (fun a ha b hb t => one a ha b hb ((T.e a b).mpr t)) (fun a ha b hb n k hk hm => by
    refine List.mem_append_right _ (leadE_mem.mpr ⟨ha, hb, (T.c a b ha hb).mpr ⟨n, by rw [hk]; exact (fun z => nomatch z), hm⟩, (T.w a b k hk).symm⟩)) (between rows hs ga gb) ga gb hga hgb (Nat.le_refl _) k ek
  show u a - u b ≤ c'
  omega
theorem edges_len (e : α → α → Bool) (w : α → α → Int) (c : α → α → Bool) (hs l : List α) : (edgesE e w c hs l).length = (hs.map fun h => if 1 < (l.filter (e h)).length then (l.filter (e h)).length else 0).sum + (hs.map fun a => (hs.filter (c a)).length).sum := by
  unfold edgesE leadE
  rw [List.length_append, List.length_flatMap, List.length_flatMap]
  congr 2
  · refine List.map_congr_left fun h _ => ringE_len w _
  · refine List.map_congr_left fun a _ => ?_
    rw [List.length_map]
/-! ### the number does not hang on the heads -/
theorem rep_sum (q : Eqq e) (g : α → Nat) (gi : ∀ a b, e a b = true → g a = g b) : ∀ (h1 h2 : List α), h1.Pairwise (fun a b => e a b = false) → h2.Pairwise (fun a b => e a b = false) → (∀ a ∈ h1, ∃ b ∈ h2, e a b = true) → (∀ b ∈ h2, (∃ a ∈ h1, e a b = true) ∨ g b = 0) → (h1.map g).sum = (h2.map g).sum
  | [], h2, _, _, _, hb => by
    have : ∀ l : List α, (∀ b ∈ l, g b = 0) → (l.map g).sum = 0 := by
      intro l
      induction l with
      | nil => exact fun _ => rfl
      | cons b l ih =>
        intro h
        rw [List.map_cons, List.sum_cons, h b List.mem_cons_self, ih fun x hx => h x (List.mem_cons_of_mem _ hx)]
    rw [this h2 fun b m => (hb b m).resolve_left fun ⟨a, z, _⟩ => absurd z List.not_mem_nil]
    rfl
  | a :: h1, h2, p1, p2, ha, hb => by
    obtain ⟨b, mb, tb⟩ := ha a List.mem_cons_self
    obtain ⟨pa, p1'⟩ := List.pairwise_cons.mp p1
    have hp := List.perm_cons_erase mb
    have symm' : ∀ {x y : α}, e x y = false → e y x = false := fun {x y} h => by
      cases z : e y x with
      | false => rfl
      | true =>
        rw [q.symm _ _ z] at h
        cases h
    have p2' := (hp.pairwise_iff (fun {x y} h => symm' h)).mp p2
    obtain ⟨pb, p3⟩ := List.pairwise_cons.mp p2'
    have ih := rep_sum q g gi h1 (h2.erase b) p1' p3 (fun a' m' => by
      obtain ⟨b', mb', tb'⟩ := ha a' (List.mem_cons_of_mem _ m')
      refine ⟨b', ?_, tb'⟩
      rcases List.mem_cons.mp (hp.mem_iff.mp mb') with z | z
      · subst z
        have := q.trans _ _ _ tb (q.symm _ _ tb')
        rw [pa a' m'] at this
        cases this
      · exact z) (fun b' mb' => by
      rcases hb b' (hp.mem_iff.mpr (List.mem_cons_of_mem _ mb')) with ⟨a', ma', ta'⟩ | z
      · rcases List.mem_cons.mp ma' with z | z
        · subst z
          have := q.trans _ _ _ (q.symm _ _ tb) ta'
          rw [pb b' mb'] at this
          cases this
        · exact .inl ⟨a', z, ta'⟩
      · exact .inr z)
    have e1 : (h2.map g).sum = g b + ((h2.erase b).map g).sum := by
      rw [(hp.map g).sum_nat, List.map_cons, List.sum_cons]
    rw [List.map_cons, List.sum_cons, e1, ih, gi a b tb]
end
end Lo
/-! The number of the fewest rows by another order of the names; the table of all sums by middles. -/
namespace Lo
section
variable {α : Type} [DecidableEq α]
variable {rows : List (Row α)} {v : α → Int} {e : α → α → Bool}
theorem Tight.left (hv : Sat rows v) {a a' m b : α} (t : Eqv rows a a') (h : Tight rows a m b) : Tight rows a' m b := by
  obtain ⟨x, y, z, h1, h2, h3, h4⟩ := h
  obtain ⟨x', e1, l1⟩ := d_tri hv (t.symm.val hv) h1
  obtain ⟨z', e2, l2⟩ := d_tri hv (t.symm.val hv) h3
  obtain ⟨z'', e3, l3⟩ := d_tri hv (t.val hv) e2
  rw [h3] at e3
  injection e3 with e3
  exact ⟨x', y, z', e1, h2, e2, by omega⟩
theorem Tight.right (hv : Sat rows v) {a m b b' : α} (t : Eqv rows b b') (h : Tight rows a m b) : Tight rows a m b' := by
  obtain ⟨x, y, z, h1, h2, h3, h4⟩ := h
  obtain ⟨y', e1, l1⟩ := d_tri hv h2 (t.val hv)
  obtain ⟨z', e2, l2⟩ := d_tri hv h3 (t.val hv)
  obtain ⟨z'', e3, l3⟩ := d_tri hv e2 (t.symm.val hv)
  rw [h3] at e3
  injection e3 with e3
  exact ⟨x, y', z', h1, e1, e2, by omega⟩
theorem Tight.mid (hv : Sat rows v) {a m m' b : α} (t : Eqv rows m m') (h : Tight rows a m b) : Tight rows a m' b := by
  obtain ⟨x, y, z, h1, h2, h3, h4⟩ := h
  obtain ⟨x', e1, l1⟩ := d_tri hv h1 (t.val hv)
  obtain ⟨y', e2, l2⟩ := d_tri hv (t.symm.val hv) h2
  exact ⟨x', y', z, e1, e2, h3, by omega⟩
theorem some_left (hv : Sat rows v) {a a' b : α} (t : Eqv rows a a') (h : D rows a b ≠ none) : D rows a' b ≠ none := by
  cases q : D rows a b with
  | none => exact absurd q h
  | some x =>
    obtain ⟨y, ey, _⟩ := d_tri hv (t.symm.val hv) q
    rw [ey]
    exact fun z => nomatch z
theorem some_right (hv : Sat rows v) {a b b' : α} (t : Eqv rows b b') (h : D rows a b ≠ none) : D rows a b' ≠ none := by
  cases q : D rows a b with
  | none => exact absurd q h
  | some x =>
    obtain ⟨y, ey, _⟩ := d_tri hv q (t.val hv)
    rw [ey]
    exact fun z => nomatch z
/-- a row between groups that is needed -/
def Need (rows : List (Row α)) (l : List α) (a b : α) : Prop := ¬ Eqv rows a b ∧ D rows a b ≠ none ∧ ∀ m ∈ l, ¬ Eqv rows m a → ¬ Eqv rows m b → ¬ Tight rows a m b
theorem Need.left (hv : Sat rows v) {l : List α} {a a' b : α} (t : Eqv rows a a') (h : Need rows l a b) : Need rows l a' b :=
  ⟨fun z => h.1 (t.trans hv z), some_left hv t h.2.1, fun m hm h1 h2 T => h.2.2 m hm (fun z => h1 (z.trans hv t)) h2 (T.left hv t.symm)⟩
theorem Need.right (hv : Sat rows v) {l : List α} {a b b' : α} (t : Eqv rows b b') (h : Need rows l a b) : Need rows l a b' :=
  ⟨fun z => h.1 (z.trans hv t.symm), some_right hv t h.2.1, fun m hm h1 h2 T => h.2.2 m hm h1 (fun z => h2 (z.trans hv t)) (T.right hv t.symm)⟩
/-- names outside of l1 are alone -/
def Alone (rows : List (Row α)) (l1 l2 : List α) : Prop := ∀ x ∈ l2, x ∉ l1 → ∀ y, y ≠ x → D rows x y = none ∧ D rows y x = none
theorem need_is (hv : Sat rows v) {l1 l2 hs : List α} {w : α → α → Int} {c : α → α → Bool} (T : Tests rows hs e w c) (H : Hds e hs l1) (sub : ∀ x ∈ l1, x ∈ l2) (al : Alone rows l1 l2) {a b : α} (ha : a ∈ hs) (hb : b ∈ hs) : c a b = true ↔ Need rows l2 a b := by
  have q := T.eqq hv
  have one := H.one q
  rw [T.c a b ha hb]
  constructor
  · rintro ⟨h1, h2, h3⟩
    refine ⟨fun z => h1 (one a ha b hb ((T.e a b).mpr z)), h2, fun m hm ma mb t => ?_⟩
    by_cases m1 : m ∈ l1
    · obtain ⟨g, hg, eg⟩ := H.cover m m1
      have tg := (T.e g m).mp eg
      exact h3 g hg (fun z => ma (z ▸ tg.symm)) (fun z => mb (z ▸ tg.symm)) (t.mid hv tg.symm)
    · obtain ⟨x, _, _, e1, _⟩ := t
      have na : a ≠ m := fun z => m1 (z ▸ H.sub a ha)
      rw [(al m hm m1 a na).2] at e1
      cases e1
  · rintro ⟨h1, h2, h3⟩
    refine ⟨fun z => h1 (z ▸ eqv_refl hv a), h2, fun m hm ma mb => h3 m (sub m (H.sub m hm)) (fun z => ma (one m hm a ha ((T.e m a).mpr z))) fun z => mb (one m hm b hb ((T.e m b).mpr z))⟩
theorem filter_sum (p : α → Bool) : ∀ l : List α, (l.filter p).length = (l.map fun x => if p x = true then 1 else 0).sum
  | [] => rfl
  | x :: l => by
    rw [List.map_cons, List.sum_cons, List.filter_cons]
    have ih := filter_sum p l
    split
    · rw [List.length_cons, ih]
      omega
    · rw [ih]
      omega
open Classical in
/-- the number of the fewest rows, by two lists of names -/
theorem due_same (hv : Sat rows v) {l1 l2 h1 h2 : List α} {w : α → α → Int} {c1 c2 : α → α → Bool} (T1 : Tests rows h1 e w c1) (T2 : Tests rows h2 e w c2) (H1 : Hds e h1 l1) (H2 : Hds e h2 l2) (n1 : l1.Nodup) (n2 : l2.Nodup) (sub : ∀ x ∈ l1, x ∈ l2) (al : Alone rows l1 l2) :
    (h1.map fun h => if 1 < (l1.filter (e h)).length then (l1.filter (e h)).length else 0).sum + (h1.map fun a => (h1.filter (c1 a)).length).sum =
    (h2.map fun h => if 1 < (l2.filter (e h)).length then (l2.filter (e h)).length else 0).sum + (h2.map fun a => (h2.filter (c2 a)).length).sum := by
  have q := T1.eqq hv
  have to2 : ∀ a ∈ h1, ∃ b ∈ h2, e a b = true := fun a ha => by
    obtain ⟨b, hb, eb⟩ := H2.cover a (sub a (H1.sub a ha))
    exact ⟨b, hb, q.symm _ _ eb⟩
  have to1 : ∀ b ∈ h2, (∃ a ∈ h1, e a b = true) ∨ b ∉ l1 := fun b hb => by
    by_cases m : b ∈ l1
    · exact .inl (H1.cover b m)
    · exact .inr m
  have lone : ∀ b ∈ h2, b ∉ l1 → ∀ y, e b y = true → y = b := fun b hb m y t => Classical.byContradiction fun n => by
    have z := ((T1.e b y).mp t).val hv
    rw [(al b (H2.sub b hb) m y n).1] at z
    cases z
  congr 1
  · have e1 : (h1.map fun h => if 1 < (l1.filter (e h)).length then (l1.filter (e h)).length else 0) = h1.map fun h => if 1 < (l2.filter (e h)).length then (l2.filter (e h)).length else 0 := by
      refine List.map_congr_left fun h hh => ?_
      have : (l1.filter (e h)).length = (l2.filter (e h)).length := (perm_same _ _ (n1.filter _) (n2.filter _) fun x => by
        rw [List.mem_filter, List.mem_filter]
        refine ⟨fun ⟨a, b⟩ => ⟨sub x a, b⟩, fun ⟨a, b⟩ => ⟨?_, b⟩⟩
        by_cases m : x ∈ l1
        · exact m
        · have z := ((T1.e h x).mp b).val hv
          rw [(al x a m h fun z => m (z ▸ H1.sub h hh)).2] at z
          cases z).length_eq
      rw [this]
    rw [e1]
    refine rep_sum q _ (fun a b t => ?_) h1 h2 H1.apart H2.apart to2 fun b hb => (to1 b hb).imp id fun m => ?_
    · have : l2.filter (e a) = l2.filter (e b) := List.filter_congr fun x _ => by
        cases z : e a x with
        | true => exact (q.trans _ _ _ (q.symm _ _ t) z).symm
        | false =>
          cases z2 : e b x with
          | false => rfl
          | true =>
            rw [q.trans _ _ _ t z2] at z
            cases z
      rw [this]
    · have : ¬ 1 < (l2.filter (e b)).length := fun k => by
        have nd := n2.filter (e b)
        have m0 := List.getElem_mem (l := l2.filter (e b)) (n := 0) (by omega)
        have m1 := List.getElem_mem (l := l2.filter (e b)) (n := 1) k
        have z0 := lone b hb m _ (List.mem_filter.mp m0).2
        have z1 := lone b hb m _ (List.mem_filter.mp m1).2
        have := (List.getElem_inj nd).mp (z0.trans z1.symm)
        omega
      rw [if_neg this]
  · let n : α → α → Nat := fun a b => if Need rows l2 a b then 1 else 0
    have al2 : Alone rows l2 l2 := fun x hx m => absurd hx m
    have s1 : (h1.map fun a => (h1.filter (c1 a)).length) = h1.map fun a => (h1.map (n a)).sum := List.map_congr_left fun a ha => by
      rw [filter_sum]
      congr 1
      refine List.map_congr_left fun b hb => ?_
      have := need_is hv T1 H1 sub al ha hb
      show (if c1 a b = true then 1 else 0) = if Need rows l2 a b then 1 else 0
      by_cases k : Need rows l2 a b
      · rw [if_pos k, if_pos (this.mpr k)]
      · rw [if_neg k, if_neg fun z => k (this.mp z)]
    have s2 : (h2.map fun a => (h2.filter (c2 a)).length) = h2.map fun a => (h2.map (n a)).sum := List.map_congr_left fun a ha => by
      rw [filter_sum]
      congr 1
      refine List.map_congr_left fun b hb => ?_
      have := need_is hv T2 H2 (fun x h => h) al2 ha hb
      show (if c2 a b = true then 1 else 0) = if Need rows l2 a b then 1 else 0
      by_cases k : Need rows l2 a b
      · rw [if_pos k, if_pos (this.mpr k)]
      · rw [if_neg k, if_neg fun z => k (this.mp z)]
    have far : ∀ b ∈ h2, b ∉ l1 → ∀ a, n a b = 0 ∧ n b a = 0 := fun b hb m a => by
      have key : ∀ x y, x = b ∨ y = b → ¬ Need rows l2 x y := fun x y h N => by
        by_cases z : x = y
        · exact N.1 (z ▸ eqv_refl hv x)
        · rcases h with h | h
          · subst h
            exact N.2.1 (al x (H2.sub x hb) m y fun w => z w.symm).1
          · subst h
            exact N.2.1 (al y (H2.sub y hb) m x z).2
      exact ⟨if_neg (key a b (.inr rfl)), if_neg (key b a (.inl rfl))⟩
    have ni : ∀ a b b', e b b' = true → n a b = n a b' := fun a b b' t => by
      have t := (T1.e b b').mp t
      show (if Need rows l2 a b then 1 else 0) = if Need rows l2 a b' then 1 else 0
      by_cases k : Need rows l2 a b
      · rw [if_pos k, if_pos (k.right hv t)]
      · rw [if_neg k, if_neg fun z => k (z.right hv t.symm)]
    have nj : ∀ a a' b, e a a' = true → n a b = n a' b := fun a a' b t => by
      have t := (T1.e a a').mp t
      show (if Need rows l2 a b then 1 else 0) = if Need rows l2 a' b then 1 else 0
      by_cases k : Need rows l2 a b
      · rw [if_pos k, if_pos (k.left hv t)]
      · rw [if_neg k, if_neg fun z => k (z.left hv t.symm)]
    rw [s1, s2]
    have i1 : (h1.map fun a => (h1.map (n a)).sum) = h1.map fun a => (h2.map (n a)).sum := List.map_congr_left fun a ha => rep_sum q (n a) (fun b b' t => ni a b b' t) h1 h2 H1.apart H2.apart to2 fun b hb => (to1 b hb).imp id fun m => (far b hb m a).1
    rw [i1]
    refine rep_sum q _ (fun a b t => ?_) h1 h2 H1.apart H2.apart to2 fun b hb => (to1 b hb).imp id fun m => ?_
    · congr 1
      exact List.map_congr_left fun x _ => nj a b x t
    · have : ∀ l : List α, (l.map (n b)).sum = 0 := by
        intro l
        induction l with
        | nil => rfl
        | cons x l ih => rw [List.map_cons, List.sum_cons, ih, (far b hb m x).2]
      exact this h2
/-! ### a ring of negative sum, or a solution -/
theorem Path.lift {q : Row α} {a b : α} {l : List Nat} {s : Int} (h : Path rows a l b s) : Path (rows ++ [q]) a l b s := by
  induction h with
  | nil a => exact .nil a
  | @cons a m b j c s l hj h ih =>
    refine .cons (m := m) ?_ ih
    rw [List.getElem?_append_left (List.getElem?_eq_some_iff.mp hj).1]
    exact hj
theorem sat_or : ∀ n (rows : List (Row α)), rows.length = n → (∃ v, Sat rows v) ∨ ∃ a l s, Path rows a l a s ∧ s < 0 := by
  intro n
  induction n with
  | zero =>
    intro rows h
    rw [List.length_eq_zero_iff] at h
    subst h
    exact .inl ⟨fun _ => 0, fun r hr => absurd hr List.not_mem_nil⟩
  | succ n ih =>
    intro rows h
    have hne : rows ≠ [] := fun z => by
      rw [z] at h
      cases h
    have e := List.dropLast_concat_getLast hne
    generalize rows.getLast hne = q at e
    generalize rows.dropLast = rs at e
    subst e
    rw [List.length_append, List.length_singleton] at h
    rcases ih rs (by omega) with ⟨v, hv⟩ | ⟨a, l, s, hp, hs⟩
    · obtain ⟨x, y, c⟩ := q
      by_cases k : ∃ b, D rs y x = some b ∧ b + c < 0
      · obtain ⟨b, eb, hb⟩ := k
        obtain ⟨l, s, hp, hs⟩ := told_path hv (d_told hv eb)
        refine .inr ⟨x, rs.length :: l, c + s, .cons (m := y) ?_ hp.lift, by omega⟩
        rw [List.getElem?_append_right (Nat.le_refl _), Nat.sub_self]
        rfl
      · exact .inl (more_sat hv fun b eb => by
          have : ¬ b + c < 0 := fun z => k ⟨b, eb, z⟩
          omega)
    · exact .inr ⟨a, l, s, hp.lift, hs⟩
/-! ### the table by middles -/
abbrev Tb (α : Type) := α → α → Option Int
def put2 (F : Tb α) (i j : α) (k : Int) : Tb α := fun a b => if a = i ∧ b = j then some k else F a b
theorem put2_at (F : Tb α) (i j : α) (k : Int) : put2 F i j k i j = some k := if_pos ⟨rfl, rfl⟩
theorem put2_off {F : Tb α} {i j a b : α} {k : Int} (h : ¬ (a = i ∧ b = j)) : put2 F i j k a b = F a b := if_neg h
structure Fw (rows : List (Row α)) (ends : List α) (F : Tb α) : Prop where
  diag : ∀ a ∈ ends, ∃ k, F a a = some k ∧ k ≤ 0
  snd : ∀ a b k, F a b = some k → Told rows a b k
  dom : ∀ a b k, F a b = some k → a ∈ ends ∧ b ∈ ends
def Rowed (rows : List (Row α)) (F : Tb α) : Prop := ∀ r ∈ rows, ∃ k, F r.1 r.2.1 = some k ∧ k ≤ r.2.2
def Neg (ends : List α) (F : Tb α) : Prop := ∃ a ∈ ends, ∃ k, F a a = some k ∧ k < 0
def Clo (M : List α) (F : Tb α) : Prop := ∀ m ∈ M, ∀ i j x y, F i m = some x → F m j = some y → ∃ z, F i j = some z ∧ z ≤ x + y
def Down (F F' : Tb α) : Prop := ∀ i j k, F i j = some k → ∃ k', F' i j = some k' ∧ k' ≤ k
theorem Down.refl (F : Tb α) : Down F F := fun i j k e => ⟨k, e, Int.le_refl _⟩
theorem Down.trans {F G K : Tb α} (h : Down F G) (k : Down G K) : Down F K := fun i j x e => by
  obtain ⟨y, e1, l1⟩ := h i j x e
  obtain ⟨z, e2, l2⟩ := k i j y e1
  exact ⟨z, e2, by omega⟩
theorem Down.put {F : Tb α} {i j : α} {k : Int} (h : ∀ x, F i j = some x → k ≤ x) : Down F (put2 F i j k) := fun a b x e => by
  by_cases z : a = i ∧ b = j
  · obtain ⟨rfl, rfl⟩ := z
    exact ⟨k, put2_at F a b k, h x e⟩
  · exact ⟨x, by rw [put2_off z]; exact e, Int.le_refl _⟩
theorem Neg.down {ends : List α} {F G : Tb α} (h : Neg ends F) (d : Down F G) : Neg ends G := by
  obtain ⟨a, ha, k, e, hk⟩ := h
  obtain ⟨k', e', l⟩ := d a a k e
  exact ⟨a, ha, k', e', by omega⟩
theorem Rowed.down {F G : Tb α} (h : Rowed rows F) (d : Down F G) : Rowed rows G := fun r hr => by
  obtain ⟨k, e, l⟩ := h r hr
  obtain ⟨k', e', l'⟩ := d _ _ k e
  exact ⟨k', e', by omega⟩
theorem Fw.put {ends : List α} {F : Tb α} (W : Fw rows ends F) {i j : α} {k : Int} (hi : i ∈ ends) (hj : j ∈ ends) (t : Told rows i j k) (h : ∀ x, F i j = some x → k ≤ x) : Fw rows ends (put2 F i j k) := by
  refine ⟨fun a ha => ?_, fun a b x e => ?_, fun a b x e => ?_⟩
  · obtain ⟨x, e, l⟩ := W.diag a ha
    obtain ⟨x', e', l'⟩ := Down.put h a a x e
    exact ⟨x', e', by omega⟩
  · by_cases z : a = i ∧ b = j
    · obtain ⟨rfl, rfl⟩ := z
      rw [put2_at] at e
      injection e with e
      exact e ▸ t
    · rw [put2_off z] at e
      exact W.snd a b x e
  · by_cases z : a = i ∧ b = j
    · exact ⟨z.1 ▸ hi, z.2 ▸ hj⟩
    · rw [put2_off z] at e
      exact W.dom a b x e
/-- within the turn of the middle m, begun at F0 -/
def FwMid (ends : List α) (F0 : Tb α) (m : α) (done : α → α → Prop) (F : Tb α) : Prop := Neg ends F ∨ ((∀ i, F i m = F0 i m) ∧ (∀ j, F m j = F0 m j) ∧ (∀ i j, F i j = F0 i j ∨ ∃ x y, F0 i m = some x ∧ F0 m j = some y ∧ F i j = some (x + y)) ∧ Down F0 F ∧
  ∀ i j, done i j → ∀ x y, F0 i m = some x → F0 m j = some y → ∃ z, F i j = some z ∧ z ≤ x + y)
theorem FwMid.start (ends : List α) (F : Tb α) (m : α) : FwMid ends F m (fun _ _ => False) F := .inr ⟨fun _ => rfl, fun _ => rfl, fun _ _ => .inl rfl, Down.refl F, fun _ _ h => h.elim⟩
theorem FwMid.more {ends : List α} {F0 F : Tb α} {m : α} {d d' : α → α → Prop} (h : FwMid ends F0 m d F) (k : ∀ i j, d' i j → d i j ∨ F0 i m = none ∨ F0 m j = none) : FwMid ends F0 m d' F := by
  rcases h with h | ⟨h1, h2, h3, h4, h5⟩
  · exact .inl h
  · refine .inr ⟨h1, h2, h3, h4, fun i j hd x y e1 e2 => ?_⟩
    rcases k i j hd with z | z | z
    · exact h5 i j z x y e1 e2
    · rw [z] at e1
      cases e1
    · rw [z] at e2
      cases e2
/-- a lesser sum is found -/
theorem FwMid.put {ends : List α} {F0 F : Tb α} {m : α} {d : α → α → Prop} (W : Fw rows ends F) (hm : m ∈ ends) (h : FwMid ends F0 m d F) {i j : α} {x y : Int} (hx : Neg ends F ∨ F0 i m = some x) (hy : F m j = some y) (hlt : ∀ z, F i j = some z → x + y < z) : FwMid ends F0 m (fun a b => d a b ∨ (a = i ∧ b = j)) (put2 F i j (x + y)) := by
  have dn : Down F (put2 F i j (x + y)) := Down.put fun z e => Int.le_of_lt (hlt z e)
  rcases h with h | ⟨h1, h2, h3, h4, h5⟩
  · exact .inl (h.down dn)
  rcases hx with hx | hx
  · exact .inl (hx.down dn)
  by_cases ng : Neg ends F
  · exact .inl (ng.down dn)
  obtain ⟨k, ek, lk⟩ := W.diag m hm
  have k0 : k = 0 := by
    have : ¬ k < 0 := fun z => ng ⟨m, hm, k, ek, z⟩
    omega
  subst k0
  have nj : j ≠ m := fun z => by
    subst z
    rw [ek] at hy
    injection hy with hy
    have := hlt x (by rw [h1]; exact hx)
    omega
  have ni : i ≠ m := fun z => by
    subst z
    rw [← h1, ek] at hx
    injection hx with hx
    have := hlt y hy
    omega
  refine .inr ⟨fun a => ?_, fun b => ?_, fun a b => ?_, h4.trans dn, fun a b hd p q e1 e2 => ?_⟩
  · rw [put2_off fun z => nj z.2.symm]
    exact h1 a
  · rw [put2_off fun z => ni z.1.symm]
    exact h2 b
  · by_cases z : a = i ∧ b = j
    · obtain ⟨rfl, rfl⟩ := z
      exact .inr ⟨x, y, hx, by rw [← h2]; exact hy, put2_at _ _ _ _⟩
    · rw [put2_off z]
      exact h3 a b
  · rcases hd with hd | ⟨rfl, rfl⟩
    · obtain ⟨z, ez, lz⟩ := h5 a b hd p q e1 e2
      obtain ⟨z', ez', lz'⟩ := dn a b z ez
      exact ⟨z', ez', by omega⟩
    · rw [hx] at e1
      rw [← h2, hy] at e2
      injection e1 with e1
      injection e2 with e2
      exact ⟨x + y, put2_at _ _ _ _, by omega⟩
/-- none is found -/
theorem FwMid.skip {ends : List α} {F0 F : Tb α} {m : α} {d : α → α → Prop} (h : FwMid ends F0 m d F) {i j : α} {x y : Int} (hx : Neg ends F ∨ F0 i m = some x) (hy : F m j = some y) {z : Int} (hz : F i j = some z) (hge : z ≤ x + y) : FwMid ends F0 m (fun a b => d a b ∨ (a = i ∧ b = j)) F := by
  rcases h with h | ⟨h1, h2, h3, h4, h5⟩
  · exact .inl h
  rcases hx with hx | hx
  · exact .inl hx
  refine .inr ⟨h1, h2, h3, h4, fun a b hd p q e1 e2 => ?_⟩
  rcases hd with hd | ⟨rfl, rfl⟩
  · exact h5 a b hd p q e1 e2
  · rw [hx] at e1
    rw [← h2, hy] at e2
    injection e1 with e1
    injection e2 with e2
    exact ⟨z, hz, by omega⟩
/-- the turn's end -/
theorem FwMid.clo {ends M : List α} {F0 F : Tb α} {m : α} (W : Fw rows ends F) (W0 : Fw rows ends F0) (hm : m ∈ ends) (hM : ∀ x ∈ M, x ∈ ends) (h : FwMid ends F0 m (fun a b => a ∈ ends ∧ b ∈ ends) F) (c : Neg ends F0 ∨ Clo M F0) : Neg ends F ∨ Clo (M ++ [m]) F := by
  rcases h with h | ⟨h1, h2, h3, h4, h5⟩
  · exact .inl h
  by_cases ng : Neg ends F
  · exact .inl ng
  rcases c with c | c
  · exact .inl (c.down h4)
  have h5 : ∀ i j x y, F0 i m = some x → F0 m j = some y → ∃ z, F i j = some z ∧ z ≤ x + y := fun i j x y e1 e2 => h5 i j ⟨(W0.dom _ _ _ e1).1, (W0.dom _ _ _ e2).2⟩ x y e1 e2
  refine .inr fun g hg i j x y e1 e2 => ?_
  rcases List.mem_append.mp hg with mg | mg
  · -- an earlier middle
    obtain ⟨kg, ekg, lkg⟩ := W.diag g (hM g mg)
    rcases h3 i g with q1 | ⟨x1, x2, q1, q1', q1''⟩
    · rw [q1] at e1
      rcases h3 g j with q2 | ⟨y1, y2, q2, q2', q2''⟩
      · rw [q2] at e2
        obtain ⟨z, ez, lz⟩ := c g mg i j x y e1 e2
        obtain ⟨z', ez', lz'⟩ := h4 i j z ez
        exact ⟨z', ez', by omega⟩
      · rw [q2''] at e2
        injection e2 with e2
        obtain ⟨z, ez, lz⟩ := c g mg i m x y1 e1 q2
        obtain ⟨z', ez', lz'⟩ := h5 i j z y2 ez q2'
        exact ⟨z', ez', by omega⟩
    · rw [q1''] at e1
      injection e1 with e1
      rcases h3 g j with q2 | ⟨y1, y2, q2, q2', q2''⟩
      · rw [q2] at e2
        obtain ⟨z, ez, lz⟩ := c g mg m j x2 y q1' e2
        obtain ⟨z', ez', lz'⟩ := h5 i j x1 z q1 ez
        exact ⟨z', ez', by omega⟩
      · rw [q2''] at e2
        injection e2 with e2
        obtain ⟨z, ez, lz⟩ := c g mg m m x2 y1 q1' q2
        have : ¬ z < 0 := fun w => ng (Neg.down ⟨m, hm, z, ez, w⟩ h4)
        obtain ⟨z', ez', lz'⟩ := h5 i j x1 y2 q1 q2'
        exact ⟨z', ez', by omega⟩
  · rw [List.mem_singleton] at mg
    subst mg
    rw [h1] at e1
    rw [h2] at e2
    exact h5 i j x y e1 e2
/-- the end: no negative sum beside the diagonal, and all is as it should be -/
theorem fw_path {ends : List α} {F : Tb α} (W : Fw rows ends F) (R : Rowed rows F) (C : Clo ends F) {a b : α} {l : List Nat} {s : Int} (h : Path rows a l b s) (ha : a ∈ ends) : ∃ z, F a b = some z ∧ z ≤ s := by
  induction h with
  | nil a => exact W.diag a ha
  | @cons a m b j c s l hj h ih =>
    obtain ⟨x, ex, lx⟩ := R _ (List.mem_of_getElem? hj)
    obtain ⟨y, ey, ly⟩ := ih (W.dom _ _ _ ex).2
    obtain ⟨z, ez, lz⟩ := C m (W.dom _ _ _ ex).2 a b x y ex ey
    have lx : x ≤ c := lx
    exact ⟨z, ez, by omega⟩
theorem fw_none {ends : List α} {F : Tb α} (W : Fw rows ends F) (h : Neg ends F) (v : α → Int) : ¬ Sat rows v := fun hv => by
  obtain ⟨a, ha, k, e, hk⟩ := h
  have := W.snd a a k e v hv
  omega
theorem fw_some {ends : List α} {F : Tb α} (W : Fw rows ends F) (R : Rowed rows F) (C : Clo ends F) (ng : ¬ Neg ends F) (hends : ∀ r ∈ rows, r.1 ∈ ends) : ∃ v, Sat rows v ∧ ∀ a ∈ ends, ∀ b ∈ ends, D rows a b = F a b := by
  rcases sat_or _ rows rfl with ⟨v, hv⟩ | ⟨a, l, s, hp, hs⟩
  · refine ⟨v, hv, fun a ha b hb => ?_⟩
    cases e : D rows a b with
    | some x =>
      obtain ⟨l, s, hp, hs⟩ := told_path hv (d_told hv e)
      obtain ⟨z, ez, lz⟩ := fw_path W R C hp ha
      obtain ⟨y, ey, ly⟩ := told_d hv (W.snd a b z ez)
      rw [e] at ey
      injection ey with ey
      rw [ez]
      congr 1
      omega
    | none =>
      cases e2 : F a b with
      | none => rfl
      | some z =>
        obtain ⟨y, ey, _⟩ := told_d hv (W.snd a b z e2)
        rw [e] at ey
        cases ey
  · have ha : a ∈ ends := by
      cases hp with
      | nil => omega
      | cons hj _ => exact hends _ (List.mem_of_getElem? hj)
    obtain ⟨z, ez, lz⟩ := fw_path W R C hp ha
    exact absurd ⟨a, ha, z, ez, by omega⟩ ng
end
end Lo
namespace Lo
open PySem L2
abbrev sTightened : Stmt := top 14
abbrev sWithRows : Stmt := top 15
abbrev sLowered : Stmt := top 16
abbrev sTableOf : Stmt := top 18
/-! ### _lowered -/
/-- keys and values as one function -/
def opt (ks : List Str) (f : Str → Int) (y : Str) : Option Int := if y ∈ ks then some (f y) else none
theorem opt_in {ks : List Str} {f : Str → Int} {y : Str} (h : y ∈ ks) : opt ks f y = some (f y) := if_pos h
theorem opt_out {ks : List Str} {f : Str → Int} {y : Str} (h : y ∉ ks) : opt ks f y = none := if_neg h
theorem opt_some {ks : List Str} {f : Str → Int} {y : Str} {k : Int} (h : opt ks f y = some k) : y ∈ ks ∧ f y = k := by
  by_cases m : y ∈ ks
  · rw [opt_in m] at h
    exact ⟨m, Option.some.inj h⟩
  · rw [opt_out m] at h
    cases h
/-- one entry is lowered -/
def lowS (base : Int) (kf : List Str × (Str → Int)) (q : Str × Int) : List Str × (Str → Int) :=
  if q.1 ∉ kf.1 ∨ base + q.2 < kf.2 q.1 then (addN kf.1 q.1, put kf.2 q.1 (base + q.2)) else kf
def low (base : Int) (kf : List Str × (Str → Int)) (fs : List (Str × Int)) : List Str × (Str → Int) := fs.foldl (lowS base) kf
theorem lowS_opt (base : Int) (kf : List Str × (Str → Int)) (q : Str × Int) (y : Str) : opt (lowS base kf q).1 (lowS base kf q).2 y = if y = q.1 then minO (opt kf.1 kf.2 y) (some (base + q.2)) else opt kf.1 kf.2 y := by
  unfold lowS
  by_cases c : q.1 ∉ kf.1 ∨ base + q.2 < kf.2 q.1
  · rw [if_pos c]
    dsimp only
    by_cases e : y = q.1
    · rw [if_pos e, opt_in (mem_addN.mpr (.inr e)), e, put_at]
      by_cases m : q.1 ∈ kf.1
      · rw [opt_in m]
        have := c.resolve_left fun z => z m
        show _ = some (if base + q.2 < kf.2 q.1 then base + q.2 else kf.2 q.1)
        rw [if_pos this]
      · rw [opt_out m]
        rfl
    · rw [if_neg e]
      by_cases m : y ∈ kf.1
      · rw [opt_in (mem_addN.mpr (.inl m)), opt_in m, put_off e]
      · rw [opt_out (fun z => (mem_addN.mp z).elim m e), opt_out m]
  · rw [if_neg c]
    by_cases e : y = q.1
    · rw [if_pos e]
      have m : q.1 ∈ kf.1 := Classical.byContradiction fun z => c (.inl z)
      have l : ¬ base + q.2 < kf.2 q.1 := fun z => c (.inr z)
      rw [e, opt_in m]
      show _ = some (if base + q.2 < kf.2 q.1 then base + q.2 else kf.2 q.1)
      rw [if_neg l]
    · rw [if_neg e]
theorem lowS_nd {base : Int} {kf : List Str × (Str → Int)} {q : Str × Int} (h : kf.1.Nodup) : (lowS base kf q).1.Nodup := by
  unfold lowS
  split
  · exact nodup_addN h
  · exact h
theorem low_nd {base : Int} : ∀ (fs : List (Str × Int)) (kf : List Str × (Str → Int)), kf.1.Nodup → (low base kf fs).1.Nodup
  | [], kf, h => h
  | q :: fs, kf, h => low_nd fs _ (lowS_nd h)
theorem low_len {base : Int} : ∀ (fs : List (Str × Int)) (kf : List Str × (Str → Int)), (low base kf fs).1.length ≤ kf.1.length + fs.length
  | [], kf => Nat.le_refl _
  | q :: fs, kf => by
    have ih := low_len (base := base) fs (lowS base kf q)
    have : (lowS base kf q).1.length ≤ kf.1.length + 1 := by
      unfold lowS
      split
      · exact length_addN
      · omega
    rw [List.length_cons]
    show (low base (lowS base kf q) fs).1.length ≤ _
    omega
theorem low_opt {base : Int} : ∀ (fs : List (Str × Int)) (kf : List Str × (Str → Int)), (fs.map (·.1)).Nodup → ∀ y,
    (∀ m, (y, m) ∈ fs → opt (low base kf fs).1 (low base kf fs).2 y = minO (opt kf.1 kf.2 y) (some (base + m))) ∧ (y ∉ fs.map (·.1) → opt (low base kf fs).1 (low base kf fs).2 y = opt kf.1 kf.2 y)
  | [], kf, _, y => ⟨fun m h => absurd h List.not_mem_nil, fun _ => rfl⟩
  | q :: fs, kf, h, y => by
    rw [List.map_cons] at h
    obtain ⟨h1, h2⟩ := List.nodup_cons.mp h
    obtain ⟨i1, i2⟩ := low_opt (base := base) fs (lowS base kf q) h2 y
    refine ⟨fun m hm => ?_, fun hn => ?_⟩
    · rcases List.mem_cons.mp hm with e | e
      · have e1 : q.1 = y := by rw [← e]
        have e2 : q.2 = m := by rw [← e]
        have := i2 (e1 ▸ h1)
        show opt (low base (lowS base kf q) fs).1 (low base (lowS base kf q) fs).2 y = _
        rw [this, lowS_opt, if_pos e1.symm, e2]
      · have ny : y ≠ q.1 := fun z => h1 (z ▸ List.mem_map.mpr ⟨_, e, rfl⟩)
        have := i1 m e
        show opt (low base (lowS base kf q) fs).1 (low base (lowS base kf q) fs).2 y = _
        rw [this, lowS_opt, if_neg ny]
    · rw [List.map_cons] at hn
      have := i2 fun z => hn (List.mem_cons_of_mem _ z)
      show opt (low base (lowS base kf q) fs).1 (low base (lowS base kf q) fs).2 y = _
      rw [this, lowS_opt, if_neg (fun z : y = q.1 => hn (z ▸ List.mem_cons_self))]
theorem low_snoc (base : Int) (kf : List Str × (Str → Int)) (fs : List (Str × Int)) (q : Str × Int) : low base kf (fs ++ [q]) = lowS base (low base kf fs) q := by
  unfold low
  rw [List.foldl_append]
  rfl
/-- pairs of a name and a number, in a list -/
def Prs (H : Hp) (l : Addr) (fs : List (Str × Int)) : Prop := ∃ qs : List Addr, H l = some (.lst (qs.map V.ref)) ∧ qs.length = fs.length ∧ ∀ (i : Nat) (q : Addr) (r : Str × Int), qs[i]? = some q → fs[i]? = some r → H q = some (.tup [.str r.1, .int r.2])
theorem Prs.same {H H' : Hp} {l : Addr} {fs : List (Str × Int)} (s : Same H H') (h : Prs H l fs) : Prs H' l fs := by
  obtain ⟨qs, h1, h2, h3⟩ := h
  exact ⟨qs, s _ _ h1, h2, fun i q r hq hr => s _ _ (h3 i q r hq hr)⟩
section
variable {P : Program} {w : World} {K : PySem.W.Frag} {mg : Str → Option Value} {base : Heap}
def spLowered : Sp := fun vs H Q _ => ∃ (r l : Addr) (b : Int) (ks : List Str) (f : Str → Int) (fs : List (Str × Int)), vs = [.ref r, .int b, .ref l] ∧ H r = some (.dK (dS ks fun x => .int (f x))) ∧ Prs H l fs ∧ ks.length ≤ 300 ∧ fs.length ≤ 300 ∧
  ∀ H' d, Same H H' → H d = none → H' d = some (.dK (dS (low b (ks, f) fs).1 fun x => .int ((low b (ks, f) fs).2 x))) → Q (.ref d) H'
abbrev nLowered : List Str := ["row", "base", "further", "found", "name", "more"]
theorem scLowered : FnScope nLowered ["row", "base", "further"] (defScope sLowered) := ⟨rfl, rfl, rfl, by decide +kernel, rfl, by decide +kernel, by decide +kernel⟩
theorem ok_lowered {f : Addr} {fd : FuncData} (F : Fun K "_lowered" "_lowered" sLowered f fd) (U : Blt2 mg) : FnOk P w K mg base CX0 1 f fd ["row", "base", "further"] spLowered := by
  refine F.ok scLowered (fun vs H Q E h => ?_) (fun cdv A outer s H vs Q E hr h => ?_)
  · obtain ⟨r, l, b, ks, f, fs, rfl, _⟩ := h
    rfl
  · obtain ⟨r, l, b, ks, f, fs, rfl, hr0, ⟨qs, hl, hql, hqs⟩, k3, f3, q⟩ := h
    have nd := scLowered.nd
    have hu := hu_of hr
    refine ⟨_, pss_cons (ps_set (i := 3) nd rfl (.inl rfl) (pe_callTy call_dictD (by rfl) U.dict PyProof.Rows.boot_dict (pa_cons (pv 0) pa_nil)))
      (pss_cons (ps_for PassesOwn.never rfl (pi_list (pv 2)) (pg_tup rfl (pgs_cons (pg_name (i := 4) nd rfl (.inl rfl)) (pgs_cons (pg_name (i := 5) nd rfl (.inl rfl)) pgs_nil)))
        (pss_one (ps_if (PW.pt (pw_or (pt_cmp (pc_dnotin hu (pv 4) (pv 3))) (pw_or1 (pt_cmpR op_lt (pe_op op_add (pv 1) (pv 5)) (pe_dget hu (pv 3) (pv 4) (fun _ _ => rfl)) (nomark _)))))
          (pss_one (ps_dput hu (pv 3) (pv 4) (pe_op op_add (pv 1) (pv 5)) rfl)) pss_nil)))
      (pss_one (ps_ret (pv 3)))), ?_⟩
    refine ⟨.ref r, rfl, r, _, rfl, Rd.of hr0, fun d nd' => ?_⟩
    have s1 := same_upd (o := HO.dK (dS ks fun x => .int (f x))) nd'
    refine ⟨.ref l, rfl, l, rfl, ⟨_, SqL.of (s1 _ _ hl)⟩, for_list (K := K) (a := l) (xs := qs.map V.ref) (fun i σ H' => ∃ (y4 y5 : Option V), σ = [some (.ref r), some (.int b), some (.ref l), some (.ref d), y4, y5] ∧ Same H H' ∧ H' d = some (.dK (dS (low b (ks, f) (fs.take i)).1 fun x => .int ((low b (ks, f) (fs.take i)).2 x))))
      ⟨none, none, rfl, s1, upd_same⟩ (fun i σ H' _ ⟨_, _, _, e, _⟩ => SqL.of (e _ _ hl)) ?_ ?_⟩
    · rintro i x σ H1 hi ⟨y4, y5, rfl, s2, hd⟩
      have hi1 : i < qs.length := by
        have := (List.getElem?_eq_some_iff.mp hi).1
        rw [List.length_map] at this
        exact this
      obtain rfl : x = .ref qs[i] := by
        rw [List.getElem?_map, List.getElem?_eq_getElem hi1] at hi
        exact (Option.some.inj hi).symm
      have hi2 : i < fs.length := hql ▸ hi1
      have hq := s2 _ _ (hqs i _ _ (List.getElem?_eq_getElem hi1) (List.getElem?_eq_getElem hi2))
      have etake : fs.take (i + 1) = fs.take i ++ [fs[i]] := by rw [List.take_add_one, List.getElem?_eq_getElem hi2]; rfl
      generalize hkf : low b (ks, f) (fs.take i) = kf at hd
      have hlen : kf.1.length ≤ 600 := by
        have := low_len (base := b) (fs.take i) (ks, f)
        rw [hkf, List.length_take] at this
        simp only at this
        omega
      obtain ⟨y, m, hym⟩ : ∃ y m, fs[i] = (y, m) := ⟨_, _, rfl⟩
      rw [hym] at hq etake
      refine ⟨qs[i], _, rfl, SqT.of hq, rfl, _, _, rfl, _, _, rfl, rfl, ?_⟩
      have fin : ∀ (z4 z5 : Option V), (y ∉ kf.1 ∨ b + m < kf.2 y) → ∃ (y4 y5 : Option V), [some (V.ref r), some (.int b), some (.ref l), some (.ref d), z4, z5] = [some (V.ref r), some (.int b), some (.ref l), some (.ref d), y4, y5] ∧ Same H (upd H1 d (.dK (dS (addN kf.1 y) (put (fun x => V.int (kf.2 x)) y (.int (b + m)))))) ∧
          upd H1 d (.dK (dS (addN kf.1 y) (put (fun x => V.int (kf.2 x)) y (.int (b + m))))) d = some (.dK (dS (low b (ks, f) (fs.take i ++ [(y, m)])).1 fun x => .int ((low b (ks, f) (fs.take i ++ [(y, m)])).2 x))) := fun z4 z5 c => by
        refine ⟨z4, z5, rfl, s2.later nd', ?_⟩
        have : lowS b kf (y, m) = (addN kf.1 y, put kf.2 y (b + m)) := if_pos c
        rw [upd_same, low_snoc, hkf, this, put_map (fun n : Int => V.int n)]
      rw [etake]
      by_cases hy : y ∈ kf.1
      · refine ⟨.str y, rfl, .ref d, rfl, d, _, rfl, dget hd hy, _, rfl, iteF ?_⟩
        refine ⟨.int b, rfl, .int m, rfl, _, _, rfl, rfl, .ref d, rfl, .str y, rfl, d, _, rfl, dget hd hy, _, _, rfl, rfl, _, rfl, ite2 (fun e => ?_) (fun e => ?_)⟩
        · have hlt := of_decide_eq_true e
          exact ⟨.int b, rfl, .int m, rfl, _, _, rfl, rfl, .ref d, rfl, .str y, rfl, d, _, rfl, dput y (.int (b + m)) hd (by omega), fin _ _ (.inr hlt)⟩
        · have hge : ¬ b + m < kf.2 y := fun z => e (decide_eq_true z)
          refine ⟨_, _, rfl, s2, ?_⟩
          have : lowS b kf (y, m) = kf := if_neg fun c => c.elim (fun z => z hy) hge
          rw [low_snoc, hkf, this]
          exact hd
      · refine ⟨.str y, rfl, .ref d, rfl, d, _, rfl, dget0 hd hy, _, rfl, iteT (iteT ?_)⟩
        exact ⟨.int b, rfl, .int m, rfl, _, _, rfl, rfl, .ref d, rfl, .str y, rfl, d, _, rfl, dput y (.int (b + m)) hd (by omega), fin _ _ (.inl hy)⟩
    · rintro σ H1 ⟨y4, y5, rfl, s2, hd⟩
      rw [List.length_map, hql, List.take_length] at hd
      exact ⟨.ref d, rfl, q H1 d s2 nd' hd⟩
end
end Lo
namespace Lo
open PySem L2
/-- a table of rows of numbers, each row a dict of its own -/
structure TabG (H : Hp) (d : Addr) (ns : List Str) (ra : Str → Addr) (rk : Str → List Str) (rv : Str → Str → Int) : Prop where
  dict : H d = some (.dK (dS ns fun x => .ref (ra x)))
  nd : ns.Nodup
  row : ∀ x ∈ ns, H (ra x) = some (.dK (dS (rk x) fun y => .int (rv x y)))
  off : ∀ x ∈ ns, ra x ≠ d
  rnd : ∀ x ∈ ns, (rk x).Nodup
def Tells (ns : List Str) (rk : Str → List Str) (rv : Str → Str → Int) (G : Str → Str → Option Int) : Prop := ∀ x ∈ ns, ∀ y, opt (rk x) (rv x) y = G x y
theorem TabG.same {H H' : Hp} {d : Addr} {ns : List Str} {ra : Str → Addr} {rk : Str → List Str} {rv : Str → Str → Int} (s : Same H H') (T : TabG H d ns ra rk rv) : TabG H' d ns ra rk rv :=
  ⟨s _ _ T.dict, T.nd, fun x hx => s _ _ (T.row x hx), T.off, T.rnd⟩
theorem TabG.put {H : Hp} {d : Addr} {ns : List Str} {ra : Str → Addr} {rk : Str → List Str} {rv : Str → Str → Int} (T : TabG H d ns ra rk rv) {x : Str} {z : Addr} {ks : List Str} {f : Str → Int} (hz : H z = some (.dK (dS ks fun y => .int (f y)))) (nz : z ≠ d) (hk : ks.Nodup) :
    TabG (upd H d (.dK (dS (addN ns x) (put (fun x => V.ref (ra x)) x (.ref z))))) d (addN ns x) (put ra x z) (put rk x ks) (put rv x f) := by
  refine ⟨by rw [upd_same, put_map (fun n : Addr => V.ref n)], nodup_addN T.nd, fun w hw => ?_, fun w hw => ?_, fun w hw => ?_⟩
  · by_cases e : w = x
    · rw [e, put_at, put_at, put_at, upd_ne nz]
      exact hz
    · have m := (mem_addN.mp hw).resolve_right e
      rw [put_off e, put_off e, put_off e, upd_ne (T.off w m)]
      exact T.row w m
  · by_cases e : w = x
    · rw [e, put_at]
      exact nz
    · rw [put_off e]
      exact T.off w ((mem_addN.mp hw).resolve_right e)
  · by_cases e : w = x
    · rw [e, put_at]
      exact hk
    · rw [put_off e]
      exact T.rnd w ((mem_addN.mp hw).resolve_right e)
theorem Tells.put {ns : List Str} {rk : Str → List Str} {rv : Str → Str → Int} {G : Str → Str → Option Int} (T : Tells ns rk rv G) {x : Str} {ks : List Str} {f : Str → Int} (h : ∀ y, opt ks f y = G x y) : Tells (addN ns x) (Lo.put rk x ks) (Lo.put rv x f) G := fun w hw y => by
  by_cases e : w = x
  · rw [e, put_at, put_at]
    exact h y
  · rw [put_off e, put_off e]
    exact T w ((mem_addN.mp hw).resolve_right e) y
/-- a side that is reached is the first or has a row -/
theorem d_named {rows : List SRow} {v : Str → Int} (hv : Sat rows v) {x y : Str} {k : Int} (h : D rows x y = some k) : y = x ∨ Named rows y := by
  refine Classical.byContradiction fun n => ?_
  have nx : y ≠ x := fun e => n (.inl e)
  have ny : ¬ Named rows y := fun e => n (.inr e)
  have B := closed_best (rows := rows) (a := x) (f := fun z => if z = y then none else D rows x z) (by show (if x = y then none else D rows x x) = some 0; rw [if_neg (fun e => nx e.symm), d_self hv]) (fun z k e => by
    by_cases q : z = y
    · simp only [if_pos q] at e
      cases e
    · simp only [if_neg q] at e
      exact d_told hv e) (fun r hr k e => by
    have q1 : r.1 ≠ y := fun e => ny ⟨r, hr, .inl e.symm⟩
    have q2 : r.2.1 ≠ y := fun e => ny ⟨r, hr, .inr e.symm⟩
    simp only [if_neg q1] at e
    simp only [if_neg q2]
    obtain ⟨c, ec, lc⟩ := d_row hv (show (r.1, r.2.1, r.2.2) ∈ rows from hr)
    obtain ⟨z, ez, lz⟩ := d_tri hv e ec
    exact ⟨z, ez, by omega⟩) hv y
  have := d_of hv B
  rw [h, if_pos rfl] at this
  cases this
theorem keys_few {rows : List SRow} {v : Str → Int} (hv : Sat rows v) {ns : List Str} {rk : Str → List Str} {rv : Str → Str → Int} (T : Tells ns rk rv (D rows)) (hn : ∀ x, Named rows x → x ∈ ns) {x : Str} (hx : x ∈ ns) (hd : (rk x).Nodup) : (rk x).length ≤ ns.length := by
  refine nodup_le _ _ hd fun y hy => ?_
  have := T x hx y
  rw [opt_in hy] at this
  rcases d_named hv this.symm with e | e
  · exact e ▸ hx
  · exact hn y e
section
variable {P : Program} {w : World} {K : PySem.W.Frag} {mg : Str → Option Value} {base : Heap}
/-! ### _with_rows -/
def spWithRows : Sp := fun vs H Q _ => ∃ (t : Addr) (l r : Str) (rows : List SRow) (v : Str → Int) (ns : List Str) (ra : Str → Addr) (rk : Str → List Str) (rv : Str → Str → Int), vs = [.ref t, .str l, .str r] ∧ TabG H t ns ra rk rv ∧ Tells ns rk rv (D rows) ∧ Sat rows v ∧ l ≠ r ∧ ns.length ≤ 250 ∧ (∀ x, Named rows x → x ∈ ns) ∧
  ∀ H' d ns' ra' rk' rv', Same H H' → H d = none → TabG H' d ns' ra' rk' rv' → Tells ns' rk' rv' (D rows) → (∀ x ∈ ns, x ∈ ns') → l ∈ ns' → r ∈ ns' → (∀ x ∈ ns', x ∈ ns ∨ x = l ∨ x = r) → Q (.ref d) H'
abbrev nWithRows : List Str := ["table", "left", "right", "found", "name"]
theorem scWithRows : FnScope nWithRows ["table", "left", "right"] (defScope sWithRows) := ⟨rfl, rfl, rfl, by decide +kernel, rfl, by decide +kernel, by decide +kernel⟩
theorem ok_withrows {f : Addr} {fd : FuncData} (F : Fun K "_with_rows" "_with_rows" sWithRows f fd) (U : Blt2 mg) : FnOk P w K mg base CX0 1 f fd ["table", "left", "right"] spWithRows := by
  refine F.ok scWithRows (fun vs H Q E h => ?_) (fun cdv A outer s H vs Q E hr h => ?_)
  · obtain ⟨t, l, r, rows, v, ns, ra, rk, rv, rfl, _⟩ := h
    rfl
  · obtain ⟨t, l, r, rows, v, ns, ra, rk, rv, rfl, TG, Te, hv, nlr, few, hn, q⟩ := h
    have nd := scWithRows.nd
    have hu := hu_of hr
    refine ⟨_, pss_cons (ps_set (i := 3) nd rfl (.inl rfl) (pe_callTy call_dictD (by rfl) U.dict PyProof.Rows.boot_dict (pa_cons (pv 0) pa_nil)))
      (pss_cons (ps_for PassesOwn.never rfl (pi_tup (pe_tup (pa_cons (pv 1) (pa_cons (pv 2) pa_nil)))) (pg_name (i := 4) nd rfl (.inl rfl))
        (pss_one (ps_if (pt_cmp (pc_dnotin hu (pv 4) (pv 0))) (pss_one (ps_dput hu (pv 3) (pv 4) (pe_disp (pps_cons (pv 4) pe_int pps_nil) rfl rfl (fun z => nomatch z) (by decide)) rfl)) pss_nil)))
      (pss_one (ps_ret (pv 3)))), ?_⟩
    refine ⟨.ref t, rfl, t, _, rfl, Rd.of TG.dict, fun d nd' => ?_⟩
    have s1 := same_upd (o := HO.dK (dS ns fun x => V.ref (ra x))) nd'
    have T1 : TabG (upd H d (.dK (dS ns fun x => .ref (ra x)))) d ns ra rk rv := ⟨upd_same, TG.nd, fun x hx => s1 _ _ (TG.row x hx), fun x hx e => (by
      have z := TG.row x hx
      rw [e, nd'] at z
      exact nomatch z), TG.rnd⟩
    refine ⟨.str l, rfl, .str r, rfl, by show 2 ≤ sizeLine; decide, fun tp ntp => ?_⟩
    have s2 := same_upd (o := HO.tup [V.str l, V.str r]) ntp
    refine ⟨tp, rfl, ⟨_, SqT.of upd_same⟩, for_tup (K := K) (a := tp) (xs := [.str l, .str r]) (fun i σ H' => ∃ (y4 : Option V) (ns' : List Str) (ra' : Str → Addr) (rk' : Str → List Str) (rv' : Str → Str → Int), σ = [some (.ref t), some (.str l), some (.str r), some (.ref d), y4] ∧ Same H H' ∧ H' tp = some (.tup [.str l, .str r]) ∧
        TabG H' d ns' ra' rk' rv' ∧ Tells ns' rk' rv' (D rows) ∧ (∀ x ∈ ns, x ∈ ns') ∧ (1 ≤ i → l ∈ ns') ∧ (2 ≤ i → r ∈ ns') ∧ (∀ x ∈ ns', x ∈ ns ∨ x = l ∨ x = r) ∧ ns'.length ≤ ns.length + i)
      ⟨none, ns, ra, rk, rv, rfl, s1.trans s2, upd_same, T1.same s2, Te, fun x h => h, fun h => (nomatch h), fun h => (nomatch h), fun x h => .inl h, Nat.le_refl _⟩ (fun i σ H' _ ⟨_, _, _, _, _, _, _, e, _⟩ => SqT.of e) ?_ ?_⟩
    · rintro i x σ H1 hi ⟨y4, ns', ra', rk', rv', rfl, s3, htp, T3, Te3, sub, hl, hr', only, len⟩
      obtain ⟨z, rfl, zl, zr, zo⟩ : ∃ z : Str, x = .str z ∧ (i = 0 → z = l) ∧ (i = 1 → z = r) ∧ (z = l ∨ z = r) := by
        match i, hi with
        | 0, hi => exact ⟨l, (Option.some.inj hi).symm, fun _ => rfl, fun e => (nomatch e), .inl rfl⟩
        | 1, hi => exact ⟨r, (Option.some.inj hi).symm, fun e => (nomatch e), fun _ => rfl, .inr rfl⟩
      have hi2 : i < 2 := (List.getElem?_eq_some_iff.mp hi).1
      have ht3 := s3 _ _ TG.dict
      have fin1 : ∀ {ns2 : List Str}, (∀ x ∈ ns', x ∈ ns2) → z ∈ ns2 → (1 ≤ i + 1 → l ∈ ns2) ∧ (2 ≤ i + 1 → r ∈ ns2) := fun {ns2} h hz => by
        refine ⟨fun _ => ?_, fun k => ?_⟩
        · by_cases e : i = 0
          · exact zl e ▸ hz
          · exact h l (hl (by omega))
        · exact zr (by omega) ▸ hz
      by_cases m : z ∈ ns
      · refine ⟨.str z, rfl, .ref t, rfl, t, _, rfl, dget ht3 m, _, rfl, iteF ?_⟩
        obtain ⟨f1, f2⟩ := fin1 (fun x h => h) (sub z m)
        exact ⟨_, ns', ra', rk', rv', rfl, s3, htp, T3, Te3, sub, f1, f2, only, by omega⟩
      · refine ⟨.str z, rfl, .ref t, rfl, t, _, rfl, dget0 ht3 m, _, rfl, iteT ?_⟩
        intro n0 nn0
        have s4 := same_upd (o := HO.dK []) nn0
        have em : mergeK [] [((Sum.inr z : Key), V.int 0)] = dS [z] fun _ => .int 0 := by
          show putK (dS [] fun _ => V.int 0) (Sum.inr z) (.int 0) = _
          rw [dS_put]
          have e : put (fun _ : Str => V.int 0) z (.int 0) = fun _ => V.int 0 := by
            funext q
            unfold put
            split <;> rfl
          rw [e]
          rfl
        refine ⟨.str z, rfl, upd_same, [((Sum.inr z : Key), V.int 0)], rfl, by show 1 ≤ 15; decide, ?_⟩
        rw [em, upd_upd]
        have s5 : Same H1 (upd H1 n0 (.dK (dS [z] fun _ => .int 0))) := same_upd nn0
        have T5 := T3.same s5
        have hd5 := T5.dict
        have nz : n0 ≠ d := fun e => by
          rw [e, T3.dict] at nn0
          cases nn0
        refine ⟨.ref d, rfl, .str z, rfl, d, _, rfl, dput z (.ref n0) hd5 (by omega), ?_⟩
        have T6 := T5.put (x := z) (z := n0) (ks := [z]) (f := fun _ => 0) upd_same nz (nd_one z)
        have nalone : ∀ q ∈ rows, q.1 ≠ z := fun q hq e => m (hn z ⟨q, hq, .inl e.symm⟩)
        have Te6 := Te3.put (x := z) (ks := [z]) (f := fun _ => 0) fun y => by
          rw [d_alone hv nalone y]
          unfold opt
          simp only [List.mem_singleton]
        obtain ⟨f1, f2⟩ := fin1 (ns2 := addN ns' z) (fun x h => mem_addN.mpr (.inl h)) (mem_addN.mpr (.inr rfl))
        have ntp' : tp ≠ d := ne_of htp T3.dict (by intro q; cases q)
        refine ⟨_, _, _, _, _, rfl, (s3.trans s5).later nd', ?_, T6, Te6, fun x h => mem_addN.mpr (.inl (sub x h)), f1, f2, fun x h => ?_, ?_⟩
        · rw [upd_ne ntp']
          exact s5 _ _ htp
        · rcases mem_addN.mp h with h | h
          · exact only x h
          · exact .inr (h ▸ zo)
        · have := length_addN (l := ns') (x := z)
          omega
    · rintro σ H1 ⟨y4, ns', ra', rk', rv', rfl, s3, htp, T3, Te3, sub, hl, hr', only, len⟩
      exact ⟨.ref d, rfl, q H1 d ns' ra' rk' rv' s3 nd' T3 Te3 sub (hl (by show 1 ≤ 2; decide)) (hr' (by show 2 ≤ 2; decide)) only⟩
end
end Lo
namespace Lo
open PySem L2
/-- all but one thing is as it was -/
def SameX (t : Addr) (H H' : Hp) : Prop := ∀ b o, b ≠ t → H b = some o → H' b = some o
theorem SameX.trans {t : Addr} {H H' H'' : Hp} (h : SameX t H H') (k : SameX t H' H'') : SameX t H H'' := fun b o n e => k b o n (h b o n e)
theorem same_x {t : Addr} {H H' : Hp} (h : Same H H') : SameX t H H' := fun b o _ e => h b o e
theorem sameX_back {t : Addr} {H H' : Hp} {o : HO} (e : H t = some o) (h : SameX t H H') : Same H (upd H' t o) := fun b x q => by
  by_cases z : b = t
  · rw [z, upd_same]
    rw [z] at q
    exact e.symm.trans q
  · rw [upd_ne z]
    exact h b x z q
theorem rget {H : Hp} {a : Addr} {ks : List Str} {f : Str → V} {x : Str} (e : Rd H a (.dK (dS ks f))) (h : x ∈ ks) : DGet H a (.str x) (some (f x)) := .inl ⟨_, Sum.inr x, e, rfl, by rw [dS_in h]⟩
theorem rget0 {H : Hp} {a : Addr} {ks : List Str} {f : Str → V} {x : Str} (e : Rd H a (.dK (dS ks f))) (h : x ∉ ks) : DGet H a (.str x) none := .inl ⟨_, Sum.inr x, e, rfl, by rw [dS_out h]⟩
theorem dS_at {ks : List Str} {f : Str → V} {i : Nat} (hi : i < ks.length) : (dS ks f)[i]? = some (Sum.inr ks[i], f ks[i]) := by
  unfold dS
  rw [List.getElem?_map, List.getElem?_eq_getElem hi]
  rfl
theorem Prs.unfrz {H : Hp} {L t : Addr} {fs : List (Str × Int)} {od : Obj} {u o : HO} (h : Prs H L fs) (ht : H t = some (.frz od u)) : Prs (upd H t o) L fs := by
  obtain ⟨qs, h1, h2, h3⟩ := h
  refine ⟨qs, by rw [upd_ne (ne_of h1 ht (by intro z; cases z))]; exact h1, h2, fun i q r hq hr => ?_⟩
  have z := h3 i q r hq hr
  rw [upd_ne (ne_of z ht (by intro z; cases z))]
  exact z
theorem TabG.aside {H : Hp} {d t : Addr} {ns : List Str} {ra : Str → Addr} {rk : Str → List Str} {rv : Str → Str → Int} {o : HO} (T : TabG H d ns ra rk rv) (h : d ≠ t) (k : ∀ x ∈ ns, ra x ≠ t) : TabG (upd H t o) d ns ra rk rv :=
  ⟨by rw [upd_ne h]; exact T.dict, T.nd, fun x hx => by rw [upd_ne (k x hx)]; exact T.row x hx, T.off, T.rnd⟩
/-- what tightened answers -/
def TightAns (H : Hp) (x : V) (rows : List SRow) (l r : Str) (c : Int) (ns : List Str) : Prop :=
  (x = .non ∧ ∀ u, ¬ Sat (rows ++ [(l, r, c)]) u) ∨ ∃ d ra rk rv, x = .ref d ∧ TabG H d ns ra rk rv ∧ Tells ns rk rv (D (rows ++ [(l, r, c)])) ∧ ∃ u, Sat (rows ++ [(l, r, c)]) u
theorem or_fn {P : Program} {w : World} {K : PySem.W.Frag} {mg : Str → Option Value} {base : Heap} {CX : CXT} {k j : Nat} {f : Addr} {fd : FuncData} {ps : List Str} {sp1 sp2 : Sp} (h1 : FnOk P w K mg base CX k f fd ps sp1) (h2 : FnOk P w K mg base CX j f fd ps sp2) (hk : k ≤ j) :
    FnOk P w K mg base CX j f fd ps (fun vs H Q E => sp1 vs H Q E ∨ sp2 vs H Q E) := by
  constructor
  · rintro vs H Q E (h | h)
    · exact h1.len vs H Q E h
    · exact h2.len vs H Q E h
  · rintro A o s H as us vs Q E room env bd vl (h | h)
    · exact h1.run A o s H as us vs Q E (room.mono hk) env bd vl h
    · exact h2.run A o s H as us vs Q E room env bd vl h
section
variable {P : Program} {w : World} {K : PySem.W.Frag} {mg : Str → Option Value} {base : Heap}
/-! ### tightened, both sides in the table -/
def spTight1 : Sp := fun vs H Q _ => ∃ (t : Addr) (l r : Str) (c : Int) (rows : List SRow) (v : Str → Int) (ns : List Str) (ra : Str → Addr) (rk : Str → List Str) (rv : Str → Str → Int), vs = [.ref t, .str l, .str r, .int c] ∧ TabG H t ns ra rk rv ∧ Tells ns rk rv (D rows) ∧ Sat rows v ∧ l ≠ r ∧ ns.length ≤ 250 ∧ (∀ x, Named rows x → x ∈ ns) ∧
  l ∈ ns ∧ r ∈ ns ∧ ∀ H' x, Same H H' → TightAns H' x rows l r c ns → Q x H'
abbrev nTightened : List Str := ["table", "left", "right", "limit", "ahead", "behind", "name", "further", "found", "row", "more"]
theorem scTightened : FnScope nTightened ["table", "left", "right", "limit"] (defScope sTightened) := ⟨rfl, rfl, rfl, by decide +kernel, rfl, by decide +kernel, by decide +kernel⟩
/-- the names that go on from right better -/
def frth (rk : Str → List Str) (rv : Str → Str → Int) (l r : Str) (c : Int) (ys : List Str) : List (Str × Int) := (ys.filter fun y => decide (y ∉ rk l ∨ c + rv r y < rv l y)).map fun y => (y, c + rv r y)
theorem frth_snoc (rk : Str → List Str) (rv : Str → Str → Int) (l r : Str) (c : Int) (ys : List Str) (y : Str) : frth rk rv l r c (ys ++ [y]) = if y ∉ rk l ∨ c + rv r y < rv l y then frth rk rv l r c ys ++ [(y, c + rv r y)] else frth rk rv l r c ys := by
  unfold frth
  rw [List.filter_append, List.map_append]
  by_cases h : y ∉ rk l ∨ c + rv r y < rv l y
  · rw [if_pos h]
    have e : [y].filter (fun y => decide (y ∉ rk l ∨ c + rv r y < rv l y)) = [y] := by
      rw [List.filter_cons]
      exact if_pos (decide_eq_true h)
    rw [e]
    rfl
  · rw [if_neg h]
    have e : [y].filter (fun y => decide (y ∉ rk l ∨ c + rv r y < rv l y)) = [] := by
      rw [List.filter_cons]
      exact if_neg (by rw [decide_eq_true_eq]; exact h)
    rw [e]
    show _ ++ [] = _
    rw [List.append_nil]
theorem frth_len (rk : Str → List Str) (rv : Str → Str → Int) (l r : Str) (c : Int) (ys : List Str) : (frth rk rv l r c ys).length ≤ ys.length := by
  unfold frth
  rw [List.length_map]
  exact List.length_filter_le _ _
/-- the new row of a name, by the greatest values -/
theorem row_new {rows : List SRow} {v : Str → Int} (hv : Sat rows v) {l r : Str} {c : Int} {u : Str → Int} (hu : Sat (rows ++ [(l, r, c)]) u) {ns : List Str} {rk : Str → List Str} {rv : Str → Str → Int} (Te : Tells ns rk rv (D rows)) (hl : l ∈ ns) (hr : r ∈ ns) (hnd : (rk r).Nodup) {x : Str} (hx : x ∈ ns) (y : Str) :
    if l ∈ rk x ∧ (r ∉ rk x ∨ rv x l + c < rv x r) then opt (low (rv x l) (rk x, rv x) (frth rk rv l r c (rk r))).1 (low (rv x l) (rk x, rv x) (frth rk rv l r c (rk r))).2 y = D (rows ++ [(l, r, c)]) x y
    else opt (rk x) (rv x) y = D (rows ++ [(l, r, c)]) x y := by
  have val : ∀ {a b : Str}, a ∈ ns → b ∈ rk a → D rows a b = some (rv a b) := fun {a b} ha hb => by
    rw [← Te a ha b, opt_in hb]
  have has : ∀ {a b : Str} {k : Int}, a ∈ ns → D rows a b = some k → b ∈ rk a ∧ rv a b = k := fun {a b k} ha e => by
    rw [← Te a ha b] at e
    exact opt_some e
  rw [more_d hv hu]
  have nodupF : ((frth rk rv l r c (rk r)).map (·.1)).Nodup := by
    unfold frth
    rw [List.map_map]
    have : ((fun q : Str × Int => q.1) ∘ fun y => (y, c + rv r y)) = id := rfl
    rw [this, List.map_id]
    exact hnd.filter _
  have memF : ∀ m, (y, m) ∈ frth rk rv l r c (rk r) ↔ y ∈ rk r ∧ (y ∉ rk l ∨ c + rv r y < rv l y) ∧ m = c + rv r y := fun m => by
    unfold frth
    rw [List.mem_map]
    constructor
    · rintro ⟨z, hz, e⟩
      obtain ⟨h1, h2⟩ := List.mem_filter.mp hz
      injection e with e1 e2
      subst e1
      exact ⟨h1, of_decide_eq_true h2, e2.symm⟩
    · rintro ⟨h1, h2, rfl⟩
      exact ⟨y, List.mem_filter.mpr ⟨h1, decide_eq_true h2⟩, rfl⟩
  by_cases hc : l ∈ rk x ∧ (r ∉ rk x ∨ rv x l + c < rv x r)
  · rw [if_pos hc]
    obtain ⟨o1, o2⟩ := low_opt (base := rv x l) (frth rk rv l r c (rk r)) (rk x, rv x) nodupF y
    rw [val hx hc.1]
    by_cases hy : y ∈ rk r
    · rw [val hr hy]
      by_cases hf : y ∉ rk l ∨ c + rv r y < rv l y
      · rw [o1 _ ((memF _).mpr ⟨hy, hf, rfl⟩), ← Te x hx y]
        show minO _ (some (rv x l + (c + rv r y))) = minO _ (some (rv x l + c + rv r y))
        rw [Int.add_assoc]
      · have yl : y ∈ rk l := Classical.byContradiction fun z => hf (.inl z)
        have le : rv l y ≤ c + rv r y := by
          have : ¬ c + rv r y < rv l y := fun z => hf (.inr z)
          omega
        rw [o2 fun z => by
          obtain ⟨q, hq, e⟩ := List.mem_map.mp z
          obtain ⟨q1, q2⟩ := q
          have e : q1 = y := e
          subst e
          exact hf ((memF q2).mp hq).2.1]
        obtain ⟨z, ez, lz⟩ := d_tri hv (val hx hc.1) (val hl yl)
        obtain ⟨yx, ev⟩ := has hx ez
        rw [← Te x hx y, opt_in yx]
        show some (rv x y) = some (if rv x l + c + rv r y < rv x y then _ else rv x y)
        rw [if_neg (by omega)]
    · have e : D rows r y = none := by
        rw [← Te r hr y, opt_out hy]
      rw [e, o2 fun z => by
        obtain ⟨q, hq, e⟩ := List.mem_map.mp z
        obtain ⟨q1, q2⟩ := q
        have e : q1 = y := e
        subst e
        exact hy ((memF q2).mp hq).1, ← Te x hx y]
      show opt (rk x) (rv x) y = minO (opt (rk x) (rv x) y) none
      cases opt (rk x) (rv x) y <;> rfl
  · rw [if_neg hc, Te x hx y]
    cases e1 : D rows x l with
    | none =>
      show D rows x y = minO (D rows x y) none
      cases D rows x y <;> rfl
    | some a =>
      obtain ⟨m1, q1⟩ := has hx e1
      have m2 : r ∈ rk x := Classical.byContradiction fun z => hc ⟨m1, .inl z⟩
      have le : ¬ rv x l + c < rv x r := fun z => hc ⟨m1, .inr z⟩
      cases e2 : D rows r y with
      | none =>
        show D rows x y = minO (D rows x y) none
        cases D rows x y <;> rfl
      | some b =>
        obtain ⟨z, ez, lz⟩ := d_tri hv (val hx m2) e2
        rw [ez]
        show some z = some (if a + c + b < z then _ else z)
        rw [if_neg (by omega)]
theorem ok_tight1 {f fL : Addr} {fd fdL : FuncData} (F : Fun K "tightened" "tightened" sTightened f fd) (U : Blt2 mg) (GL : FnOk P w K mg base CX0 1 fL fdL ["row", "base", "further"] spLowered) (kL : PySem.W.keepIn K (.ref fL) = true) (bL : Binds K fdL ["row", "base", "further"] []) (gL : mg "_lowered" = some (.ref fL)) :
    FnOk P w K mg base CX0 2 f fd ["table", "left", "right", "limit"] spTight1 := by
  refine F.ok scTightened (fun vs H Q E h => ?_) (fun cdv A outer s H vs Q E hr h => ?_)
  · obtain ⟨t, l, r, c, rows, v, ns, ra, rk, rv, rfl, _⟩ := h
    rfl
  · obtain ⟨t, l, r, c, rows, v, ns, ra, rk, rv, rfl, TG, Te, hv, nlr, few, hn, hl, hr', q⟩ := h
    have nd := scTightened.nd
    have hu := hu_of hr
    refine ⟨_, pss_cons (ps_if (PW.pt (pw_or (pt_cmp (pc_dnotin hu (pv 1) (pv 0))) (pw_or1 (pt_cmp (pc_dnotin hu (pv 2) (pv 0)))))) (pss_one ps_never) pss_nil)
      (pss_cons (ps_set (i := 4) nd rfl (.inr rfl) (pe_dget hu (pv 0) (pv 1) (fun _ _ => rfl)))
      (pss_cons (ps_set (i := 5) nd rfl (.inl rfl) (pe_dget hu (pv 0) (pv 2) (fun _ _ => rfl)))
      (C8.pss_cut (ps_if (PW.pt (pw_and (pt_cmp (pc_din hu (pv 2) (pv 4))) (pw_and1 (pt_cmpR op_le (pe_dget hu (pv 4) (pv 2) (fun _ _ => rfl)) (pv 3) (nomark _))))) (pss_one (ps_ret (pv 0))) pss_nil)
      (C8.pss_cut (ps_if (PW.pt (pw_and (pt_cmp (pc_din hu (pv 1) (pv 5))) (pw_and1 (pt_cmpR op_lt (pe_op op_add (pe_dget hu (pv 5) (pv 1) (fun _ _ => rfl)) (pv 3)) pe_int (nomark _))))) (pss_one (ps_ret pe_non)) pss_nil)
      (pss_cons (ps_lock (ps_setLc (i := 7) (own := [("name", 6), ("more", 10)]) (g := gTup K 2 (gCons (gName 6) (gCons (gName 10) gNil))) rfl nd rfl rfl (sw_true rfl rfl rfl (by decide +kernel)) (pi_items (pv 5)) (blkOk_by (N := nTightened) (sc := defScope sTightened) (by decide +kernel))
        (fun _ _ _ _ _ => pg_tup rfl (pgs_cons (pg_name (i := 6) nd rfl (.inl rfl)) (pgs_cons (pg_name (i := 10) nd rfl (.inl rfl)) pgs_nil)))
        (fun _ _ _ _ _ => pts_one (PW.pt (pw_or (pt_cmp (pc_dnotin hu (pv 6) (pv 4))) (pw_or1 (pt_cmpR op_lt (pe_op op_add (pv 3) (pv 10)) (pe_dget hu (pv 4) (pv 6) (fun _ _ => rfl)) (nomark _))))))
        (fun _ _ _ _ _ => pe_tup (pa_cons (pv 6) (pa_cons (pe_op op_add (pv 3) (pv 10)) pa_nil)))))
      (pss_cons (ps_set (i := 8) nd rfl (.inl rfl) (pe_callTy call_dictD (by rfl) U.dict PyProof.Rows.boot_dict (pa_cons (pv 0) pa_nil)))
      (pss_cons (ps_lock (ps_for PassesOwn.never rfl (pi_items (pv 0)) (pg_tup rfl (pgs_cons (pg_name (i := 6) nd rfl (.inl rfl)) (pgs_cons (pg_name (i := 9) nd rfl (.inl rfl)) pgs_nil)))
        (pss_one (ps_if (PW.pt (pw_and (pt_cmp (pc_din hu (pv 1) (pv 9))) (pw_and1 (PW.pt (pw_or (pt_cmp (pc_dnotin hu (pv 2) (pv 9))) (pw_or1 (pt_cmpR op_lt (pe_op op_add (pe_dget hu (pv 9) (pv 1) (fun _ _ => rfl)) (pv 3)) (pe_dget hu (pv 9) (pv 2) (fun _ _ => rfl)) (nomark _))))))))
          (pss_one (ps_dput hu (pv 8) (pv 6) (pe_call GL hr (by rfl) gL kL bL .nil pass0 (pa_cons (pv 9) (pa_cons (pe_dget hu (pv 9) (pv 1) (fun _ _ => rfl)) (pa_cons (pv 7) pa_nil)))) rfl)) pss_nil))))
      (pss_one (ps_ret (pv 8)))))))))), ?_⟩
    have al : D rows l l = some 0 := d_self hv l
    have val : ∀ {a b : Str}, a ∈ ns → b ∈ rk a → D rows a b = some (rv a b) := fun {a b} ha hb => by
      rw [← Te a ha b, opt_in hb]
    have kf : ∀ {x : Str}, x ∈ ns → (rk x).length ≤ 250 := fun {x} hx => Nat.le_trans (keys_few hv Te hn hx (TG.rnd x hx)) few
    have hL := TG.row l hl
    have hR := TG.row r hr'
    refine ⟨.str l, rfl, .ref t, rfl, t, _, rfl, dget TG.dict hl, _, rfl, iteF ?_⟩
    refine ⟨.str r, rfl, .ref t, rfl, t, _, rfl, dget TG.dict hr', _, rfl, iteF ?_⟩
    refine ⟨.ref t, rfl, .str l, rfl, t, _, rfl, dget TG.dict hl, ?_⟩
    refine ⟨.ref t, rfl, .str r, rfl, t, _, rfl, dget TG.dict hr', ?_⟩
    refine ⟨fun σ' H' => σ' = [some (.ref t), some (.str l), some (.str r), some (.int c), some (.ref (ra l)), some (.ref (ra r)), none, none, none, none, none] ∧ H' = H, ?_, ?_⟩
    · by_cases m : r ∈ rk l
      · refine ⟨.str r, rfl, .ref (ra l), rfl, ra l, _, rfl, dget hL m, _, rfl, iteT ⟨.ref (ra l), rfl, .str r, rfl, ra l, _, rfl, dget hL m, .int c, rfl, _, _, rfl, rfl, _, rfl, ite2 (fun e => ?_) (fun _ => ⟨rfl, rfl⟩)⟩⟩
        have hle : rv l r ≤ c := of_decide_eq_true e
        have td : Told rows l r c := told_le (d_told hv (val hl m)) hle
        refine ⟨.ref t, rfl, q H _ (Same.refl H) (.inr ⟨t, ra, rk, rv, rfl, TG, fun x hx y => ?_, v, (more_told hv td l l).1⟩)⟩
        rw [Te x hx y, (more_told hv td x y).2]
      · exact ⟨.str r, rfl, .ref (ra l), rfl, ra l, _, rfl, dget0 hL m, _, rfl, iteF ⟨rfl, rfl⟩⟩
    rintro σ1 H1 ⟨rfl, rfl⟩
    refine ⟨fun σ' H' => σ' = [some (.ref t), some (.str l), some (.str r), some (.int c), some (.ref (ra l)), some (.ref (ra r)), none, none, none, none, none] ∧ H' = H1 ∧ ∀ b, D rows r l = some b → 0 ≤ b + c, ?_, ?_⟩
    · by_cases m : l ∈ rk r
      · refine ⟨.str l, rfl, .ref (ra r), rfl, ra r, _, rfl, dget hR m, _, rfl, iteT ⟨.ref (ra r), rfl, .str l, rfl, ra r, _, rfl, dget hR m, .int c, rfl, _, _, rfl, rfl, _, _, rfl, rfl, _, rfl, ite2 (fun e => ?_) (fun e => ?_)⟩⟩
        · have hlt : rv r l + c < 0 := of_decide_eq_true e
          exact q H1 _ (Same.refl H1) (.inl ⟨rfl, more_none hv (val hr' m) hlt⟩)
        · have hge : ¬ rv r l + c < 0 := fun z => e (decide_eq_true z)
          refine ⟨rfl, rfl, fun b eb => ?_⟩
          rw [val hr' m] at eb
          injection eb with eb
          omega
      · refine ⟨.str l, rfl, .ref (ra r), rfl, ra r, _, rfl, dget0 hR m, _, rfl, iteF ⟨rfl, rfl, fun b eb => ?_⟩⟩
        rw [← Te r hr' l, opt_out m] at eb
        cases eb
    rintro σ1 H2 ⟨rfl, rfl, nn⟩
    obtain ⟨u, hu'⟩ := more_sat hv nn
    have rn := fun (x : Str) (hx : x ∈ ns) (y : Str) => row_new hv hu' Te hl hr' (TG.rnd r hr') hx y
    -- further
    refine ⟨ra r, _, hR, trivial, fun od => ?_⟩
    refine ⟨.ref (ra r), rfl, ra r, od, _, rfl, upd_same, fun L nL => ?_⟩
    have nLr : ra r ≠ L := fun e => by
      rw [← e, upd_same] at nL
      cases nL
    have nL2 : H2 L = none := by
      rw [upd_ne nLr.symm] at nL
      exact nL
    have rdL : ∀ {H' : Hp}, SameX (ra r) H2 H' → H' (ra r) = some (.frz od (.dK (dS (rk r) fun y => .int (rv r y)))) → Rd H' (ra l) (.dK (dS (rk l) fun y => .int (rv l y))) := fun {H'} sx hf => by
      by_cases e : ra l = ra r
      · have z := hL
        rw [e, hR] at z
        injection z with z
        rw [e]
        exact .inr ⟨od, z ▸ hf⟩
      · exact .inl (sx _ _ e hL)
    refine lc_it walk_items (fun i H' => SameX (ra r) H2 H' ∧ H' (ra r) = some (.frz od (.dK (dS (rk r) fun y => .int (rv r y)))) ∧ Prs H' L (frth rk rv l r c ((rk r).take i)))
      ⟨fun b o hb e => by rw [upd_ne (ne_of_none e nL2), upd_ne hb]; exact e, by rw [upd_ne nLr]; exact upd_same, [], upd_same, rfl, fun i q r h => (nomatch h)⟩ (fun i H' _ h => h.2.1) ?_ ?_
    · rintro i z H6 H7 hi ⟨s6, hd6, qs, hL6, hql, hqs⟩ ⟨tp, x1, x2, rfl, ntp, rfl, e1, e2⟩
      have hi' : i < (rk r).length := by
        rw [dS_len] at hi
        exact hi
      dsimp only at e1 e2
      rw [dS_at hi'] at e1 e2
      obtain rfl := Option.some.inj e1
      obtain rfl := Option.some.inj e2
      have sT := same_upd (o := HO.tup [kV (Sum.inr (rk r)[i]), V.int (rv r (rk r)[i])]) ntp
      have etake : (rk r).take (i + 1) = (rk r).take i ++ [(rk r)[i]] := by rw [List.take_add_one, List.getElem?_eq_getElem hi']; rfl
      have s67 := s6.trans (same_x sT)
      have hd7 := sT _ _ hd6
      have hL7 := sT _ _ hL6
      have hqs7 : ∀ (i : Nat) (q : Addr) (r : Str × Int), qs[i]? = some q → _ := fun i q r h h' => sT _ _ (hqs i q r h h')
      have rl7 := rdL s67 hd7
      have kr := kf hr'
      have flen := frth_len rk rv l r c ((rk r).take i)
      rw [List.length_take] at flen
      refine ⟨tp, _, rfl, SqT.of upd_same, rfl, _, _, rfl, _, _, rfl, rfl, rfl, ?_⟩
      generalize upd H6 tp (.tup [kV (Sum.inr (rk r)[i]), V.int (rv r (rk r)[i])]) = H7 at s67 hd7 hL7 hqs7 rl7 ⊢
      rw [etake, frth_snoc]
      generalize (rk r)[i] = y at *
      have fin : (y ∉ rk l ∨ c + rv r y < rv l y) → ∀ (tq : Addr), H7 tq = none → ∃ acc, upd H7 tq (.tup [.str y, .int (c + rv r y)]) L = some (.lst acc) ∧ acc.length < sizeLine ∧ SameX (ra r) H2 (upd (upd H7 tq (.tup [.str y, .int (c + rv r y)])) L (.lst (acc ++ [.ref tq]))) ∧
          upd (upd H7 tq (.tup [.str y, .int (c + rv r y)])) L (.lst (acc ++ [.ref tq])) (ra r) = some (.frz od (.dK (dS (rk r) fun y => .int (rv r y)))) ∧ Prs (upd (upd H7 tq (.tup [.str y, .int (c + rv r y)])) L (.lst (acc ++ [.ref tq]))) L (if y ∉ rk l ∨ c + rv r y < rv l y then frth rk rv l r c ((rk r).take i) ++ [(y, c + rv r y)] else frth rk rv l r c ((rk r).take i)) := by
        intro hc tq ntq
        have sQ := same_upd (o := HO.tup [V.str y, V.int (c + rv r y)]) ntq
        have nqL : tq ≠ L := fun e => by
          rw [e, hL7] at ntq
          cases ntq
        refine ⟨_, sQ _ _ hL7, ?_, fun b o hb e => ?_, ?_, ?_⟩
        · rw [List.length_map, hql]
          exact small1000 (by omega)
        · rw [upd_ne (ne_of_none e nL2)]
          exact sQ _ _ (s67 b o hb e)
        · rw [upd_ne nLr]
          exact sQ _ _ hd7
        · rw [if_pos hc]
          refine ⟨qs ++ [tq], by rw [upd_same, List.map_append]; rfl, by rw [List.length_append, List.length_append, hql]; rfl, fun j p q hp hq => ?_⟩
          by_cases k : j < qs.length
          · rw [List.getElem?_append_left k] at hp
            rw [List.getElem?_append_left (by omega)] at hq
            have z := sQ _ _ (hqs7 j p q hp hq)
            rw [upd_ne (ne_of z (sQ _ _ hL7) (by intro w; cases w))]
            exact z
          · have hj := (List.getElem?_eq_some_iff.mp hp).1
            rw [List.length_append, List.length_singleton] at hj
            have ej : j = qs.length := by omega
            subst ej
            rw [List.getElem?_append_right (Nat.le_refl _), Nat.sub_self] at hp
            rw [List.getElem?_append_right (by omega), hql, Nat.sub_self] at hq
            obtain rfl : tq = p := Option.some.inj hp
            obtain rfl : (y, c + rv r y) = q := Option.some.inj hq
            rw [upd_ne nqL, upd_same]
      by_cases hy : y ∈ rk l
      · refine ⟨.str y, rfl, .ref (ra l), rfl, ra l, _, rfl, rget rl7 hy, _, rfl, iteF ?_⟩
        refine ⟨.int c, rfl, .int (rv r y), rfl, _, _, rfl, rfl, .ref (ra l), rfl, .str y, rfl, ra l, _, rfl, rget rl7 hy, _, _, rfl, rfl, _, rfl, ite2 (fun e => ?_) (fun e => ?_)⟩
        · exact ⟨.str y, rfl, .int c, rfl, .int (rv r y), rfl, _, _, rfl, rfl, by show 2 ≤ sizeLine; decide, fin (.inr (of_decide_eq_true e))⟩
        · have hge : ¬ c + rv r y < rv l y := fun z => e (decide_eq_true z)
          refine ⟨s67, hd7, ?_⟩
          rw [if_neg fun z => z.elim (fun w => w hy) hge]
          exact ⟨qs, hL7, hql, hqs7⟩
      · refine ⟨.str y, rfl, .ref (ra l), rfl, ra l, _, rfl, rget0 rl7 hy, _, rfl, iteT (iteT ?_)⟩
        exact ⟨.str y, rfl, .int c, rfl, .int (rv r y), rfl, _, _, rfl, rfl, by show 2 ≤ sizeLine; decide, fin (.inl hy)⟩
    rintro H6 ⟨s6, hd6, hP6⟩
    refine ⟨hd6, ?_⟩
    have s8 : Same H2 (upd H6 (ra r) (.dK (dS (rk r) fun y => .int (rv r y)))) := sameX_back hR s6
    have hP8 : Prs (upd H6 (ra r) (.dK (dS (rk r) fun y => .int (rv r y)))) L (frth rk rv l r c (rk r)) := by
      have z := hP6
      rw [dS_len, List.take_length] at z
      exact z.unfrz hd6
    generalize upd H6 (ra r) (.dK (dS (rk r) fun y => .int (rv r y))) = H8 at s8 hP8 ⊢
    have T8 := TG.same s8
    -- found
    refine ⟨.ref t, rfl, t, _, rfl, Rd.of T8.dict, fun d nd' => ?_⟩
    have s9 := same_upd (o := HO.dK (dS ns fun x => V.ref (ra x))) nd'
    have T9 : TabG (upd H8 d (.dK (dS ns fun x => .ref (ra x)))) d ns ra rk rv := ⟨upd_same, TG.nd, fun x hx => s9 _ _ (T8.row x hx), fun x hx e => (by
      have z := T8.row x hx
      rw [e, nd'] at z
      exact nomatch z), TG.rnd⟩
    have ndt : d ≠ t := fun e => by
      rw [e, T8.dict] at nd'
      cases nd'
    have ht9 := s9 _ _ T8.dict
    refine ⟨t, _, ht9, trivial, fun od2 => ?_⟩
    refine ⟨.ref t, rfl, t, od2, _, rfl, upd_same, for_it walk_items (fun i σ H' => ∃ (y6 y9 : Option V) (ra' : Str → Addr) (rk' : Str → List Str) (rv' : Str → Str → Int), σ = [some (.ref t), some (.str l), some (.str r), some (.int c), some (.ref (ra l)), some (.ref (ra r)), y6, some (.ref L), some (.ref d), y9, none] ∧ SameX t H8 H' ∧
        H' t = some (.frz od2 (.dK (dS ns fun x => .ref (ra x)))) ∧ TabG H' d ns ra' rk' rv' ∧ (∀ x ∈ ns.take i, ∀ y, opt (rk' x) (rv' x) y = D (rows ++ [(l, r, c)]) x y) ∧ (∀ x ∈ ns.drop i, rk' x = rk x ∧ rv' x = rv x))
      ⟨none, none, ra, rk, rv, rfl, fun b o hb e => by rw [upd_ne hb]; exact s9 _ _ e, upd_same, T9.aside ndt TG.off, fun x h => absurd h List.not_mem_nil, fun x _ => ⟨rfl, rfl⟩⟩
      (fun i σ H' _ ⟨_, _, _, _, _, _, _, e, _⟩ => e) ?_ ?_⟩
    · rintro i z σ H10 H11 hi ⟨y6, y9, ra', rk', rv', rfl, s10, ht10, T10, done, todo⟩ ⟨tp, x1, x2, rfl, ntp, rfl, e1, e2⟩
      have hi' : i < ns.length := by
        rw [dS_len] at hi
        exact hi
      dsimp only at e1 e2
      rw [dS_at hi'] at e1 e2
      obtain rfl := Option.some.inj e1
      obtain rfl := Option.some.inj e2
      have hx : ns[i] ∈ ns := List.getElem_mem hi'
      have sT := same_upd (o := HO.tup [kV (Sum.inr ns[i]), V.ref (ra ns[i])]) ntp
      have etake : ns.take (i + 1) = ns.take i ++ [ns[i]] := by rw [List.take_add_one, List.getElem?_eq_getElem hi']; rfl
      have edrop : ns.drop i = ns[i] :: ns.drop (i + 1) := List.drop_eq_getElem_cons hi'
      have split : ns = ns.take i ++ ns[i] :: ns.drop (i + 1) := by rw [← edrop, List.take_append_drop]
      have nn := TG.nd
      rw [split] at nn
      obtain ⟨_, n2, n3⟩ := List.nodup_append.mp nn
      obtain ⟨n4, _⟩ := List.nodup_cons.mp n2
      have s11 := s10.trans (same_x sT)
      have ht11 := sT _ _ ht10
      have T11 := T10.same sT
      refine ⟨tp, _, rfl, SqT.of upd_same, rfl, _, _, rfl, _, _, rfl, rfl, ?_⟩
      generalize upd H10 tp (.tup [kV (Sum.inr ns[i]), V.ref (ra ns[i])]) = H11 at s11 ht11 T11 ⊢
      rw [edrop] at todo
      rw [etake]
      generalize ns[i] = x at *
      have hrow := s11 _ _ (TG.off x hx) (T8.row x hx)
      have rnx := fun y => rn x hx y
      have kr := kf hr'
      have kx := kf hx
      -- nothing to lower
      have stay : ¬ (l ∈ rk x ∧ (r ∉ rk x ∨ rv x l + c < rv x r)) → ∀ (z6 z9 : Option V), ∃ (y6 y9 : Option V) (ra' : Str → Addr) (rk' : Str → List Str) (rv' : Str → Str → Int), [some (V.ref t), some (.str l), some (.str r), some (.int c), some (.ref (ra l)), some (.ref (ra r)), z6, some (.ref L), some (.ref d), z9, none] = [some (V.ref t), some (.str l), some (.str r), some (.int c), some (.ref (ra l)), some (.ref (ra r)), y6, some (.ref L), some (.ref d), y9, none] ∧ SameX t H8 H11 ∧
          H11 t = some (.frz od2 (.dK (dS ns fun x => .ref (ra x)))) ∧ TabG H11 d ns ra' rk' rv' ∧ (∀ w ∈ ns.take i ++ [x], ∀ y, opt (rk' w) (rv' w) y = D (rows ++ [(l, r, c)]) w y) ∧ (∀ w ∈ ns.drop (i + 1), rk' w = rk w ∧ rv' w = rv w) := fun hc z6 z9 => by
        refine ⟨z6, z9, ra', rk', rv', rfl, s11, ht11, T11, fun w hw y => ?_, fun w hw => todo w (List.mem_cons_of_mem _ hw)⟩
        rcases List.mem_append.mp hw with m | m
        · exact done w m y
        · rw [List.mem_singleton] at m
          subst m
          obtain ⟨q1, q2⟩ := todo w List.mem_cons_self
          rw [q1, q2]
          have := rnx y
          rw [if_neg hc] at this
          exact this
      -- a row is lowered
      have lowr : (l ∈ rk x ∧ (r ∉ rk x ∨ rv x l + c < rv x r)) → ∀ (z6 z9 : Option V) (H12 : Hp) (z : Addr), Same H11 H12 → H11 z = none → H12 z = some (.dK (dS (low (rv x l) (rk x, rv x) (frth rk rv l r c (rk r))).1 fun y => .int ((low (rv x l) (rk x, rv x) (frth rk rv l r c (rk r))).2 y))) →
          ∃ (y6 y9 : Option V) (ra1 : Str → Addr) (rk1 : Str → List Str) (rv1 : Str → Str → Int), [some (V.ref t), some (.str l), some (.str r), some (.int c), some (.ref (ra l)), some (.ref (ra r)), z6, some (.ref L), some (.ref d), z9, none] = [some (V.ref t), some (.str l), some (.str r), some (.int c), some (.ref (ra l)), some (.ref (ra r)), y6, some (.ref L), some (.ref d), y9, none] ∧
          SameX t H8 (upd H12 d (.dK (dS (addN ns x) (put (fun x => V.ref (ra' x)) x (.ref z))))) ∧ upd H12 d (.dK (dS (addN ns x) (put (fun x => V.ref (ra' x)) x (.ref z)))) t = some (.frz od2 (.dK (dS ns fun x => .ref (ra x)))) ∧ TabG (upd H12 d (.dK (dS (addN ns x) (put (fun x => V.ref (ra' x)) x (.ref z))))) d ns ra1 rk1 rv1 ∧
          (∀ w ∈ ns.take i ++ [x], ∀ y, opt (rk1 w) (rv1 w) y = D (rows ++ [(l, r, c)]) w y) ∧ (∀ w ∈ ns.drop (i + 1), rk1 w = rk w ∧ rv1 w = rv w) := fun hc z6 z9 H12 z s12 nz hz => by
        have nzd : z ≠ d := fun e => by
          rw [e, T11.dict] at nz
          cases nz
        have ndk : (low (rv x l) (rk x, rv x) (frth rk rv l r c (rk r))).1.Nodup := low_nd _ _ (TG.rnd x hx)
        have T13 := (T11.same s12).put (x := x) hz nzd ndk
        have ead : addN ns x = ns := if_pos hx
        rw [ead] at T13
        rw [ead]
        refine ⟨z6, z9, _, _, _, rfl, fun b o hb e => ?_, ?_, T13, fun w hw y => ?_, fun w hw => ?_⟩
        · rw [upd_ne (ne_of_none e nd')]
          exact s12 _ _ (s11 b o hb e)
        · rw [upd_ne ndt.symm]
          exact s12 _ _ ht11
        · rcases List.mem_append.mp hw with m | m
          · have nw : w ≠ x := fun e => n3 w m x List.mem_cons_self e
            rw [put_off nw, put_off nw]
            exact done w m y
          · rw [List.mem_singleton] at m
            rw [m, put_at, put_at]
            have := rnx y
            rw [if_pos hc] at this
            exact this
        · have nw : w ≠ x := fun e => n4 (e ▸ hw)
          rw [put_off nw, put_off nw]
          exact todo w (List.mem_cons_of_mem _ hw)
      have hP11 : Prs H11 L (frth rk rv l r c (rk r)) := by
        obtain ⟨qs, h1, h2, h3⟩ := hP8
        refine ⟨qs, s11 _ _ (ne_of h1 T8.dict (by intro z; cases z)) h1, h2, fun j p q hp hq => ?_⟩
        have z := h3 j p q hp hq
        exact s11 _ _ (ne_of z T8.dict (by intro z; cases z)) z
      have flen := frth_len rk rv l r c (rk r)
      by_cases ml : l ∈ rk x
      · refine ⟨.str l, rfl, .ref (ra x), rfl, ra x, _, rfl, dget hrow ml, _, rfl, iteT ?_⟩
        by_cases mr : r ∈ rk x
        · refine ⟨.str r, rfl, .ref (ra x), rfl, ra x, _, rfl, dget hrow mr, _, rfl, iteF ?_⟩
          refine ⟨.ref (ra x), rfl, .str l, rfl, ra x, _, rfl, dget hrow ml, .int c, rfl, _, _, rfl, rfl, .ref (ra x), rfl, .str r, rfl, ra x, _, rfl, dget hrow mr, _, _, rfl, rfl, _, rfl, ite2 (fun e => ?_) (fun e => ?_)⟩
          · have hc : l ∈ rk x ∧ (r ∉ rk x ∨ rv x l + c < rv x r) := ⟨ml, .inr (of_decide_eq_true e)⟩
            refine ⟨.ref (ra x), rfl, .ref (ra x), rfl, .str l, rfl, ra x, _, rfl, dget hrow ml, .ref L, rfl, ra x, L, _, _, _, _, rfl, hrow, hP11, by omega, by omega, fun H12 z s12 nz hz => ?_⟩
            exact ⟨.ref d, rfl, .str x, rfl, d, _, rfl, dput x (.ref z) (s12 _ _ T11.dict) (by omega), lowr hc _ _ H12 z s12 nz hz⟩
          · exact stay (fun hc => hc.2.elim (fun w => w mr) fun w => e (decide_eq_true w)) _ _
        · have hc : l ∈ rk x ∧ (r ∉ rk x ∨ rv x l + c < rv x r) := ⟨ml, .inl mr⟩
          refine ⟨.str r, rfl, .ref (ra x), rfl, ra x, _, rfl, dget0 hrow mr, _, rfl, iteT (iteT ?_)⟩
          refine ⟨.ref (ra x), rfl, .ref (ra x), rfl, .str l, rfl, ra x, _, rfl, dget hrow ml, .ref L, rfl, ra x, L, _, _, _, _, rfl, hrow, hP11, by omega, by omega, fun H12 z s12 nz hz => ?_⟩
          exact ⟨.ref d, rfl, .str x, rfl, d, _, rfl, dput x (.ref z) (s12 _ _ T11.dict) (by omega), lowr hc _ _ H12 z s12 nz hz⟩
      · exact ⟨.str l, rfl, .ref (ra x), rfl, ra x, _, rfl, dget0 hrow ml, _, rfl, iteF (stay (fun hc => ml hc.1) _ _)⟩
    · rintro σ H10 ⟨y6, y9, ra', rk', rv', rfl, s10, ht10, T10, done, todo⟩
      refine ⟨ht10, ?_⟩
      rw [dS_len, List.take_length] at done
      have nrt : ∀ x ∈ ns, ra' x ≠ t := fun x hx e => by
        have z := T10.row x hx
        rw [e, ht10] at z
        cases z
      have s12 : Same H8 (upd H10 t (.dK (dS ns fun x => .ref (ra x)))) := sameX_back T8.dict s10
      refine ⟨.ref d, rfl, q _ _ (s8.trans s12) (.inr ⟨d, ra', rk', rv', rfl, T10.aside ndt nrt, done, u, hu'⟩)⟩
end
end Lo
namespace Lo
open PySem L2
section
variable {P : Program} {w : World} {K : PySem.W.Frag} {mg : Str → Option Value} {base : Heap}
/-! ### tightened -/
def spTightA (sp1 : Sp) : Sp := sp1
/-- a side is not in the table -/
def spTight0 : Sp := fun vs H Q _ => ∃ (t : Addr) (l r : Str) (c : Int) (rows : List SRow) (v : Str → Int) (ns : List Str) (ra : Str → Addr) (rk : Str → List Str) (rv : Str → Str → Int), vs = [.ref t, .str l, .str r, .int c] ∧ TabG H t ns ra rk rv ∧ Tells ns rk rv (D rows) ∧ Sat rows v ∧ l ≠ r ∧ ns.length ≤ 240 ∧ (∀ x, Named rows x → x ∈ ns) ∧
  (l ∉ ns ∨ r ∉ ns) ∧ ∀ H' x ns', Same H H' → (∀ x ∈ ns, x ∈ ns') → l ∈ ns' → r ∈ ns' → (∀ x ∈ ns', x ∈ ns ∨ x = l ∨ x = r) → TightAns H' x rows l r c ns' → Q x H'
theorem ok_tight0 {f fW : Addr} {fd fdW : FuncData} (F : Fun K "tightened" "tightened" sTightened f fd) (bF : Binds K fd ["table", "left", "right", "limit"] []) (gF : mg "tightened" = some (.ref f)) (G1 : FnOk P w K mg base CX0 2 f fd ["table", "left", "right", "limit"] spTight1)
    (GW : FnOk P w K mg base CX0 1 fW fdW ["table", "left", "right"] spWithRows) (kW : PySem.W.keepIn K (.ref fW) = true) (bW : Binds K fdW ["table", "left", "right"] []) (gW : mg "_with_rows" = some (.ref fW)) :
    FnOk P w K mg base CX0 3 f fd ["table", "left", "right", "limit"] spTight0 := by
  refine F.ok scTightened (fun vs H Q E h => ?_) (fun cdv A outer s H vs Q E hr h => ?_)
  · obtain ⟨t, l, r, c, rows, v, ns, ra, rk, rv, rfl, _⟩ := h
    rfl
  · obtain ⟨t, l, r, c, rows, v, ns, ra, rk, rv, rfl, TG, Te, hv, nlr, few, hn, out, q⟩ := h
    have nd := scTightened.nd
    have hu := hu_of hr
    refine ⟨_, pss_cons (ps_if (PW.pt (pw_or (pt_cmp (pc_dnotin hu (pv 1) (pv 0))) (pw_or1 (pt_cmp (pc_dnotin hu (pv 2) (pv 0))))))
        (pss_one (ps_ret (pe_call G1 hr (by rfl) gF F.kp bF .nil pass0 (pa_cons (pe_call GW (hr.mono (by decide)) (by rfl) gW kW bW .nil pass0 (pa_cons (pv 0) (pa_cons (pv 1) (pa_cons (pv 2) pa_nil)))) (pa_cons (pv 1) (pa_cons (pv 2) (pa_cons (pv 3) pa_nil))))))) pss_nil) pss_never, ?_⟩
    have call : (tCall spTight1 [] E0 (tCons (tCall spWithRows [] E0 (tCons (tVar 0) (tCons (tVar 1) (tCons (tVar 2) tNil)))) (tCons (tVar 1) (tCons (tVar 2) (tCons (tVar 3) tNil))))) [some (V.ref t), some (V.str l), some (V.str r), some (V.int c), none, none, none, none, none, none, none] H Q := by
      refine ⟨.ref t, rfl, .str l, rfl, .str r, rfl, t, l, r, rows, v, ns, ra, rk, rv, rfl, TG, Te, hv, nlr, by omega, hn, fun H1 d ns' ra' rk' rv' s1 _ T1 Te1 sub ml mr only => ?_⟩
      have len : ns'.length ≤ 250 := by
        have := nodup_le ns' (ns ++ [l, r]) T1.nd fun x hx => by
          rcases only x hx with h | h | h
          · exact List.mem_append_left _ h
          · exact List.mem_append_right _ (h ▸ List.mem_cons_self)
          · exact List.mem_append_right _ (h ▸ List.mem_cons_of_mem _ List.mem_cons_self)
        rw [List.length_append] at this
        have e : ([l, r] : List Str).length = 2 := rfl
        omega
      refine ⟨.str l, rfl, .str r, rfl, .int c, rfl, d, l, r, c, rows, v, ns', ra', rk', rv', rfl, T1, Te1, hv, nlr, len, fun x hx => sub x (hn x hx), ml, mr, fun H2 x s2 hA => q H2 x ns' (s1.trans s2) sub ml mr only hA⟩
    by_cases m : l ∈ ns
    · have mr : r ∉ ns := out.resolve_left fun z => z m
      exact ⟨.str l, rfl, .ref t, rfl, t, _, rfl, dget TG.dict m, _, rfl, iteF ⟨.str r, rfl, .ref t, rfl, t, _, rfl, dget0 TG.dict mr, _, rfl, iteT call⟩⟩
    · exact ⟨.str l, rfl, .ref t, rfl, t, _, rfl, dget0 TG.dict m, _, rfl, iteT (iteT call)⟩
/-- in all -/
def spTight' : Sp := fun vs H Q _ => ∃ (t : Addr) (l r : Str) (c : Int) (rows : List SRow) (v : Str → Int) (ns : List Str) (ra : Str → Addr) (rk : Str → List Str) (rv : Str → Str → Int), vs = [.ref t, .str l, .str r, .int c] ∧ TabG H t ns ra rk rv ∧ Tells ns rk rv (D rows) ∧ Sat rows v ∧ l ≠ r ∧ ns.length ≤ 240 ∧ (∀ x, Named rows x → x ∈ ns) ∧
  ∀ H' x ns', Same H H' → (∀ x ∈ ns, x ∈ ns') → l ∈ ns' → r ∈ ns' → (∀ x ∈ ns', x ∈ ns ∨ x = l ∨ x = r) → TightAns H' x rows l r c ns' → Q x H'
theorem ok_tightened {f : Addr} {fd : FuncData} (G1 : FnOk P w K mg base CX0 2 f fd ["table", "left", "right", "limit"] spTight1) (G0 : FnOk P w K mg base CX0 3 f fd ["table", "left", "right", "limit"] spTight0) : FnOk P w K mg base CX0 3 f fd ["table", "left", "right", "limit"] spTight' := by
  refine (or_fn G1 G0 (by decide)).imp fun vs H Q E h => ?_
  obtain ⟨t, l, r, c, rows, v, ns, ra, rk, rv, rfl, TG, Te, hv, nlr, few, hn, q⟩ := h
  by_cases m : l ∈ ns ∧ r ∈ ns
  · exact .inl ⟨t, l, r, c, rows, v, ns, ra, rk, rv, rfl, TG, Te, hv, nlr, by omega, hn, m.1, m.2, fun H' x s hA => q H' x ns s (fun x h => h) m.1 m.2 (fun x h => .inl h) hA⟩
  · refine .inr ⟨t, l, r, c, rows, v, ns, ra, rk, rv, rfl, TG, Te, hv, nlr, few, hn, ?_, q⟩
    by_cases ml : l ∈ ns
    · exact .inr fun mr => m ⟨ml, mr⟩
    · exact .inl ml
/-! ### table_of -/
/-- the table of a system -/
structure TabOf (H : Hp) (t : Addr) (rows : List SRow) (ns : List Str) (ra : Str → Addr) (rk : Str → List Str) (rv : Str → Str → Int) : Prop where
  G : TabG H t ns ra rk rv
  T : Tells ns rk rv (D rows)
  names : ∀ x, x ∈ ns ↔ Named rows x
def spTableOf : Sp := fun vs H Q _ => ∃ (a : Addr) (rows : List SRow), vs = [.ref a] ∧ Sys RowT H a rows ∧ Good rows ∧
  ∀ H' x, Same H H' → ((x = .non ∧ ∀ u, ¬ Sat rows u) ∨ ∃ t ns ra rk rv, x = .ref t ∧ TabOf H' t rows ns ra rk rv ∧ ∃ v, Sat rows v) → Q x H'
abbrev nTableOf : List Str := ["differences", "table", "left", "right", "limit"]
theorem scTableOf : FnScope nTableOf ["differences"] (defScope sTableOf) := ⟨rfl, rfl, rfl, by decide +kernel, rfl, by decide +kernel, by decide +kernel⟩
theorem ok_tableof {f fT : Addr} {fd fdT : FuncData} (F : Fun K "table_of" "table_of" sTableOf f fd) (GT : FnOk P w K mg base CX0 3 fT fdT ["table", "left", "right", "limit"] spTight') (kT : PySem.W.keepIn K (.ref fT) = true) (bT : Binds K fdT ["table", "left", "right", "limit"] []) (gT : mg "tightened" = some (.ref fT)) :
    FnOk P w K mg base CX0 4 f fd ["differences"] spTableOf := by
  refine F.ok scTableOf (fun vs H Q E h => ?_) (fun cdv A outer s H vs Q E hr h => ?_)
  · obtain ⟨a, rows, rfl, _⟩ := h
    rfl
  · obtain ⟨a, rows, rfl, ⟨ps, hA, hl, hat⟩, g, q⟩ := h
    have nd := scTableOf.nd
    refine ⟨_, pss_cons (ps_set (i := 1) nd rfl (.inl rfl) pe_dnewK)
      (pss_cons (ps_for PassesOwn.never rfl (pi_list (pv 0)) (pg_tup rfl (pgs_cons (pg_name (i := 2) nd rfl (.inl rfl)) (pgs_cons (pg_name (i := 3) nd rfl (.inl rfl)) (pgs_cons (pg_name (i := 4) nd rfl (.inl rfl)) pgs_nil))))
        (pss_cons (ps_set (i := 1) nd rfl (.inl rfl) (pe_call GT hr (by rfl) gT kT bT .nil pass0 (pa_cons (pv 1) (pa_cons (pv 2) (pa_cons (pv 3) (pa_cons (pv 4) pa_nil))))))
        (pss_one (ps_if (pt_cmpR op_isN (pv 1) pe_non (nomark _)) (pss_one (ps_ret pe_non)) pss_nil))))
      (pss_one (ps_ret (pv 1)))), ?_⟩
    intro t0 nt0
    have s1 := same_upd (o := HO.dK []) nt0
    refine ⟨.ref a, rfl, a, rfl, ⟨_, SqL.of (s1 _ _ hA)⟩, for_list (K := K) (a := a) (xs := ps.map V.ref) (fun i σ H' => ∃ (t : Addr) (y2 y3 y4 : Option V) (ns : List Str) (ra : Str → Addr) (rk : Str → List Str) (rv : Str → Str → Int), σ = [some (.ref a), some (.ref t), y2, y3, y4] ∧ Same H H' ∧
        TabOf H' t (rows.take i) ns ra rk rv ∧ (∃ v, Sat (rows.take i) v) ∧ ns.length ≤ 2 * i)
      ⟨t0, none, none, none, [], fun _ => 0, fun _ => [], fun _ _ => 0, rfl, s1, ⟨⟨upd_same, List.nodup_nil, fun x h => absurd h List.not_mem_nil, fun x h => absurd h List.not_mem_nil, fun x h => absurd h List.not_mem_nil⟩, fun x h => absurd h List.not_mem_nil, fun x => ⟨fun h => absurd h List.not_mem_nil, fun ⟨r, hr', _⟩ => absurd hr' List.not_mem_nil⟩⟩,
        ⟨fun _ => 0, fun r hr' => absurd hr' List.not_mem_nil⟩, Nat.le_refl _⟩ (fun i σ H' _ ⟨_, _, _, _, _, _, _, _, _, e, _⟩ => SqL.of (e _ _ hA)) ?_ ?_⟩
    · rintro i x σ H1 hi ⟨t, y2, y3, y4, ns, ra, rk, rv, rfl, s2, T, ⟨v, hv⟩, len⟩
      obtain ⟨p, ⟨l, r, c⟩, rfl, hp, hrr, hmem, hlt, hR⟩ := Sys.at hl hat hi
      have etake : rows.take (i + 1) = rows.take i ++ [(l, r, c)] := by rw [List.take_add_one, hrr]; rfl
      have few := g.few
      refine ⟨p, _, rfl, SqT.of (hR.same s2), rfl, _, _, rfl, _, _, rfl, _, _, rfl, rfl, ?_⟩
      refine ⟨.ref t, rfl, .str l, rfl, .str r, rfl, .int c, rfl, t, l, r, c, rows.take i, v, ns, ra, rk, rv, rfl, T.G, T.T, hv, (g.row _ hmem).1, by omega, fun x hx => (T.names x).mpr hx, fun H2 x ns' s3 sub ml mr only hA => ?_⟩
      have hsub : ∀ u, Sat rows u → Sat (rows.take i ++ [(l, r, c)]) u := fun u hu q hq => hu q (by
        rw [← etake] at hq
        exact List.mem_of_mem_take hq)
      rcases hA with ⟨rfl, no⟩ | ⟨d, ra', rk', rv', rfl, T', Te', hu⟩
      · exact ⟨_, rfl, rfl, _, rfl, iteT (q H2 .non (s2.trans s3) (.inl ⟨rfl, fun u hu => no u (hsub u hu)⟩))⟩
      · refine ⟨_, rfl, rfl, _, rfl, iteF ?_⟩
        rw [etake]
        refine ⟨d, _, _, _, ns', ra', rk', rv', rfl, s2.trans s3, ⟨T', Te', fun x => ⟨fun hx => ?_, fun ⟨q, hq, e⟩ => ?_⟩⟩, hu, ?_⟩
        · rcases only x hx with h | h | h
          · obtain ⟨q, hq, e⟩ := (T.names x).mp h
            exact ⟨q, List.mem_append_left _ hq, e⟩
          · exact ⟨_, List.mem_append_right _ (List.mem_singleton.mpr rfl), .inl h⟩
          · exact ⟨_, List.mem_append_right _ (List.mem_singleton.mpr rfl), .inr h⟩
        · rcases List.mem_append.mp hq with m | m
          · exact sub x ((T.names x).mpr ⟨q, m, e⟩)
          · rw [List.mem_singleton] at m
            subst m
            rcases e with e | e
            · exact e ▸ ml
            · exact e ▸ mr
        · have := nodup_le ns' (ns ++ [l, r]) T'.nd fun x hx => by
            rcases only x hx with h | h | h
            · exact List.mem_append_left _ h
            · exact List.mem_append_right _ (h ▸ List.mem_cons_self)
            · exact List.mem_append_right _ (h ▸ List.mem_cons_of_mem _ List.mem_cons_self)
          rw [List.length_append] at this
          have e : ([l, r] : List Str).length = 2 := rfl
          omega
    · rintro σ H1 ⟨t, y2, y3, y4, ns, ra, rk, rv, rfl, s2, T, hv, len⟩
      rw [List.length_map, hl, List.take_length] at T hv
      exact ⟨.ref t, rfl, q H1 _ s2 (.inr ⟨t, ns, ra, rk, rv, rfl, T, hv⟩)⟩
end
end Lo
namespace Lo
open PySem L2
abbrev sLTable : Stmt := top 58
/-! ### dicts with pairs of texts as keys -/
abbrev kP (p : Str × Str) : List L2.Key := [Sum.inr p.1, Sum.inr p.2]
theorem kP_inj {p q : Str × Str} (h : kP p = kP q) : p = q := by
  injection h with h1 h2
  injection h2 with h2 _
  exact Prod.ext (Sum.inr.inj h1) (Sum.inr.inj h2)
def dP (ps : List (Str × Str)) (f : Str × Str → Int) : List (List L2.Key × V) := ps.map fun p => (kP p, V.int (f p))
theorem dP_len (ps : List (Str × Str)) (f : Str × Str → Int) : (dP ps f).length = ps.length := List.length_map ..
theorem dP_val (f : Str × Str → Int) (p : Str × Str) : ∀ ps : List (Str × Str), valV (dP ps f) (kP p) = if p ∈ ps then some (.int (f p)) else none
  | [] => rfl
  | q :: ps => by
    have ih := dP_val f p ps
    by_cases h : q = p
    · subst h
      rw [if_pos List.mem_cons_self]
      exact valV_pos (p := (kP q, V.int (f q))) rfl
    · have e : valV (dP (q :: ps) f) (kP p) = valV (dP ps f) (kP p) := valV_neg (p := (kP q, V.int (f q))) fun z => h (kP_inj z)
      rw [e, ih]
      by_cases m : p ∈ ps
      · rw [if_pos m, if_pos (List.mem_cons_of_mem _ m)]
      · rw [if_neg m, if_neg fun z => (List.mem_cons.mp z).elim (fun z => h z.symm) m]
theorem dP_any {ps : List (Str × Str)} {f : Str × Str → Int} {p : Str × Str} : ((dP ps f).any fun kv => decide (kv.1 = kP p)) = true ↔ p ∈ ps := by
  rw [valV_any, dP_val]
  by_cases m : p ∈ ps
  · rw [if_pos m]
    exact ⟨fun _ => m, fun _ => rfl⟩
  · rw [if_neg m]
    exact ⟨(fun q => nomatch q), fun q => absurd q m⟩
theorem dP_put (ps : List (Str × Str)) (f : Str × Str → Int) (p : Str × Str) (k : Int) : putK (dP ps f) (kP p) (.int k) = dP (addN ps p) (put f p k) := by
  unfold putK addN
  by_cases m : p ∈ ps
  · rw [if_pos (dP_any.mpr m), if_pos m]
    unfold dP
    rw [List.map_map]
    refine List.map_congr_left fun q _ => ?_
    show (if kP q = kP p then (kP q, V.int k) else (kP q, V.int (f q))) = (kP q, V.int (put f p k q))
    by_cases j : q = p
    · subst j
      rw [if_pos rfl, put_at]
    · rw [if_neg fun z => j (kP_inj z), put_off j]
  · rw [if_neg fun q => m (dP_any.mp q), if_neg m]
    show _ = (ps ++ [p]).map _
    rw [List.map_append]
    show (ps.map fun q => (kP q, V.int (f q))) ++ [(kP p, V.int k)] = _ ++ [(kP p, V.int (put f p k p))]
    rw [put_at]
    congr 1
    exact List.map_congr_left fun q hq => by rw [put_off (fun z : q = p => m (z ▸ hq))]
/-- the table as a function -/
def tbF (ps : List (Str × Str)) (f : Str × Str → Int) : Tb Str := fun a b => if (a, b) ∈ ps then some (f (a, b)) else none
theorem tbF_in {ps : List (Str × Str)} {f : Str × Str → Int} {a b : Str} (h : (a, b) ∈ ps) : tbF ps f a b = some (f (a, b)) := if_pos h
theorem tbF_out {ps : List (Str × Str)} {f : Str × Str → Int} {a b : Str} (h : (a, b) ∉ ps) : tbF ps f a b = none := if_neg h
theorem tbF_put (ps : List (Str × Str)) (f : Str × Str → Int) (i j : Str) (k : Int) : tbF (addN ps (i, j)) (put f (i, j) k) = put2 (tbF ps f) i j k := by
  funext a b
  unfold put2
  by_cases e : a = i ∧ b = j
  · obtain ⟨rfl, rfl⟩ := e
    rw [if_pos ⟨rfl, rfl⟩, tbF_in (mem_addN.mpr (.inr rfl)), put_at]
  · have ne : (a, b) ≠ (i, j) := fun z => e ⟨congrArg Prod.fst z, congrArg Prod.snd z⟩
    rw [if_neg e]
    by_cases m : (a, b) ∈ ps
    · rw [tbF_in (mem_addN.mpr (.inl m)), tbF_in m, put_off ne]
    · rw [tbF_out fun z => (mem_addN.mp z).elim m ne, tbF_out m]
theorem square_len (es : List Str) : ∀ l : List Str, (l.flatMap fun a => es.map fun b => (a, b)).length = l.length * es.length
  | [] => by simp
  | a :: l => by
    rw [List.flatMap_cons, List.length_append, List.length_map, square_len es l, List.length_cons, Nat.succ_mul]
    omega
/-- the table in the heap -/
structure TbAt (H : Hp) (d : Addr) (es : List Str) (ps : List (Str × Str)) (f : Str × Str → Int) : Prop where
  at_ : H d = some (.dT (dP ps f))
  nd : ps.Nodup
  sub : ∀ p ∈ ps, p.1 ∈ es ∧ p.2 ∈ es
theorem TbAt.len {H : Hp} {d : Addr} {es : List Str} {ps : List (Str × Str)} {f : Str × Str → Int} (T : TbAt H d es ps f) (h : es.length ≤ 25) : ps.length ≤ 625 := by
  have h1 := nodup_le ps (es.flatMap fun a => es.map fun b => (a, b)) T.nd fun p hp => by
    obtain ⟨a, b⟩ := T.sub p hp
    exact List.mem_flatMap.mpr ⟨p.1, a, List.mem_map.mpr ⟨p.2, b, rfl⟩⟩
  rw [square_len] at h1
  exact Nat.le_trans h1 (Nat.mul_le_mul h h)
theorem TbAt.same {H H' : Hp} {d : Addr} {es : List Str} {ps : List (Str × Str)} {f : Str × Str → Int} (s : Same H H') (T : TbAt H d es ps f) : TbAt H' d es ps f := ⟨s _ _ T.at_, T.nd, T.sub⟩
theorem TbAt.get {H : Hp} {d b : Addr} {es : List Str} {ps : List (Str × Str)} {f : Str × Str → Int} {p : Str × Str} (T : TbAt H d es ps f) (hb : H b = some (.tup [.str p.1, .str p.2])) (m : p ∈ ps) : DGet H d (.ref b) (some (.int (f p))) := by
  have := DGet.t (k := kP p) T.at_ hb
  rw [dP_val, if_pos m] at this
  exact this
theorem TbAt.get0 {H : Hp} {d b : Addr} {es : List Str} {ps : List (Str × Str)} {f : Str × Str → Int} {p : Str × Str} (T : TbAt H d es ps f) (hb : H b = some (.tup [.str p.1, .str p.2])) (m : p ∉ ps) : DGet H d (.ref b) none := by
  have := DGet.t (k := kP p) T.at_ hb
  rw [dP_val, if_neg m] at this
  exact this
theorem TbAt.put {H : Hp} {d b : Addr} {es : List Str} {ps : List (Str × Str)} {f : Str × Str → Int} {p : Str × Str} {k : Int} (T : TbAt H d es ps f) (h25 : es.length ≤ 25) (hb : H b = some (.tup [.str p.1, .str p.2])) (h1 : p.1 ∈ es) (h2 : p.2 ∈ es) :
    DPut H d (.ref b) (.int k) (upd H d (.dT (dP (addN ps p) (Lo.put f p k)))) ∧ TbAt (upd H d (.dT (dP (addN ps p) (Lo.put f p k)))) d es (addN ps p) (Lo.put f p k) := by
  have len := T.len h25
  have q := DPut.t (k := kP p) (v := .int k) T.at_ hb (by rw [dP_len]; exact small1000 (by omega))
  rw [dP_put] at q
  refine ⟨q, upd_same, nodup_addN T.nd, fun r hr => ?_⟩
  rcases mem_addN.mp hr with m | m
  · exact T.sub r m
  · exact m ▸ ⟨h1, h2⟩
section
variable {P : Program} {w : World} {K : PySem.W.Frag} {mg : Str → Option Value} {base : Heap}
/-! ### _law_table -/
def spLTable : Sp := fun vs H Q _ => ∃ (np a : Addr) (zs : List Str) (rows : List SRow), vs = [.ref np, .ref a] ∧ H np = some (.tup (zs.map V.str)) ∧ Sys RowT H a rows ∧ Good rows ∧ (("0" : Str) :: zs).Nodup ∧ zs.length ≤ 20 ∧ (∀ x, Named rows x → x ∈ (("0" : Str) :: zs)) ∧
  ∀ (H' : Hp) (x : V), Same H H' → ((x = .non ∧ ∀ u, ¬ Sat rows u) ∨ ∃ (d : Addr) (ps : List (Str × Str)) (f : Str × Str → Int), x = .ref d ∧ TbAt H' d (("0" : Str) :: zs) ps f ∧ (∃ v, Sat rows v) ∧ ∀ a ∈ (("0" : Str) :: zs), ∀ b ∈ (("0" : Str) :: zs), D rows a b = tbF ps f a b) → Q x H'
abbrev nLTable : List Str := ["names", "system", "ends", "found", "one", "left", "right", "limit", "middle", "first", "other"]
theorem scLTable : FnScope nLTable ["names", "system"] (defScope sLTable) := ⟨rfl, rfl, rfl, by decide +kernel, rfl, by decide +kernel, by decide +kernel⟩
theorem ok_ltable {f : Addr} {fd : FuncData} (F : Fun K "_law_table" "_law_table" sLTable f fd) (T : Blt mg) : FnOk P w K mg base CX0 1 f fd ["names", "system"] spLTable := by
  refine F.ok scLTable (fun vs H Q E h => ?_) (fun cdv A outer s H vs Q E hr h => ?_)
  · obtain ⟨np, a, zs, rows, rfl, _⟩ := h
    rfl
  · obtain ⟨np, a, zs, rows, rfl, hN, ⟨ps0, hA, hl, hat⟩, g, end_nd, z20, named, q⟩ := h
    have nd := scLTable.nd
    have hu := hu_of hr
    refine ⟨_, C8.pss_cut (ps_set (i := 2) nd rfl (.inl rfl) (pe_op op_catT (pe_tup (pa_cons pe_str pa_nil)) (pe_callTy call_tuple_of (by rfl) T.tuple PyProof.Rows.boot_tuple (pa_cons (pv 0) pa_nil))))
      (pss_cons (ps_set (i := 3) nd rfl (.inl rfl) pe_dnewT)
      (C8.pss_cut (ps_for PassesOwn.never rfl (pi_tup (pv 2)) (pg_name (i := 4) nd rfl (.inl rfl)) (pss_one (ps_dput hu (pv 3) (pe_tup (pa_cons (pv 4) (pa_cons (pv 4) pa_nil))) pe_int rfl)))
      (C8.pss_cut (ps_for PassesOwn.never rfl (pi_list (pv 1)) (pg_tup rfl (pgs_cons (pg_name (i := 5) nd rfl (.inl rfl)) (pgs_cons (pg_name (i := 6) nd rfl (.inl rfl)) (pgs_cons (pg_name (i := 7) nd rfl (.inl rfl)) pgs_nil)))) (pss_one (ps_if (PW.pt (pw_or (pt_cmp (pc_dnotin hu (pe_tup (pa_cons (pv 5) (pa_cons (pv 6) pa_nil))) (pv 3))) (pw_or1 (pt_cmpR op_lt (pv 7) (pe_dget hu (pv 3) (pe_tup (pa_cons (pv 5) (pa_cons (pv 6) pa_nil))) (fun _ _ => rfl)) (nomark _))))) (pss_one (ps_dput hu (pv 3) (pe_tup (pa_cons (pv 5) (pa_cons (pv 6) pa_nil))) (pv 7) rfl)) pss_nil)))
      (C8.pss_cut (ps_for PassesOwn.never rfl (pi_tup (pv 2)) (pg_name (i := 8) nd rfl (.inl rfl)) (pss_one (ps_for PassesOwn.never rfl (pi_tup (pv 2)) (pg_name (i := 4) nd rfl (.inl rfl)) (pss_one (ps_if (pt_cmp (pc_din hu (pe_tup (pa_cons (pv 4) (pa_cons (pv 8) pa_nil))) (pv 3))) (pss_cons (ps_set (i := 9) nd rfl (.inl rfl) (pe_dget hu (pv 3) (pe_tup (pa_cons (pv 4) (pa_cons (pv 8) pa_nil))) (fun _ _ => rfl))) (pss_one (ps_for PassesOwn.never rfl (pi_tup (pv 2)) (pg_name (i := 10) nd rfl (.inl rfl)) (pss_one (ps_if (pt_cmp (pc_din hu (pe_tup (pa_cons (pv 8) (pa_cons (pv 10) pa_nil))) (pv 3))) (pss_cons (ps_set (i := 7) nd rfl (.inl rfl) (pe_op op_add (pv 9) (pe_dget hu (pv 3) (pe_tup (pa_cons (pv 8) (pa_cons (pv 10) pa_nil))) (fun _ _ => rfl)))) (pss_one (ps_if (PW.pt (pw_or (pt_cmp (pc_dnotin hu (pe_tup (pa_cons (pv 4) (pa_cons (pv 10) pa_nil))) (pv 3))) (pw_or1 (pt_cmpR op_lt (pv 7) (pe_dget hu (pv 3) (pe_tup (pa_cons (pv 4) (pa_cons (pv 10) pa_nil))) (fun _ _ => rfl)) (nomark _))))) (pss_one (ps_dput hu (pv 3) (pe_tup (pa_cons (pv 4) (pa_cons (pv 10) pa_nil))) (pv 7) rfl)) pss_nil))) pss_nil))))) pss_nil)))))
      (C8.pss_cut (ps_for PassesOwn.never rfl (pi_tup (pv 2)) (pg_name (i := 4) nd rfl (.inl rfl)) (pss_one (ps_if (pt_cmpR op_lt (pe_dget hu (pv 3) (pe_tup (pa_cons (pv 4) (pa_cons (pv 4) pa_nil))) (fun _ _ => rfl)) pe_int (nomark _)) (pss_one (ps_ret pe_non)) pss_nil)))
      (pss_one (ps_ret (pv 3)))))))), ?_⟩
    refine ⟨fun σ' H' => ∃ en : Addr, σ' = [some (.ref np), some (.ref a), some (.ref en), none, none, none, none, none, none, none, none] ∧ Same H H' ∧ H' en = some (.tup ((("0" : Str) :: zs).map V.str)), ?_, ?_⟩
    · refine ⟨by show 1 ≤ sizeLine; decide, fun z nz => ?_⟩
      have sB := same_upd (o := HO.tup [V.str "0"]) nz
      refine ⟨.ref np, rfl, np, _, rfl, .inr ⟨SqT.of (sB _ _ hN), z, np, _, _, rfl, rfl, SqT.of upd_same, SqT.of (sB _ _ hN), List.cons_ne_nil _ _, ?_, fun e => ?_, fun _ en nen => ?_⟩⟩
      · rw [List.length_map]
        exact Nat.le_of_lt (small1000 (by show 1 + zs.length ≤ 1000; omega))
      · have ez : zs = [] := List.map_eq_nil_iff.mp e
        subst ez
        exact ⟨z, rfl, sB, upd_same⟩
      · exact ⟨en, rfl, sB.trans (same_upd nen), upd_same⟩
    rintro σ1 H1 ⟨en, rfl, s1, hen⟩
    intro d nd'
    have s2 := same_upd (o := HO.dT []) nd'
    have h25 : (("0" : Str) :: zs).length ≤ 25 := by
      rw [List.length_cons]
      omega
    have hA1 := s1 _ _ hA
    have hat1 : ∀ (i : Nat) (p : Addr) (r : SRow), ps0[i]? = some p → rows[i]? = some r → RowT H1 p r := fun i p r x y => (hat i p r x y).same s1
    generalize hes : (("0" : Str) :: zs) = es at *
    -- a place of a tuple's walk
    have pick : ∀ {i : Nat} {z : V}, (es.map V.str)[i]? = some z → ∃ (hi : i < es.length), z = .str es[i] ∧ es.take (i + 1) = es.take i ++ [es[i]] ∧ es[i] ∈ es := fun {i z} hi => by
      have hi1 : i < es.length := by
        have := (List.getElem?_eq_some_iff.mp hi).1
        rw [List.length_map] at this
        exact this
      refine ⟨hi1, ?_, by rw [List.take_add_one, List.getElem?_eq_getElem hi1]; rfl, List.getElem_mem hi1⟩
      rw [List.getElem?_map, List.getElem?_eq_getElem hi1] at hi
      exact (Option.some.inj hi).symm
    have in_of : ∀ {ps : List (Str × Str)} {f : Str × Str → Int} {a b : Str} {k : Int}, tbF ps f a b = some k → (a, b) ∈ ps ∧ f (a, b) = k := fun {ps f a b k} e => by
      by_cases m : (a, b) ∈ ps
      · rw [tbF_in m] at e
        exact ⟨m, Option.some.inj e⟩
      · rw [tbF_out m] at e
        cases e
    -- nothing between a name and itself
    refine ⟨fun σ' H' => ∃ (y4 : Option V) (ps : List (Str × Str)) (f : Str × Str → Int), σ' = [some (.ref np), some (.ref a), some (.ref en), some (.ref d), y4, none, none, none, none, none, none] ∧ Same H1 H' ∧ TbAt H' d es ps f ∧ Fw rows es (tbF ps f), ?_, ?_⟩
    · refine ⟨.ref en, rfl, en, rfl, ⟨_, SqT.of (s2 _ _ hen)⟩, for_tup (K := K) (a := en) (xs := es.map V.str) (fun i σ H' => ∃ (y4 : Option V) (ps : List (Str × Str)) (f : Str × Str → Int), σ = [some (.ref np), some (.ref a), some (.ref en), some (.ref d), y4, none, none, none, none, none, none] ∧ Same H1 H' ∧ TbAt H' d es ps f ∧
          (∀ p ∈ ps, p.1 = p.2 ∧ f p = 0) ∧ ∀ x ∈ es.take i, (x, x) ∈ ps)
        ⟨none, [], fun _ => 0, rfl, s2, ⟨upd_same, List.nodup_nil, fun p h => absurd h List.not_mem_nil⟩, fun p h => absurd h List.not_mem_nil, fun x h => absurd h List.not_mem_nil⟩ (fun i σ H' _ ⟨_, _, _, _, e, _⟩ => SqT.of (e _ _ hen)) ?_ ?_⟩
      · rintro i z σ H3 hi ⟨y4, ps, f, rfl, s3, TB, diag, has⟩
        obtain ⟨hi1, rfl, etake, hm⟩ := pick hi
        rw [etake]
        generalize es[i] = x at *
        refine ⟨.ref d, rfl, .str x, rfl, .str x, rfl, by show 2 ≤ sizeLine; decide, fun tp ntp => ?_⟩
        have sT := same_upd (o := HO.tup [V.str x, V.str x]) ntp
        obtain ⟨p1, p2⟩ := (TB.same sT).put (p := (x, x)) (k := 0) h25 upd_same hm hm
        refine ⟨d, _, rfl, p1, _, _, _, rfl, (s3.trans sT).later nd', p2, fun p hp => ?_, fun w hw => ?_⟩
        · by_cases e : p = (x, x)
          · rw [e, put_at]
            exact ⟨rfl, rfl⟩
          · rw [put_off e]
            exact diag p ((mem_addN.mp hp).resolve_right e)
        · rcases List.mem_append.mp hw with m | m
          · exact mem_addN.mpr (.inl (has w m))
          · rw [List.mem_singleton] at m
            exact mem_addN.mpr (.inr (by rw [m]))
      · rintro σ H3 ⟨y4, ps, f, rfl, s3, TB, diag, has⟩
        rw [List.length_map, List.take_length] at has
        refine ⟨_, ps, f, rfl, s3, TB, fun x hx => ⟨f (x, x), tbF_in (has x hx), by rw [(diag _ (has x hx)).2]; exact Int.le_refl _⟩, fun x y k e => ?_, fun x y k e => ?_⟩
        · obtain ⟨m, e⟩ := in_of e
          obtain ⟨e1, e2⟩ := diag _ m
          have e1 : x = y := e1
          subst e1
          intro u _
          omega
        · exact TB.sub _ (in_of e).1
    rintro σ3 H3 ⟨y4, ps, f, rfl, s3, TB, W⟩
    -- the rows
    refine ⟨fun σ' H' => ∃ (y4 y5 y6 y7 : Option V) (ps : List (Str × Str)) (f : Str × Str → Int), σ' = [some (.ref np), some (.ref a), some (.ref en), some (.ref d), y4, y5, y6, y7, none, none, none] ∧ Same H1 H' ∧ TbAt H' d es ps f ∧ Fw rows es (tbF ps f) ∧ Rowed rows (tbF ps f), ?_, ?_⟩
    · refine ⟨.ref a, rfl, a, rfl, ⟨_, SqL.of (s3 _ _ hA1)⟩, for_list (K := K) (a := a) (xs := ps0.map V.ref) (fun i σ H' => ∃ (y4 y5 y6 y7 : Option V) (ps : List (Str × Str)) (f : Str × Str → Int), σ = [some (.ref np), some (.ref a), some (.ref en), some (.ref d), y4, y5, y6, y7, none, none, none] ∧ Same H1 H' ∧ TbAt H' d es ps f ∧ Fw rows es (tbF ps f) ∧ Rowed (rows.take i) (tbF ps f))
        ⟨_, _, _, _, ps, f, rfl, s3, TB, W, fun r h => absurd h List.not_mem_nil⟩ (fun i σ H' _ ⟨_, _, _, _, _, _, _, e, _⟩ => SqL.of (e _ _ hA1)) ?_ ?_⟩
      · rintro i z σ H4 hi ⟨y4, y5, y6, y7, ps, f, rfl, s4, TB, W, R⟩
        obtain ⟨p, ⟨l, r, c⟩, rfl, hp, hrr, hmem, hlt, hR⟩ := Sys.at hl hat1 hi
        have etake : rows.take (i + 1) = rows.take i ++ [(l, r, c)] := by rw [List.take_add_one, hrr]; rfl
        rw [etake]
        have le : l ∈ es := named l ⟨_, hmem, .inl rfl⟩
        have re : r ∈ es := named r ⟨_, hmem, .inr rfl⟩
        refine ⟨p, _, rfl, SqT.of (hR.same s4), rfl, _, _, rfl, _, _, rfl, _, _, rfl, rfl, ?_⟩
        refine ⟨.str l, rfl, .str r, rfl, by show 2 ≤ sizeLine; decide, fun tp ntp => ?_⟩
        have sT := same_upd (o := HO.tup [V.str l, V.str r]) ntp
        have TB5 := TB.same sT
        have s5 := s4.trans sT
        have ht5 := upd_same (H := H4) (a := tp) (o := HO.tup [V.str l, V.str r])
        generalize upd H4 tp (.tup [V.str l, V.str r]) = H5 at sT TB5 s5 ht5 ⊢
        -- it is put
        have fin : (∀ x, tbF ps f l r = some x → c ≤ x) → ∀ (H6 : Hp), Same H5 H6 → ∀ (z4 z5 z6 z7 : Option V) (tq : Addr), H6 tq = some (.tup [.str l, .str r]) → ∃ (da : Addr) (H' : Hp), V.ref d = .ref da ∧ DPut H6 da (.ref tq) (.int c) H' ∧ ∃ (y4 y5 y6 y7 : Option V) (ps : List (Str × Str)) (f : Str × Str → Int), [some (V.ref np), some (.ref a), some (.ref en), some (.ref d), z4, z5, z6, z7, none, none, none] = [some (V.ref np), some (.ref a), some (.ref en), some (.ref d), y4, y5, y6, y7, none, none, none] ∧ Same H1 H' ∧ TbAt H' d es ps f ∧ Fw rows es (tbF ps f) ∧ Rowed (rows.take i ++ [(l, r, c)]) (tbF ps f) := by
          intro hle H6 s6 z4 z5 z6 z7 tq htq
          obtain ⟨p1, p2⟩ := (TB5.same s6).put (p := (l, r)) (k := c) h25 htq le re
          refine ⟨d, _, rfl, p1, z4, z5, z6, z7, _, _, rfl, (s5.trans s6).later nd', p2, ?_, ?_⟩
          · rw [tbF_put]
            exact W.put le re (told_own hmem) hle
          · rw [tbF_put]
            intro q hq
            rcases List.mem_append.mp hq with m | m
            · exact R.down (Down.put hle) q m
            · rw [List.mem_singleton] at m
              subst m
              exact ⟨c, put2_at _ _ _ _, Int.le_refl _⟩
        by_cases m : (l, r) ∈ ps
        · refine ⟨.ref d, rfl, d, _, rfl, TB5.get (p := (l, r)) ht5 m, _, rfl, iteF ?_⟩
          refine ⟨.int c, rfl, .ref d, rfl, .str l, rfl, .str r, rfl, by show 2 ≤ sizeLine; decide, fun tp2 ntp2 => ?_⟩
          have sU := same_upd (o := HO.tup [V.str l, V.str r]) ntp2
          refine ⟨d, _, rfl, (TB5.same sU).get (p := (l, r)) upd_same m, _, _, rfl, rfl, _, rfl, ite2 (fun e => ?_) (fun e => ?_)⟩
          · have hlt : c < f (l, r) := of_decide_eq_true e
            refine ⟨.int c, rfl, .ref d, rfl, .str l, rfl, .str r, rfl, by show 2 ≤ sizeLine; decide, fun tq ntq => ?_⟩
            refine fin (fun x ex => ?_) _ (sU.trans (same_upd ntq)) _ _ _ _ tq upd_same
            have := (in_of ex).2
            omega
          · have hge : ¬ c < f (l, r) := fun z => e (decide_eq_true z)
            refine ⟨_, _, _, _, ps, f, rfl, s5.trans sU, TB5.same sU, W, fun q hq => ?_⟩
            rcases List.mem_append.mp hq with k | k
            · exact R q k
            · rw [List.mem_singleton] at k
              subst k
              exact ⟨f (l, r), tbF_in m, by show f (l, r) ≤ c; omega⟩
        · refine ⟨.ref d, rfl, d, _, rfl, TB5.get0 (p := (l, r)) ht5 m, _, rfl, iteT (iteT ?_)⟩
          refine ⟨.int c, rfl, .ref d, rfl, .str l, rfl, .str r, rfl, by show 2 ≤ sizeLine; decide, fun tq ntq => ?_⟩
          refine fin (fun x ex => absurd (in_of ex).1 m) _ (same_upd ntq) _ _ _ _ tq upd_same
      · rintro σ H4 ⟨y4, y5, y6, y7, ps, f, rfl, s4, TB, W, R⟩
        rw [List.length_map, hl, List.take_length] at R
        exact ⟨_, _, _, _, ps, f, rfl, s4, TB, W, R⟩
    rintro σ4 H4 ⟨y4, y5, y6, y7, ps, f, rfl, s4, TB, W, R⟩
    -- the middles
    refine ⟨fun σ' H' => ∃ (y4 y5 y6 y7 y8 y9 y10 : Option V) (ps : List (Str × Str)) (f : Str × Str → Int), σ' = [some (.ref np), some (.ref a), some (.ref en), some (.ref d), y4, y5, y6, y7, y8, y9, y10] ∧ Same H1 H' ∧ TbAt H' d es ps f ∧ Fw rows es (tbF ps f) ∧ Rowed rows (tbF ps f) ∧ (Neg es (tbF ps f) ∨ Clo es (tbF ps f)), ?_, ?_⟩
    · refine ⟨.ref en, rfl, en, rfl, ⟨_, SqT.of (s4 _ _ hen)⟩, for_tup (K := K) (a := en) (xs := es.map V.str) (fun i σ H' => ∃ (y4 y5 y6 y7 y8 y9 y10 : Option V) (ps : List (Str × Str)) (f : Str × Str → Int), σ = [some (.ref np), some (.ref a), some (.ref en), some (.ref d), y4, y5, y6, y7, y8, y9, y10] ∧ Same H1 H' ∧ TbAt H' d es ps f ∧ Fw rows es (tbF ps f) ∧ Rowed rows (tbF ps f) ∧ (Neg es (tbF ps f) ∨ Clo (es.take i) (tbF ps f)))
        ⟨_, _, _, _, _, _, _, ps, f, rfl, s4, TB, W, R, .inr fun m h => absurd h List.not_mem_nil⟩ (fun i σ H' _ ⟨_, _, _, _, _, _, _, _, _, _, e, _⟩ => SqT.of (e _ _ hen)) ?_ ?_⟩
      · rintro i z σ H5 hi ⟨y4, y5, y6, y7, y8, y9, y10, ps, f, rfl, s5, TB, W, R, C⟩
        obtain ⟨hi1, rfl, etake, hm⟩ := pick hi
        have tsub : ∀ x ∈ es.take i, x ∈ es := fun x hx => List.mem_of_mem_take hx
        rw [etake]
        generalize es[i] = m at *
        generalize es.take i = M at *
        generalize hF0 : tbF ps f = F0 at W R C
        have M0 := FwMid.start es F0 m
        refine ⟨.ref en, rfl, en, rfl, ⟨_, SqT.of (s5 _ _ hen)⟩, for_tup (K := K) (a := en) (xs := es.map V.str) (fun j σ H' => ∃ (y4 y5 y6 y7 y9 y10 : Option V) (ps : List (Str × Str)) (f : Str × Str → Int), σ = [some (.ref np), some (.ref a), some (.ref en), some (.ref d), y4, y5, y6, y7, some (.str m), y9, y10] ∧ Same H1 H' ∧ TbAt H' d es ps f ∧ Fw rows es (tbF ps f) ∧ Rowed rows (tbF ps f) ∧ FwMid es F0 m (fun a b => a ∈ es.take j ∧ b ∈ es) (tbF ps f))
          ⟨_, _, _, _, _, _, ps, f, rfl, s5, TB, by rw [hF0]; exact W, by rw [hF0]; exact R, by rw [hF0]; exact M0.more fun a b h => absurd h.1 List.not_mem_nil⟩ (fun i σ H' _ ⟨_, _, _, _, _, _, _, _, _, e, _⟩ => SqT.of (e _ _ hen)) ?_ ?_⟩
        · rintro j z σ H6 hj ⟨y4, y5, y6, y7, y9, y10, ps, f, rfl, s6, TB, W6, R6, Mj⟩
          obtain ⟨hj1, rfl, etakej, hone⟩ := pick hj
          rw [etakej]
          generalize es[j] = o at *
          generalize es.take j = J at *
          have sz : 2 ≤ sizeLine := by decide
          refine ⟨.str o, rfl, .str m, rfl, sz, fun tp ntp => ?_⟩
          have sT := same_upd (o := HO.tup [V.str o, V.str m]) ntp
          have TB7 := TB.same sT
          have s7 := s6.trans sT
          by_cases m1 : (o, m) ∈ ps
          · refine ⟨.ref d, rfl, d, _, rfl, TB7.get (p := (o, m)) upd_same m1, _, rfl, iteT ?_⟩
            refine ⟨.ref d, rfl, .str o, rfl, .str m, rfl, sz, fun tp2 ntp2 => ?_⟩
            have sU := same_upd (o := HO.tup [V.str o, V.str m]) ntp2
            refine ⟨d, _, rfl, (TB7.same sU).get (p := (o, m)) upd_same m1, ?_⟩
            have s8 := s7.trans sU
            have TB8 := TB7.same sU
            have hx : Neg es (tbF ps f) ∨ F0 o m = some (f (o, m)) := Mj.imp id fun h => by rw [← h.1 o, tbF_in m1]
            have tx : Told rows o m (f (o, m)) := W6.snd o m _ (tbF_in m1)
            generalize f (o, m) = x at hx tx ⊢
            refine ⟨.ref en, rfl, en, rfl, ⟨_, SqT.of (s8 _ _ hen)⟩, for_tup (K := K) (a := en) (xs := es.map V.str) (fun k σ H' => ∃ (y5 y6 y7 y10 : Option V) (ps : List (Str × Str)) (f : Str × Str → Int), σ = [some (.ref np), some (.ref a), some (.ref en), some (.ref d), some (.str o), y5, y6, y7, some (.str m), some (.int x), y10] ∧ Same H1 H' ∧ TbAt H' d es ps f ∧ Fw rows es (tbF ps f) ∧ Rowed rows (tbF ps f) ∧
                (Neg es (tbF ps f) ∨ F0 o m = some x) ∧ FwMid es F0 m (fun a b => (a ∈ J ∧ b ∈ es) ∨ (a = o ∧ b ∈ es.take k)) (tbF ps f))
              ⟨_, _, _, _, ps, f, rfl, s8, TB8, W6, R6, hx, Mj.more fun a b h => h.elim .inl fun z => absurd z.2 List.not_mem_nil⟩ (fun i σ H' _ ⟨_, _, _, _, _, _, _, e, _⟩ => SqT.of (e _ _ hen)) ?_ ?_⟩
            · rintro k z σ H9 hk ⟨y5, y6, y7, y10, ps, f, rfl, s9, TB9, W9, R9, hx, Mk⟩
              obtain ⟨hk1, rfl, etakek, hp⟩ := pick hk
              rw [etakek]
              generalize es[k] = p at *
              generalize es.take k = L at *
              refine ⟨.str m, rfl, .str p, rfl, sz, fun tp3 ntp3 => ?_⟩
              have sV := same_upd (o := HO.tup [V.str m, V.str p]) ntp3
              have TBa := TB9.same sV
              have sa := s9.trans sV
              by_cases m2 : (m, p) ∈ ps
              · refine ⟨.ref d, rfl, d, _, rfl, TBa.get (p := (m, p)) upd_same m2, _, rfl, iteT ?_⟩
                refine ⟨.int x, rfl, .ref d, rfl, .str m, rfl, .str p, rfl, sz, fun tp4 ntp4 => ?_⟩
                have sW := same_upd (o := HO.tup [V.str m, V.str p]) ntp4
                refine ⟨d, _, rfl, (TBa.same sW).get (p := (m, p)) upd_same m2, _, _, rfl, rfl, ?_⟩
                have TBb := TBa.same sW
                have sb := sa.trans sW
                have hy : tbF ps f m p = some (f (m, p)) := tbF_in m2
                have ty : Told rows m p (f (m, p)) := W9.snd m p _ hy
                generalize f (m, p) = y at hy ty ⊢
                refine ⟨.str o, rfl, .str p, rfl, sz, fun tp5 ntp5 => ?_⟩
                have sX := same_upd (o := HO.tup [V.str o, V.str p]) ntp5
                have TBc := TBb.same sX
                have sc := sb.trans sX
                have join : ∀ a b : Str, ((a ∈ J ∧ b ∈ es) ∨ (a = o ∧ b ∈ L ++ [p])) → (((a ∈ J ∧ b ∈ es) ∨ (a = o ∧ b ∈ L)) ∨ (a = o ∧ b = p)) := fun a b h => by
                  rcases h with h | ⟨h1, h2⟩
                  · exact .inl (.inl h)
                  · rcases List.mem_append.mp h2 with k | k
                    · exact .inl (.inr ⟨h1, k⟩)
                    · exact .inr ⟨h1, List.mem_singleton.mp k⟩
                -- a lesser sum
                have fin : (∀ z, tbF ps f o p = some z → x + y < z) → ∀ (Hd : Hp), Same H9 Hd → ∀ (z5 z6 z7 z10 : Option V) (tq : Addr), Hd tq = some (.tup [.str o, .str p]) → ∃ (da : Addr) (H' : Hp), V.ref d = .ref da ∧ DPut Hd da (.ref tq) (.int (x + y)) H' ∧
                    ∃ (y5 y6 y7 y10 : Option V) (ps : List (Str × Str)) (f : Str × Str → Int), [some (V.ref np), some (.ref a), some (.ref en), some (.ref d), some (.str o), z5, z6, z7, some (.str m), some (.int x), z10] = [some (V.ref np), some (.ref a), some (.ref en), some (.ref d), some (.str o), y5, y6, y7, some (.str m), some (.int x), y10] ∧ Same H1 H' ∧ TbAt H' d es ps f ∧ Fw rows es (tbF ps f) ∧ Rowed rows (tbF ps f) ∧
                    (Neg es (tbF ps f) ∨ F0 o m = some x) ∧ FwMid es F0 m (fun a b => (a ∈ J ∧ b ∈ es) ∨ (a = o ∧ b ∈ L ++ [p])) (tbF ps f) := by
                  intro hlt Hd sd z5 z6 z7 z10 tq htq
                  have hle : ∀ z, tbF ps f o p = some z → x + y ≤ z := fun z ez => Int.le_of_lt (hlt z ez)
                  obtain ⟨p1, p2⟩ := (TB9.same sd).put (p := (o, p)) (k := x + y) h25 htq hone hp
                  refine ⟨d, _, rfl, p1, z5, z6, z7, z10, _, _, rfl, (s9.trans sd).later nd', p2, ?_, ?_, ?_, ?_⟩
                  · rw [tbF_put]
                    exact W9.put hone hp (told_trans tx ty) hle
                  · rw [tbF_put]
                    exact R9.down (Down.put hle)
                  · rw [tbF_put]
                    exact hx.imp (fun h => h.down (Down.put hle)) id
                  · rw [tbF_put]
                    exact (Mk.put W9 hm hx hy hlt).more fun a b h => .inl (join a b h)
                by_cases m3 : (o, p) ∈ ps
                · refine ⟨.ref d, rfl, d, _, rfl, TBc.get (p := (o, p)) upd_same m3, _, rfl, iteF ?_⟩
                  refine ⟨.int (x + y), rfl, .ref d, rfl, .str o, rfl, .str p, rfl, sz, fun tp6 ntp6 => ?_⟩
                  have sY := same_upd (o := HO.tup [V.str o, V.str p]) ntp6
                  refine ⟨d, _, rfl, (TBc.same sY).get (p := (o, p)) upd_same m3, _, _, rfl, rfl, _, rfl, ite2 (fun e => ?_) (fun e => ?_)⟩
                  · have hlt : x + y < f (o, p) := of_decide_eq_true e
                    refine ⟨.int (x + y), rfl, .ref d, rfl, .str o, rfl, .str p, rfl, sz, fun tq ntq => ?_⟩
                    refine fin (fun z ez => ?_) _ ((((sV.trans sW).trans sX).trans sY).trans (same_upd ntq)) _ _ _ _ tq upd_same
                    rw [← (in_of ez).2]
                    exact hlt
                  · have hge : ¬ x + y < f (o, p) := fun z => e (decide_eq_true z)
                    exact ⟨_, _, _, _, ps, f, rfl, sc.trans sY, TBc.same sY, W9, R9, hx, (Mk.skip hx hy (tbF_in m3) (by omega)).more fun a b h => .inl (join a b h)⟩
                · refine ⟨.ref d, rfl, d, _, rfl, TBc.get0 (p := (o, p)) upd_same m3, _, rfl, iteT (iteT ?_)⟩
                  refine ⟨.int (x + y), rfl, .ref d, rfl, .str o, rfl, .str p, rfl, sz, fun tq ntq => ?_⟩
                  exact fin (fun z ez => absurd (in_of ez).1 m3) _ (((sV.trans sW).trans sX).trans (same_upd ntq)) _ _ _ _ tq upd_same
              · refine ⟨.ref d, rfl, d, _, rfl, TBa.get0 (p := (m, p)) upd_same m2, _, rfl, iteF ?_⟩
                refine ⟨_, _, _, _, ps, f, rfl, sa, TBa, W9, R9, hx, ?_⟩
                rcases Mk with Mk | Mk
                · exact .inl Mk
                · refine FwMid.more (.inr Mk) fun a b h => ?_
                  rcases h with h | ⟨h1, h2⟩
                  · exact .inl (.inl h)
                  · rcases List.mem_append.mp h2 with k | k
                    · exact .inl (.inr ⟨h1, k⟩)
                    · refine .inr (.inr ?_)
                      rw [List.mem_singleton.mp k, ← Mk.2.1 p, tbF_out m2]
            · rintro σ H9 ⟨y5, y6, y7, y10, ps, f, rfl, s9, TB9, W9, R9, hx, Mk⟩
              rw [List.length_map, List.take_length] at Mk
              refine ⟨_, _, _, _, _, _, ps, f, rfl, s9, TB9, W9, R9, Mk.more fun a b h => .inl ?_⟩
              rcases List.mem_append.mp h.1 with k | k
              · exact .inl ⟨k, h.2⟩
              · exact .inr ⟨List.mem_singleton.mp k, h.2⟩
          · refine ⟨.ref d, rfl, d, _, rfl, TB7.get0 (p := (o, m)) upd_same m1, _, rfl, iteF ?_⟩
            refine ⟨_, _, _, _, _, _, ps, f, rfl, s7, TB7, W6, R6, ?_⟩
            rcases Mj with Mj | Mj
            · exact .inl Mj
            · refine FwMid.more (.inr Mj) fun a b h => ?_
              rcases List.mem_append.mp h.1 with k | k
              · exact .inl ⟨k, h.2⟩
              · refine .inr (.inl ?_)
                rw [List.mem_singleton.mp k, ← Mj.1 o, tbF_out m1]
        · rintro σ H6 ⟨y4, y5, y6, y7, y9, y10, ps, f, rfl, s6, TB, W6, R6, Mj⟩
          rw [List.length_map, List.take_length] at Mj
          exact ⟨_, _, _, _, _, _, _, ps, f, rfl, s6, TB, W6, R6, Mj.clo W6 W hm tsub C⟩
      · rintro σ H5 ⟨y4, y5, y6, y7, y8, y9, y10, ps, f, rfl, s5, TB, W, R, C⟩
        rw [List.length_map, List.take_length] at C
        exact ⟨_, _, _, _, _, _, _, ps, f, rfl, s5, TB, W, R, C⟩
    rintro σ5 H5 ⟨y4, y5, y6, y7, y8, y9, y10, ps, f, rfl, s5, TB, W, R, C⟩
    -- no sum below nothing
    refine ⟨fun σ' H' => ∃ (y4 : Option V), σ' = [some (.ref np), some (.ref a), some (.ref en), some (.ref d), y4, y5, y6, y7, y8, y9, y10] ∧ Same H5 H' ∧ ¬ Neg es (tbF ps f), ?_, ?_⟩
    · refine ⟨.ref en, rfl, en, rfl, ⟨_, SqT.of (s5 _ _ hen)⟩, for_tup (K := K) (a := en) (xs := es.map V.str) (fun i σ H' => ∃ (y4 : Option V), σ = [some (.ref np), some (.ref a), some (.ref en), some (.ref d), y4, y5, y6, y7, y8, y9, y10] ∧ Same H5 H' ∧ ∀ x ∈ es.take i, ¬ f (x, x) < 0)
        ⟨_, rfl, Same.refl _, fun x h => absurd h List.not_mem_nil⟩ (fun i σ H' _ ⟨_, _, e, _⟩ => SqT.of (e _ _ (s5 _ _ hen))) ?_ ?_⟩
      · rintro i z σ H6 hi ⟨y4, rfl, s6, prev⟩
        obtain ⟨hi1, rfl, etake, hm⟩ := pick hi
        rw [etake]
        generalize es[i] = x at *
        obtain ⟨k, ek, lk⟩ := W.diag x hm
        obtain ⟨mx, ekf⟩ := in_of ek
        refine ⟨.ref d, rfl, .str x, rfl, .str x, rfl, by show 2 ≤ sizeLine; decide, fun tp ntp => ?_⟩
        have sT := same_upd (o := HO.tup [V.str x, V.str x]) ntp
        refine ⟨d, _, rfl, ((TB.same s6).same sT).get (p := (x, x)) upd_same mx, _, _, rfl, rfl, _, rfl, ite2 (fun e => ?_) (fun e => ?_)⟩
        · have hlt : f (x, x) < 0 := of_decide_eq_true e
          refine q _ .non (((s1.trans s5).trans s6).trans sT) (.inl ⟨rfl, fw_none W ⟨x, hm, f (x, x), tbF_in mx, hlt⟩⟩)
        · refine ⟨_, rfl, s6.trans sT, fun w hw => ?_⟩
          rcases List.mem_append.mp hw with k | k
          · exact prev w k
          · rw [List.mem_singleton] at k
            rw [k]
            exact fun z => e (decide_eq_true z)
      · rintro σ H6 ⟨y4, rfl, s6, prev⟩
        rw [List.length_map, List.take_length] at prev
        refine ⟨_, rfl, s6, fun ⟨x, hx, k, ek, hk⟩ => ?_⟩
        have := prev x hx
        rw [(in_of ek).2] at this
        exact this hk
    rintro σ6 H6 ⟨y4, rfl, s6, ng⟩
    obtain ⟨v, hv, all⟩ := fw_some W R (C.resolve_left ng) ng fun r hr' => named r.1 ⟨r, hr', .inl rfl⟩
    exact ⟨.ref d, rfl, q H6 _ ((s1.trans s5).trans s6) (.inr ⟨d, ps, f, rfl, TB.same s6, ⟨v, hv⟩, all⟩)⟩
end
end Lo
namespace Lo
open PySem L2
abbrev sIsName : Stmt := top 10
abbrev sReadN : Stmt := top 12
abbrev sLimit : Stmt := top 17
abbrev sFits : Stmt := top 48
abbrev sChecked : Stmt := top 47
theorem same_tup {K : PySem.W.Frag} {H H' : Hp} {a : Addr} {xs : List V} (e : Same H H') (h : SqT K H a xs) : SqT K H' a xs := by
  rcases h with (h | ⟨o, h⟩) | h
  · exact .inl (.inl (e _ _ h))
  · exact .inl (.inr ⟨o, e _ _ h⟩)
  · exact .inr h
def oV : Option Int → V
  | none => .non
  | some k => .int k
/-! ### a table of a system -/
def TabR (H : Hp) (t : Addr) (R : List SRow) (zs : List Str) : Prop := ∃ (ns : List Str) (ra : Str → Addr) (rk : Str → List Str) (rv : Str → Str → Int), TabG H t ns ra rk rv ∧ Tells ns rk rv (D R) ∧ (∃ v, Sat R v) ∧ (∀ x, Named R x → x ∈ ns) ∧ ∀ x ∈ ns, x ∈ zs
theorem TabR.same {H H' : Hp} {t : Addr} {R : List SRow} {zs : List Str} (s : Same H H') (h : TabR H t R zs) : TabR H' t R zs := by
  obtain ⟨ns, ra, rk, rv, h1, h2, h3, h4, h5⟩ := h
  exact ⟨ns, ra, rk, rv, h1.same s, h2, h3, h4, h5⟩
theorem TabR.wide {H : Hp} {t : Addr} {R : List SRow} {zs zs' : List Str} (h : TabR H t R zs) (w : ∀ x ∈ zs, x ∈ zs') : TabR H t R zs' := by
  obtain ⟨ns, ra, rk, rv, h1, h2, h3, h4, h5⟩ := h
  exact ⟨ns, ra, rk, rv, h1, h2, h3, h4, fun x hx => w x (h5 x hx)⟩
/-- tables in a list -/
def Tabs (H : Hp) (L : Addr) (Rs : List (List SRow)) (zs : List Str) : Prop := ∃ ts : List Addr, H L = some (.lst (ts.map V.ref)) ∧ ts.length = Rs.length ∧ ∀ (i : Nat) (t : Addr) (R : List SRow), ts[i]? = some t → Rs[i]? = some R → TabR H t R zs
theorem Tabs.same {H H' : Hp} {L : Addr} {Rs : List (List SRow)} {zs : List Str} (s : Same H H') (h : Tabs H L Rs zs) : Tabs H' L Rs zs := by
  obtain ⟨ts, h1, h2, h3⟩ := h
  exact ⟨ts, s _ _ h1, h2, fun i t R a b => (h3 i t R a b).same s⟩
theorem Tabs.wide {H : Hp} {L : Addr} {Rs : List (List SRow)} {zs zs' : List Str} (h : Tabs H L Rs zs) (w : ∀ x ∈ zs, x ∈ zs') : Tabs H L Rs zs' := by
  obtain ⟨ts, h1, h2, h3⟩ := h
  exact ⟨ts, h1, h2, fun i t R a b => (h3 i t R a b).wide w⟩
section
variable {P : Program} {w : World} {K : PySem.W.Frag} {mg : Str → Option Value} {base : Heap}
/-! ### is_name, read_names -/
def spIsName : Sp := fun vs H Q _ => ∃ x : Str, vs = [.str x] ∧ x ≠ ("" : Str) ∧ x ≠ ("0" : Str) ∧ Q (.bl true) H
theorem scIsName : FnScope ["thing"] ["thing"] (defScope sIsName) := ⟨rfl, rfl, rfl, by decide +kernel, rfl, by decide +kernel, by decide +kernel⟩
theorem ok_isname {f fS : Addr} {fd fdS : FuncData} (F : Fun K "is_name" "is_name" sIsName f fd) (GS : FnOk P w K mg base CX0 1 fS fdS ["thing"] spSide) (kS : PySem.W.keepIn K (.ref fS) = true) (bS : Binds K fdS ["thing"] []) (gS : mg "is_side" = some (.ref fS)) : FnOk P w K mg base CX0 2 f fd ["thing"] spIsName := by
  refine F.ok scIsName (fun vs H Q E h => ?_) (fun cdv A outer s H vs Q E hr h => ?_)
  · obtain ⟨i, rfl, _⟩ := h
    rfl
  · obtain ⟨x, rfl, h1, h2, q⟩ := h
    refine ⟨_, pss_one (ps_ret (pe_and (pe_call GS hr (by rfl) gS kS bS .nil pass0 (pa_cons (pv 0) pa_nil)) (pe_one (pe_cmpR op_ne (pv 0) pe_str (nomark _))))), ?_⟩
    refine ⟨.str x, rfl, x, rfl, h1, true, rfl, iteT ⟨_, rfl, rfl, ?_⟩⟩
    rw [ne_dec, decide_eq_true h2]
    exact q
/-- names of a region -/
structure NamesR (ns : List Str) : Prop where
  few : ns.length ≤ 4
  nd : ns.Nodup
  ok : ∀ x ∈ ns, x ≠ ("" : Str) ∧ x ≠ ("0" : Str) ∧ PyData.strOk x = true
def spReadN (K : PySem.W.Frag) : Sp := fun vs H Q _ => ∃ (np : Addr) (ns : List Str), vs = [.ref np] ∧ SqT K H np (ns.map V.str) ∧ NamesR ns ∧ ∀ H' p, Same H H' → H p = none → H' p = some (.tup (ns.map V.str)) → Q (.ref p) H'
theorem scReadN : FnScope ["names", "found", "name"] ["names"] (defScope sReadN) := ⟨rfl, rfl, rfl, by decide +kernel, rfl, by decide +kernel, by decide +kernel⟩
theorem ok_readn {f fN : Addr} {fd fdN : FuncData} (F : Fun K "read_names" "read_names" sReadN f fd) (T : Blt mg) (GN : FnOk P w K mg base CX0 2 fN fdN ["thing"] spIsName) (kN : PySem.W.keepIn K (.ref fN) = true) (bN : Binds K fdN ["thing"] []) (gN : mg "is_name" = some (.ref fN)) :
    FnOk P w K mg base CX0 3 f fd ["names"] (spReadN K) := by
  refine F.ok scReadN (fun vs H Q E h => ?_) (fun cdv A outer s H vs Q E hr h => ?_)
  · obtain ⟨np, ns, rfl, _⟩ := h
    rfl
  · obtain ⟨np, ns, rfl, hN, N, q⟩ := h
    have nd := scReadN.nd
    refine ⟨_, pss_cons (ps_set (i := 1) nd rfl (.inl rfl) (pe_lst pa_nil))
      (pss_cons (ps_for PassesOwn.never rfl (pi_tup (pv 0)) (pg_name (i := 2) nd rfl (.inl rfl))
        (pss_cons (ps_if (PW.pt (pw_or (pt_not (pt_val (pe_call GN hr (by rfl) gN kN bN .nil pass0 (pa_cons (pv 2) pa_nil)))) (pw_or1 (pt_cmpR op_in_seq (pv 2) (pv 1) (by rfl))))) (pss_one ps_never) pss_nil)
        (pss_one (ps_expr (pe_bm PySem.F.plainAttrs_list PySem.F.slot_list_append PySem.F.type_list_append mt_append (pv 1) (pa_cons (pv 2) pa_nil))))))
      (pss_one (ps_ret (pe_callTy call_tuple_of (by rfl) T.tuple PyProof.Rows.boot_tuple (pa_cons (pv 1) pa_nil))))), ?_⟩
    refine ⟨Nat.zero_le _, fun o no => ?_⟩
    have s1 := same_upd (o := HO.lst []) no
    refine ⟨.ref np, rfl, np, rfl, ⟨_, same_tup s1 hN⟩, for_tup (K := K) (a := np) (xs := ns.map V.str) (fun i σ H' => ∃ y : Option V, σ = [some (.ref np), some (.ref o), y] ∧ Same H H' ∧ H' o = some (.lst ((ns.take i).map V.str))) ⟨none, rfl, s1, upd_same⟩ (fun i σ H' _ ⟨_, _, sm, _⟩ => same_tup sm hN) ?_ ?_⟩
    · rintro i x σ H1 hi ⟨y, rfl, sm, ho⟩
      have hi1 : i < ns.length := by
        have := (List.getElem?_eq_some_iff.mp hi).1
        rw [List.length_map] at this
        exact this
      obtain rfl : x = .str ns[i] := by
        rw [List.getElem?_map, List.getElem?_eq_getElem hi1] at hi
        exact (Option.some.inj hi).symm
      obtain ⟨k1, k2, _⟩ := N.ok _ (List.getElem_mem hi1)
      refine ⟨_, rfl, _, rfl, k1, k2, true, rfl, iteF ?_⟩
      refine ⟨_, rfl, .ref o, rfl, o, _, rfl, .inl (SqL.of ho), rfl, flat_all _, _, rfl, ?_⟩
      rw [inV_strs, decide_eq_false]
      · have e : ns.take (i + 1) = ns.take i ++ [ns[i]] := by rw [List.take_add_one, List.getElem?_eq_getElem hi1]; rfl
        have few := N.few
        refine iteF ⟨.ref o, rfl, .inl ⟨rfl, _, SqL.of ho⟩, _, rfl, o, _, _, rfl, rfl, ho, ?_, ?_⟩
        · rw [List.length_map, List.length_take]
          exact small1000 (by omega)
        · refine ⟨_, rfl, sm.later no, ?_⟩
          rw [upd_same, e, List.map_append]
          rfl
      · intro m
        have nn := N.nd
        have sp : ns = ns.take i ++ ns[i] :: ns.drop (i + 1) := by rw [← List.drop_eq_getElem_cons hi1, List.take_append_drop]
        rw [sp] at nn
        exact (List.nodup_append.mp nn).2.2 _ m _ List.mem_cons_self rfl
    · rintro σ H1 ⟨y, rfl, sm, ho⟩
      rw [List.length_map, List.take_length] at ho
      exact ⟨.ref o, rfl, o, _, rfl, .inl ⟨SqL.of ho, fun p np' => q _ p (sm.trans (same_upd np')) (sm.free np') upd_same⟩⟩
/-! ### limit_of -/
def spLimit : Sp := fun vs H Q _ => ∃ (t : Addr) (l r : Str) (R : List SRow) (zs : List Str), vs = [.ref t, .str l, .str r] ∧ TabR H t R zs ∧ Q (oV (D R l r)) H
theorem scLimit : FnScope ["table", "left", "right"] ["table", "left", "right"] (defScope sLimit) := ⟨rfl, rfl, rfl, by decide +kernel, rfl, by decide +kernel, by decide +kernel⟩
theorem ok_limit {f : Addr} {fd : FuncData} (F : Fun K "limit_of" "limit_of" sLimit f fd) : FnOk P w K mg base CX0 1 f fd ["table", "left", "right"] spLimit := by
  refine F.ok scLimit (fun vs H Q E h => ?_) (fun cdv A outer s H vs Q E hr h => ?_)
  · obtain ⟨t, l, r, R, zs, rfl, _⟩ := h
    rfl
  · obtain ⟨t, l, r, R, zs, rfl, ⟨ns, ra, rk, rv, TG, Te, ⟨v, hv⟩, hn, _⟩, q⟩ := h
    have hu := hu_of hr
    refine ⟨_, pss_cons (ps_if (pt_cmpR op_eq (pv 1) (pv 2) (nomark _)) (pss_one (ps_ret pe_int)) pss_nil)
      (pss_cons (ps_if (pt_cmp (pc_dnotin hu (pv 1) (pv 0))) (pss_one (ps_ret pe_non)) pss_nil)
      (pss_one (ps_ret (pe_dget1 hu (pe_dget hu (pv 0) (pv 1) (fun _ _ => rfl)) (pv 2) ⟨rfl, rfl, rfl, rfl⟩)))), ?_⟩
    refine ⟨_, rfl, _, rfl, rfl, _, rfl, ite2 (fun e => ?_) (fun e => ?_)⟩
    · have e : l = r := V.str.inj (of_decide_eq_true e)
      subst e
      rw [d_self hv] at q
      exact q
    · have ne : l ≠ r := fun z => e (decide_eq_true (by rw [z]))
      refine ⟨_, rfl, .ref t, rfl, t, _, rfl, dgetI l TG.dict, _, rfl, ?_⟩
      by_cases m : l ∈ ns
      · rw [if_pos m]
        refine iteF ?_
        refine ⟨.ref t, rfl, _, rfl, t, _, rfl, dget TG.dict m, ra l, rfl, .inl ⟨_, Rd.of (TG.row l m)⟩, _, rfl, _, dgetI r (TG.row l m), ?_⟩
        have := Te l m r
        unfold opt at this
        rw [← this] at q
        by_cases k : r ∈ rk l
        · rw [if_pos k] at q ⊢
          exact q
        · rw [if_neg k] at q ⊢
          exact q
      · rw [if_neg m]
        refine iteT ?_
        rw [d_alone hv (fun x hx e => m (hn l ⟨x, hx, .inl e.symm⟩)) r, if_neg (fun z => ne z.symm)] at q
        exact q
end
end Lo
namespace Lo
open PySem L2
abbrev sReadTs : Stmt := top 46
/-- a system has a solution -/
noncomputable def satB (R : List SRow) : Bool := @decide (∃ v, Sat R v) (Classical.propDecidable _)
theorem satB_iff {R : List SRow} : satB R = true ↔ ∃ v, Sat R v := by
  unfold satB
  exact @decide_eq_true_iff _ (Classical.propDecidable _)
theorem satB_not {R : List SRow} (h : ∀ v, ¬ Sat R v) : satB R = false := by
  cases e : satB R with
  | false => rfl
  | true =>
    obtain ⟨v, hv⟩ := satB_iff.mp e
    exact absurd hv (h v)
theorem TabR.past {H : Hp} {L t : Addr} {R : List SRow} {zs : List Str} {xs : List V} {o : HO} (hL : H L = some (.lst xs)) (h : TabR H t R zs) : TabR (upd H L o) t R zs := by
  obtain ⟨ns, ra, rk, rv, T, h2, h3, h4, h5⟩ := h
  have off : ∀ {b : Addr} {kvs : List (Key × V)}, H b = some (.dK kvs) → upd H L o b = some (.dK kvs) := fun {b kvs} e => by
    rw [upd_ne (ne_of e hL (by intro z; cases z))]
    exact e
  exact ⟨ns, ra, rk, rv, ⟨off T.dict, T.nd, fun x hx => off (T.row x hx), T.off, T.rnd⟩, h2, h3, h4, h5⟩
/-- one table more in the list -/
theorem Tabs.snoc {H : Hp} {L t : Addr} {Rs : List (List SRow)} {R : List SRow} {zs : List Str} {ts : List Addr} (h1 : H L = some (.lst (ts.map V.ref))) (h2 : ts.length = Rs.length) (h3 : ∀ (i : Nat) (t : Addr) (R : List SRow), ts[i]? = some t → Rs[i]? = some R → TabR H t R zs) (hR : TabR H t R zs) :
    Tabs (upd H L (.lst (ts.map V.ref ++ [.ref t]))) L (Rs ++ [R]) zs := by
  refine ⟨ts ++ [t], by rw [upd_same, List.map_append]; rfl, by rw [List.length_append, List.length_append, h2]; rfl, fun i t' R' ht hR' => ?_⟩
  by_cases k : i < ts.length
  · rw [List.getElem?_append_left k] at ht
    rw [List.getElem?_append_left (by omega)] at hR'
    exact (h3 i t' R' ht hR').past h1
  · have hi : i = ts.length := by
      have := (List.getElem?_eq_some_iff.mp ht).1
      rw [List.length_append, List.length_singleton] at this
      omega
    subst hi
    rw [List.getElem?_append_right (Nat.le_refl _), Nat.sub_self] at ht
    rw [h2, List.getElem?_append_right (Nat.le_refl _), Nat.sub_self] at hR'
    have a1 : t = t' := Option.some.inj ht
    have a2 : R = R' := Option.some.inj hR'
    exact a1 ▸ a2 ▸ hR.past h1
/-- systems in a list -/
def Syss (H : Hp) (L : Addr) (Ss : List (List SRow)) : Prop := ∃ ls : List Addr, H L = some (.lst (ls.map V.ref)) ∧ ls.length = Ss.length ∧ ∀ (i : Nat) (l : Addr) (R : List SRow), ls[i]? = some l → Ss[i]? = some R → Sys RowT H l R
theorem Syss.same {H H' : Hp} {L : Addr} {Ss : List (List SRow)} (s : Same H H') (h : Syss H L Ss) : Syss H' L Ss := by
  obtain ⟨ls, h1, h2, h3⟩ := h
  exact ⟨ls, s _ _ h1, h2, fun i l R a b => (h3 i l R a b).sameT s⟩
/-- the i-th of a list of things -/
theorem pick_ref {ls : List Addr} {i : Nat} {v : V} (hv : (ls.map V.ref)[i]? = some v) : ∃ l, v = .ref l ∧ ls[i]? = some l ∧ i < ls.length := by
  rw [List.getElem?_map] at hv
  cases e : ls[i]? with
  | none =>
    rw [e] at hv
    cases hv
  | some l =>
    rw [e] at hv
    exact ⟨l, (Option.some.inj hv).symm, rfl, (List.getElem?_eq_some_iff.mp e).1⟩
section
variable {P : Program} {w : World} {K : PySem.W.Frag} {mg : Str → Option Value} {base : Heap}
/-! ### _fits -/
def spFits (K : PySem.W.Frag) : Sp := fun vs H Q _ => ∃ (np p : Addr) (ns : List Str) (r : SRow), vs = [.ref np, .ref p] ∧ SqT K H np (ns.map V.str) ∧ RowT H p r ∧ In2 ns r ∧ Q (.bl true) H
abbrev nFits : List Str := ["names", "difference", "left", "right", "_"]
theorem scFits : FnScope nFits ["names", "difference"] (defScope sFits) := ⟨rfl, rfl, rfl, by decide +kernel, rfl, by decide +kernel, by decide +kernel⟩
theorem ok_fits {f : Addr} {fd : FuncData} (F : Fun K "_fits" "_fits" sFits f fd) : FnOk P w K mg base CX0 1 f fd ["names", "difference"] (spFits K) := by
  refine F.ok scFits (fun vs H Q E h => ?_) (fun cdv A outer s H vs Q E hr h => ?_)
  · obtain ⟨np, p, ns, r, rfl, _⟩ := h
    rfl
  · obtain ⟨np, p, ns, ⟨x, y, c⟩, rfl, hN, hR, ⟨i1, i2⟩, q⟩ := h
    have nd := scFits.nd
    refine ⟨_, pss_cons (ps_asg (pv 1) (pg_tup rfl (pgs_cons (pg_name (i := 2) nd rfl (.inl rfl)) (pgs_cons (pg_name (i := 3) nd rfl (.inl rfl)) (pgs_cons (pg_name (i := 4) nd rfl (.inl rfl)) pgs_nil)))))
      (pss_one (ps_ret (pe_and (pe_or (pe_cmpR op_eq (pv 2) pe_str (nomark _)) (pe_one (pe_cmpR op_in_seq (pv 2) (pv 0) (by rfl)))) (pe_one (pe_or (pe_cmpR op_eq (pv 3) pe_str (nomark _)) (pe_one (pe_cmpR op_in_seq (pv 3) (pv 0) (by rfl)))))))), ?_⟩
    refine ⟨.ref p, rfl, p, _, rfl, SqT.of hR, rfl, _, _, rfl, _, _, rfl, _, _, rfl, rfl, ?_⟩
    refine ⟨.str x, rfl, rfl, ?_⟩
    by_cases e : x = "0"
    · refine ⟨_, rfl, ?_⟩
      rw [decide_eq_true (by rw [e])]
      refine iteT ⟨true, rfl, iteT ?_⟩
      refine ⟨.str y, rfl, rfl, ?_⟩
      by_cases e2 : y = "0"
      · refine ⟨_, rfl, ?_⟩
        rw [decide_eq_true (by rw [e2])]
        exact iteT q
      · refine ⟨_, rfl, ?_⟩
        rw [decide_eq_false fun h => e2 (V.str.inj h)]
        refine iteF ⟨.str y, rfl, .ref np, rfl, np, _, rfl, .inr hN, rfl, flat_all _, ?_⟩
        rw [inV_strs, decide_eq_true ((List.mem_cons.mp i2).resolve_left e2)]
        exact q
    · refine ⟨_, rfl, ?_⟩
      rw [decide_eq_false fun h => e (V.str.inj h)]
      refine iteF ⟨.str x, rfl, .ref np, rfl, np, _, rfl, .inr hN, rfl, flat_all _, ?_⟩
      rw [inV_strs, decide_eq_true ((List.mem_cons.mp i1).resolve_left e)]
      refine ⟨true, rfl, iteT ?_⟩
      refine ⟨.str y, rfl, rfl, ?_⟩
      by_cases e2 : y = "0"
      · refine ⟨_, rfl, ?_⟩
        rw [decide_eq_true (by rw [e2])]
        exact iteT q
      · refine ⟨_, rfl, ?_⟩
        rw [decide_eq_false fun h => e2 (V.str.inj h)]
        refine iteF ⟨.str y, rfl, .ref np, rfl, np, _, rfl, .inr hN, rfl, flat_all _, ?_⟩
        rw [inV_strs, decide_eq_true ((List.mem_cons.mp i2).resolve_left e2)]
        exact q
/-! ### _checked -/
def spChecked (K : PySem.W.Frag) : Sp := fun vs H Q _ => ∃ (np a : Addr) (ns : List Str) (rows : List SRow), vs = [.ref np, .ref a] ∧ SqT K H np (ns.map V.str) ∧ Sys RowT H a rows ∧ Good rows ∧ (∀ r ∈ rows, In2 ns r) ∧ ∀ H' q, Same H H' → H q = none → Sys RowT H' q rows → Q (.ref q) H'
abbrev nChecked : List Str := ["names", "system", "found", "place", "entry"]
theorem scChecked : FnScope nChecked ["names", "system"] (defScope sChecked) := ⟨rfl, rfl, rfl, by decide +kernel, rfl, by decide +kernel, by decide +kernel⟩
theorem ok_checked {f fD fF : Addr} {fd fdD fdF : FuncData} (F : Fun K "_checked" "_checked" sChecked f fd) (T : Blt mg) (GD : FnOk P w K mg base CX0 2 fD fdD ["thing"] spDiff) (kD : PySem.W.keepIn K (.ref fD) = true) (bD : Binds K fdD ["thing"] []) (gD : mg "is_difference" = some (.ref fD))
    (GF : FnOk P w K mg base CX0 1 fF fdF ["names", "difference"] (spFits K)) (kF : PySem.W.keepIn K (.ref fF) = true) (bF : Binds K fdF ["names", "difference"] []) (gF : mg "_fits" = some (.ref fF)) : FnOk P w K mg base CX0 3 f fd ["names", "system"] (spChecked K) := by
  refine F.ok scChecked (fun vs H Q E h => ?_) (fun cdv A outer s H vs Q E hr h => ?_)
  · obtain ⟨np, a, ns, rows, rfl, _⟩ := h
    rfl
  · obtain ⟨np, a, ns, rows, rfl, hN, ⟨ps, hA, hl, hat⟩, g, hin, q⟩ := h
    have nd := scChecked.nd
    have few := g.few
    refine ⟨_, pss_cons (ps_set (i := 2) nd rfl (.inl rfl) (pe_lst pa_nil))
      (pss_cons (ps_for PassesOwn.never rfl (pi_enum (by rfl) T.enum (pa_cons (pv 1) pa_nil)) (pg_tup rfl (pgs_cons (pg_name (i := 3) nd rfl (.inl rfl)) (pgs_cons (pg_name (i := 4) nd rfl (.inl rfl)) pgs_nil)))
        (pss_cons (ps_if (PW.pt (pw_or (pt_not (pt_val (pe_call GD hr (by rfl) gD kD bD .nil pass0 (pa_cons (pv 4) pa_nil)))) (pw_or1 (pt_not (pt_val (pe_call GF (hr.mono (by decide)) (by rfl) gF kF bF .nil pass0 (pa_cons (pv 0) (pa_cons (pv 4) pa_nil)))))))) (pss_one ps_never) pss_nil)
        (pss_one (ps_expr (pe_bm PySem.F.plainAttrs_list PySem.F.slot_list_append PySem.F.type_list_append mt_append (pv 2)
          (pa_cons (pe_callTy call_tuple_of (by rfl) T.tuple PyProof.Rows.boot_tuple (pa_cons (pv 4) pa_nil)) pa_nil))))))
      (pss_one (ps_ret (pv 2)))), ?_⟩
    refine ⟨Nat.zero_le _, fun o no => ?_⟩
    have s1 := same_upd (o := HO.lst []) no
    refine ⟨.ref a, rfl, a, ps.map V.ref, rfl, SqL.of (s1 _ _ hA), for_it walk_enum (fun i σ H' => ∃ (y3 y4 : Option V) (qs : List Addr), σ = [some (.ref np), some (.ref a), some (.ref o), y3, y4] ∧ Same H H' ∧ H' o = some (.lst (qs.map V.ref)) ∧ qs.length = i ∧
        ∀ (j : Nat) (p : Addr) (r : SRow), qs[j]? = some p → rows[j]? = some r → RowT H' p r) ⟨none, none, [], rfl, s1, upd_same, rfl, fun j p r e => nomatch e⟩ (fun i σ H' _ ⟨_, _, _, _, sm, _⟩ => SqL.of (sm _ _ hA)) ?_ ?_⟩
    · rintro i x σ H1 H2 hi ⟨y3, y4, qs, rfl, sm, ho, hq, hrow⟩ ⟨tp, x1, x2, rfl, ntp, rfl, e1, e2⟩
      obtain ⟨p, r, rfl, hp, hrr, hmem, hlt, hR⟩ := Sys.at hl hat e2
      have smT : Same H1 (upd H1 tp (.tup [x1, .ref p])) := same_upd ntp
      refine ⟨tp, _, rfl, SqT.of upd_same, rfl, _, _, rfl, _, _, rfl, rfl, ?_⟩
      have s2 := sm.trans smT
      refine ⟨.ref p, rfl, p, r, rfl, .inl (hR.same s2), g.row r hmem, fun H3 s3 => ⟨true, rfl, iteF ?_⟩⟩
      have s13 := s2.trans s3
      refine ⟨.ref np, rfl, .ref p, rfl, np, p, ns, r, rfl, same_tup s13 hN, hR.same s13, hin r hmem, true, rfl, iteF ?_⟩
      have ho3 : H3 o = some (.lst (qs.map V.ref)) := s3 _ _ (smT _ _ ho)
      have hlen : (qs.map V.ref).length < sizeLine := by
        rw [List.length_map, hq]
        exact small1000 (by omega)
      refine ⟨.ref o, rfl, .inl ⟨rfl, _, SqL.of ho3⟩, .ref p, rfl, p, rowV r, rfl, .inr ⟨SqT.of (hR.same s13), o, _, _, rfl, rfl, ho3, hlen, ?_⟩⟩
      have out : ∀ (b : Addr) (r' : SRow), RowT H3 b r' → RowT (upd H3 o (.lst (qs.map V.ref ++ [.ref p]))) b r' := fun b r' hb => by
        have nb : b ≠ o := ne_of hb ho3 (by intro z; cases z)
        show upd H3 o _ b = _
        rw [upd_ne nb]
        exact hb
      refine ⟨_, _, qs ++ [p], rfl, s13.later no, ?_, by rw [List.length_append, hq]; rfl, fun j pj rj hj hr' => ?_⟩
      · rw [upd_same, List.map_append]
        rfl
      · by_cases k : j < i
        · rw [List.getElem?_append_left (by omega)] at hj
          exact out _ _ ((hrow j pj rj hj hr').same (smT.trans s3))
        · have hj2 : j = i := by
            have := (List.getElem?_eq_some_iff.mp hj).1
            rw [List.length_append, List.length_singleton] at this
            omega
          subst hj2
          rw [List.getElem?_append_right (by omega), hq, Nat.sub_self] at hj
          have e : p = pj := Option.some.inj hj
          rw [hrr] at hr'
          have e' : r = rj := Option.some.inj hr'
          subst e e'
          exact out _ _ (hR.same s13)
    · rintro σ H1 ⟨y3, y4, qs, rfl, sm, ho, hq, hrow⟩
      rw [List.length_map] at hq
      exact ⟨.ref o, rfl, q H1 o sm no ⟨qs, ho, hq.trans hl, hrow⟩⟩
/-! ### _read_tables -/
def spReadTs (K : PySem.W.Frag) : Sp := fun vs H Q _ => ∃ (np L : Addr) (ns : List Str) (Ss : List (List SRow)), vs = [.ref np, .ref L] ∧ SqT K H np (ns.map V.str) ∧ Syss H L Ss ∧ Ss.length ≤ 100 ∧ (∀ R ∈ Ss, Good R ∧ ∀ r ∈ R, In2 ns r) ∧ ∀ H' q, Same H H' → H q = none → Tabs H' q (Ss.filter satB) (("0" : Str) :: ns) → Q (.ref q) H'
abbrev nReadTs : List Str := ["names", "systems", "checked", "found", "differences", "table", "system"]
theorem scReadTs : FnScope nReadTs ["names", "systems"] (defScope sReadTs) := ⟨rfl, rfl, rfl, by decide +kernel, rfl, by decide +kernel, by decide +kernel⟩
theorem ok_readts {f fC fT : Addr} {fd fdC fdT : FuncData} (F : Fun K "_read_tables" "_read_tables" sReadTs f fd)
    (GC : FnOk P w K mg base CX0 3 fC fdC ["names", "system"] (spChecked K)) (kC : PySem.W.keepIn K (.ref fC) = true) (bC : Binds K fdC ["names", "system"] []) (gC : mg "_checked" = some (.ref fC))
    (GT : FnOk P w K mg base CX0 4 fT fdT ["differences"] spTableOf) (kT : PySem.W.keepIn K (.ref fT) = true) (bT : Binds K fdT ["differences"] []) (gT : mg "table_of" = some (.ref fT)) : FnOk P w K mg base CX0 5 f fd ["names", "systems"] (spReadTs K) := by
  refine F.ok scReadTs (fun vs H Q E h => ?_) (fun cdv A outer s H vs Q E hr h => ?_)
  · obtain ⟨np, L, ns, Ss, rfl, _⟩ := h
    rfl
  · obtain ⟨np, L, ns, Ss, rfl, hN, ⟨ls, hL, hll, hat⟩, few, hg, q⟩ := h
    have nd := scReadTs.nd
    have r3 := hr.mono (show 3 ≤ 4 by decide)
    refine ⟨_, C8.pss_cut (ps_setLc (i := 2) (own := [("system", 6)]) (g := gName 6) (tt := tYes) rfl nd rfl rfl (sw_true rfl rfl rfl (by decide +kernel)) (pi_list (pv 1)) (blkOk_by (N := nReadTs) (sc := defScope sReadTs) (by decide +kernel))
          (fun _ _ _ _ _ => pg_name (i := 6) nd rfl (.inl rfl)) (fun _ _ _ _ _ => pts_nil) (fun _ _ _ _ _ => pe_call GC r3 (by rfl) gC kC bC .nil pass0 (pa_cons (pv 0) (pa_cons (pv 6) pa_nil))))
      (pss_cons (ps_set (i := 3) nd rfl (.inl rfl) (pe_lst pa_nil))
      (pss_cons (ps_for PassesOwn.never rfl (pi_list (pv 2)) (pg_name (i := 4) nd rfl (.inl rfl))
        (pss_cons (ps_set (i := 5) nd rfl (.inl rfl) (pe_call GT hr (by rfl) gT kT bT .nil pass0 (pa_cons (pv 4) pa_nil)))
        (pss_one (ps_if (pt_cmpR op_notN (pv 5) pe_non (nomark _)) (pss_one (ps_expr (pe_bm PySem.F.plainAttrs_list PySem.F.slot_list_append PySem.F.type_list_append mt_append (pv 3) (pa_cons (pv 5) pa_nil)))) pss_nil))))
      (pss_one (ps_ret (pv 3))))), ?_⟩
    refine ⟨fun σ' H' => ∃ c : Addr, σ' = [some (.ref np), some (.ref L), some (.ref c), none, none, none, none] ∧ Same H H' ∧ Syss H' c Ss, ?_, ?_⟩
    · refine ⟨.ref L, rfl, L, rfl, ⟨_, SqL.of hL⟩, fun c nc => ?_⟩
      refine lc_list (K := K) (a := L) (xs := ls.map V.ref) (fun j H' => Same H H' ∧ ∃ qs : List Addr, H' c = some (.lst (qs.map V.ref)) ∧ qs.length = j ∧ (∀ q ∈ qs, q ≠ c) ∧ ∀ (i : Nat) (l : Addr) (R : List SRow), qs[i]? = some l → Ss[i]? = some R → Sys RowT H' l R)
        ⟨same_upd nc, [], upd_same, rfl, fun q h => absurd h List.not_mem_nil, fun i l R e => nomatch e⟩ (fun j H' _ h => SqL.of (h.1 _ _ hL)) ?_ ?_
      · rintro j v H1 hj ⟨s1, qs, hc, hql, hqn, hqr⟩
        obtain ⟨l, rfl, hl1, hlt⟩ := pick_ref hj
        obtain ⟨R, hR⟩ : ∃ R, Ss[j]? = some R := ⟨_, List.getElem?_eq_getElem (by omega)⟩
        obtain ⟨gR, iR⟩ := hg R (List.mem_of_getElem? hR)
        refine ⟨rfl, ?_⟩
        unfold tYes
        refine iteT ?_
        refine ⟨.ref np, rfl, .ref l, rfl, np, l, ns, R, rfl, same_tup s1 hN, (hat j l R hl1 hR).sameT s1, gR, iR, fun H2 p s2 np2 hS => ?_⟩
        have hc2 := s2 _ _ hc
        have out : ∀ {b : Addr} {R' : List SRow}, Sys RowT H2 b R' → b ≠ c → Sys RowT (upd H2 c (.lst (qs.map V.ref ++ [.ref p]))) b R' := fun {b R'} ⟨ps, h1, h2, h3⟩ nb => ⟨ps, by rw [upd_ne nb]; exact h1, h2, fun i q r a b => by
          have z := h3 i q r a b
          show upd H2 c _ q = _
          rw [upd_ne (ne_of z hc2 (by intro z; cases z))]
          exact z⟩
        have npc : p ≠ c := fun e => by
          rw [e, hc] at np2
          cases np2
        refine ⟨_, hc2, by rw [List.length_map, hql]; exact small1000 (by omega), (s1.trans s2).later nc, qs ++ [p], by rw [upd_same, List.map_append]; rfl, by rw [List.length_append, hql]; rfl, fun q hq => ?_, fun i l' R' hl' hR' => ?_⟩
        · rcases List.mem_append.mp hq with m | m
          · exact hqn q m
          · exact List.mem_singleton.mp m ▸ npc
        by_cases k : i < j
        · rw [List.getElem?_append_left (by omega)] at hl'
          exact out ((hqr i l' R' hl' hR').sameT s2) (hqn l' (List.mem_of_getElem? hl'))
        · have hi2 : i = j := by
            have := (List.getElem?_eq_some_iff.mp hl').1
            rw [List.length_append, List.length_singleton] at this
            omega
          subst hi2
          rw [List.getElem?_append_right (by omega), hql, Nat.sub_self] at hl'
          have e1 : p = l' := Option.some.inj hl'
          rw [hR] at hR'
          have e2 := Option.some.inj hR'
          subst e1 e2
          exact out hS npc
      · rintro H1 ⟨s1, qs, hc, hql, _, hqr⟩
        exact ⟨c, rfl, s1, qs, hc, by rw [hql, List.length_map, hll], hqr⟩
    rintro σ1 H1 ⟨c, rfl, s1, hC⟩
    refine ⟨Nat.zero_le _, fun o no => ?_⟩
    have sO := same_upd (o := HO.lst []) no
    have s2 := s1.trans sO
    obtain ⟨cs, hc, hcl, hcat⟩ := hC.same sO
    have no0 : H o = none := s1.free no
    refine ⟨.ref c, rfl, c, rfl, ⟨_, SqL.of hc⟩, for_list (K := K) (a := c) (xs := cs.map V.ref) (fun i σ H' => ∃ (y4 y5 : Option V) (ts : List Addr), σ = [some (.ref np), some (.ref L), some (.ref c), some (.ref o), y4, y5, none] ∧ Same H H' ∧ Same H1 H' ∧ H' o = some (.lst (ts.map V.ref)) ∧
        ts.length = ((Ss.take i).filter satB).length ∧ ∀ (j : Nat) (t : Addr) (R : List SRow), ts[j]? = some t → ((Ss.take i).filter satB)[j]? = some R → TabR H' t R (("0" : Str) :: ns))
      ⟨none, none, [], rfl, s2, sO, upd_same, rfl, fun j t R e => nomatch e⟩ (fun i σ H' _ ⟨_, _, _, _, _, sm, _⟩ => ?_) ?_ ?_⟩
    · obtain ⟨cs', h1, _, _⟩ := hC
      have z := sO _ _ h1
      rw [hc] at z
      injection z with z
      rw [HO.lst.inj z]
      exact SqL.of (sm _ _ h1)
    · rintro i v σ H2 hi ⟨y4, y5, ts, rfl, s3, s13, ho, hlen, htab⟩
      obtain ⟨l, rfl, hl1, hlt⟩ := pick_ref hi
      obtain ⟨R, hR⟩ : ∃ R, Ss[i]? = some R := ⟨_, List.getElem?_eq_getElem (by omega)⟩
      obtain ⟨gR, iR⟩ := hg R (List.mem_of_getElem? hR)
      have hSl : Sys RowT H2 l R := by
        obtain ⟨cs', h1, h2, h3⟩ := hC
        have z := sO _ _ h1
        rw [hc] at z
        injection z with z
        have inj : ∀ (a b : List Addr), a.map V.ref = b.map V.ref → a = b := fun a => by
          induction a with
          | nil => intro b z; cases b with
            | nil => rfl
            | cons _ _ => exact nomatch z
          | cons x a ih => intro b z; cases b with
            | nil => exact nomatch z
            | cons y b =>
              have z1 := List.cons.inj z
              rw [V.ref.inj z1.1, ih b z1.2]
        have e := inj _ _ (HO.lst.inj z)
        exact (h3 i l R (e ▸ hl1) hR).sameT s13
      have etake : Ss.take (i + 1) = Ss.take i ++ [R] := by rw [List.take_add_one, hR]; rfl
      refine ⟨.ref l, rfl, l, R, rfl, hSl, gR, fun H3 x s4 hx => ?_⟩
      have fewT : ts.length ≤ 100 := by
        rw [hlen]
        exact Nat.le_trans (List.length_filter_le _ _) (by rw [List.length_take]; omega)
      rcases hx with ⟨rfl, no'⟩ | ⟨t, ns', ra, rk, rv, rfl, T', hv⟩
      · refine ⟨_, rfl, rfl, _, rfl, iteF ?_⟩
        have ef : (Ss.take (i + 1)).filter satB = (Ss.take i).filter satB := by
          rw [etake, List.filter_append, List.filter_cons, if_neg (by rw [satB_not no']; exact Bool.false_ne_true), List.filter_nil, List.append_nil]
        refine ⟨_, _, ts, rfl, s3.trans s4, s13.trans s4, s4 _ _ ho, by rw [ef]; exact hlen, fun j t R' a b => ?_⟩
        rw [ef] at b
        exact (htab j t R' a b).same s4
      · refine ⟨_, rfl, rfl, _, rfl, iteT ?_⟩
        have ef : (Ss.take (i + 1)).filter satB = (Ss.take i).filter satB ++ [R] := by
          rw [etake, List.filter_append, List.filter_cons, if_pos (satB_iff.mpr hv), List.filter_nil]
        have hTR : TabR H3 t R (("0" : Str) :: ns) := ⟨ns', ra, rk, rv, T'.G, T'.T, hv, fun x hx => (T'.names x).mpr hx, fun x hx => by
          obtain ⟨r, hr', e⟩ := (T'.names x).mp hx
          rcases e with e | e
          · exact e ▸ (iR r hr').1
          · exact e ▸ (iR r hr').2⟩
        have ho3 := s4 _ _ ho
        obtain ⟨ts', q1, q2, q3⟩ := Tabs.snoc ho3 hlen (fun j t R' a b => (htab j t R' a b).same s4) hTR
        refine ⟨.ref o, rfl, .inl ⟨rfl, _, SqL.of ho3⟩, _, rfl, o, _, _, rfl, rfl, ho3, by rw [List.length_map]; exact small1000 (by omega), ?_⟩
        exact ⟨_, _, ts', rfl, (s3.trans s4).later no0, (s13.trans s4).later no, q1, by rw [ef]; exact q2, fun j t R' a b => q3 j t R' a (by rw [ef] at b; exact b)⟩
    · rintro σ H2 ⟨y4, y5, ts, rfl, s3, s13, ho, hlen, htab⟩
      rw [List.length_map, hcl, List.take_length] at hlen htab
      exact ⟨.ref o, rfl, q H2 o s3 no0 ⟨ts, ho, hlen, htab⟩⟩
end
end Lo
namespace Lo
open PySem PySem.Spec L2 PyProof.Rows
section
variable {X : Cx}
/-- y = {k: v for ..}, as the name's own store -/
theorem sw_dict {ke ve : Expr} {cs : List Comprehension} {sc : Scope} {p1 p2 : Pos} {y : Str} {n : Nat} {env : Env}
    (k1 : env.scope.kind = .function) (k2 : env.scope.names.lookup y = some .local)
    (k3 : (p2.line == p1.line) = true) (k4 : (sc.names.any fun (a, b) => a == y && (b == .local || b == .cell)) = false) :
    swapsWith (.DictComp ke ve cs sc p1) (some (.Name y p2)) n env = pure true := by
  have q1 : env.kindOf y = some .local := k2
  have q2 : env.blockKind = .function := by
    unfold Env.blockKind
    rw [k1]
    rfl
  unfold swapsWith
  simp only [q2, q1, k4, Expr.pos, k3]
  rfl
theorem ps_setDc {i : Nat} {y : Str} {p2 : Pos} {ke ve tg it : Expr} {cond : List Expr} {sc : Scope}
    {own : List (Str × Nat)} {p1 p3 : Pos} {wi : TI} {g : TG} {tt : TT} {tk tv : TE}
    (calm : X.calm = true) (nd : X.N.Nodup) (slot : X.N[i]? = some y) (loc : X.env.scope.names.lookup y = some .local)
    (sw : swapsWith (.DictComp ke ve [⟨tg, it, cond, 0⟩] sc p1) (some (.Name y p2)) p3.line X.env = pure true)
    (walk : PI X tg it wi) (blk : BlkOk X.N X.env.scope sc own)
    (pg : ∀ s H C cl fp, PG (X.blk s H sc (compEnvC sc cl C X.env) fp) tg g)
    (pt : ∀ s H C cl fp, PTs (X.blk s H sc (compEnvC sc cl C X.env) fp) cond tt)
    (pk : ∀ s H C cl fp, PE (X.blk s H sc (compEnvC sc cl C X.env) fp) ke tk)
    (pv : ∀ s H C cl fp, PE (X.blk s H sc (compEnvC sc cl C X.env) fp) ve tv)
    (fold : ∀ x, foldedSetIterable it X.env x = pure x := by intro _; rfl) :
    PS X (.Assign [.Name y p2] (.DictComp ke ve [⟨tg, it, cond, 0⟩] sc p1) p3) (tAsg (tDc wi g tt tk tv (own.map (·.2))) (gName i)) := by
  constructor
  intro pins s σ H Ds I read
  rw [exec_Assign_Name_used _ _ _ _ sw]
  apply wpAny_bind
  apply wpAny_standAt
  apply wpAny_bind
  have read : tDc wi g tt tk tv (own.map (·.2)) σ H (fun x H1 => gName i x σ H1 Ds.nx) := read
  refine wpAny_bind (thn (dc_core (use := some (assign (.Name y p2) X.env)) (Qf := fun _ s' => SP X pins Ds .next s') calm nd I walk blk pg pt pk pv fold read fun L C s' m H' J hq hn fp => ?_) fun _ s' last => wpAny_pure (wpAny_pure last))
  show wpAny _ _ (assign (.Name y p2) X.env (.ref L)) _ _ _
  apply wpAny_assign_Name
  refine store_ok2 (v := V.ref L) J nd slot (.inl loc) rfl (fun s2 J2 ⟨b, but, which⟩ => ?_) (.inr loc)
  obtain ⟨f0, f1, f2, f3, f4, f5⟩ := fp
  have apart : C ≠ b := by
    cases which with
    | inl w => exact w ▸ f1
    | inr w => exact fun same => f4 y b w same.symm
  refine ⟨m, hn.sameBut but apart, fun h3 but3 => ⟨_, H', ?_, hq⟩⟩
  exact J2.turned (t' := s2.toks) (fun c o hc e => (but3.2 c hc).trans e) f0 f1 f3 f4 f5
end
end Lo
namespace Lo
open PySem L2
abbrev sRegion : Stmt := top 44
abbrev sRInit : Stmt := inClass sRegion 0
theorem ftn : ¬ (("_names" : Str) = "_tables") := by decide +kernel
def rflds (np tl : Addr) : List (Str × V) := putF "_tables" (.ref tl) (putF "_names" (.ref np) [])
theorem rflds_eq (np tl : Addr) : rflds np tl = ([("_names", V.ref np), ("_tables", V.ref tl)] : List (Str × V)) := by
  show (if ("_names" : Str) = "_tables" then [(("_names" : Str), V.ref tl)] else (("_names" : Str), V.ref np) :: putF "_tables" (V.ref tl) []) = _
  rw [if_neg ftn]
  rfl
theorem rflds_n (np tl : Addr) : (rflds np tl).lookup ("_names" : Str) = some (.ref np) := by
  unfold rflds
  rw [lookup_putF, if_neg ftn, lookup_putF, if_pos rfl]
theorem rflds_t (np tl : Addr) : (rflds np tl).lookup ("_tables" : Str) = some (.ref tl) := by
  unfold rflds
  rw [lookup_putF, if_pos rfl]
theorem rflds_no (np tl : Addr) {m : Str} (h1 : ¬ m = "_names") (h2 : ¬ m = "_tables") : (rflds np tl).lookup m = none := by
  unfold rflds
  rw [lookup_putF, if_neg h2, lookup_putF, if_neg h1]
  rfl
theorem rflds_put (np tl t : Addr) : putF "_tables" (.ref t) (rflds np tl) = rflds np t := by
  rw [rflds_eq, rflds_eq]
  show (if ("_names" : Str) = "_tables" then _ else (("_names" : Str), V.ref np) :: (if ("_tables" : Str) = "_tables" then [(("_tables" : Str), V.ref t)] else _)) = _
  rw [if_neg ftn, if_pos rfl]
/-- a region at p -/
structure RegAt (C : Addr) (H : Hp) (p np tl : Addr) (ns : List Str) (Rs : List (List SRow)) (zs : List Str) : Prop where
  ob : ∃ dx, H p = some (.ins C dx (rflds np tl))
  nm : H np = some (.tup (ns.map V.str))
  tb : Tabs H tl Rs zs
theorem RegAt.same {C : Addr} {H H' : Hp} {p np tl : Addr} {ns : List Str} {Rs : List (List SRow)} {zs : List Str} (s : Same H H') (h : RegAt C H p np tl ns Rs zs) : RegAt C H' p np tl ns Rs zs := by
  obtain ⟨⟨dx, h1⟩, h2, h3⟩ := h
  exact ⟨⟨dx, s _ _ h1⟩, s _ _ h2, h3.same s⟩
/-- what the text asks of the class -/
structure RTxt (K : PySem.W.Frag) (mg : Str → Option Value) (C fI : Addr) : Prop where
  cl : Cls K C
  nN : NoAttr K C "_names"
  nT : NoAttr K C "_tables"
  make : Mk K C fI
  mg : mg "Region" = some (.ref C)
/-- an object that is new: what stood ahead of it stands -/
theorem same_new {H H' : Hp} {p : Addr} (np : H p = none) (h : ∀ b o, H b = some o → b ≠ p → H' b = some o) : Same H H' := fun b o e => h b o e (ne_of_none e np)
section
variable {P : Program} {w : World} {K : PySem.W.Frag} {mg : Str → Option Value} {base : Heap}
/-! ### Region.__init__ -/
def spRInit (K : PySem.W.Frag) (C : Addr) : Sp := fun vs H Q _ => ∃ (p np L dx : Addr) (ns : List Str) (Ss : List (List SRow)), vs = [.ref p, .ref np, .ref L] ∧ H p = some (.ins C dx []) ∧ SqT K H np (ns.map V.str) ∧ NamesR ns ∧ Syss H L Ss ∧ Ss.length ≤ 100 ∧ (∀ R ∈ Ss, Good R ∧ ∀ r ∈ R, In2 ns r) ∧
  ∀ H' np' tl, (∀ b o, H b = some o → b ≠ p → H' b = some o) → RegAt C H' p np' tl ns (Ss.filter satB) (("0" : Str) :: ns) → Q .non H'
theorem scRInit : FnScope ["self", "names", "systems"] ["self", "names", "systems"] (defScope sRInit) := ⟨rfl, rfl, rfl, by decide +kernel, rfl, by decide +kernel, by decide +kernel⟩
theorem ok_rinit {f fN fT C : Addr} {fd fdN fdT : FuncData} (F : Fun K "__init__" "Region.__init__" sRInit f fd) {fI : Addr} (X : RTxt K mg C fI)
    (GN : FnOk P w K mg base CX0 3 fN fdN ["names"] (spReadN K)) (kN : PySem.W.keepIn K (.ref fN) = true) (bN : Binds K fdN ["names"] []) (gN : mg "read_names" = some (.ref fN))
    (GT : FnOk P w K mg base CX0 5 fT fdT ["names", "systems"] (spReadTs K)) (kT : PySem.W.keepIn K (.ref fT) = true) (bT : Binds K fdT ["names", "systems"] []) (gT : mg "_read_tables" = some (.ref fT)) :
    FnOk P w K mg base CX0 6 f fd ["self", "names", "systems"] (spRInit K C) := by
  refine F.ok scRInit (fun vs H Q E h => ?_) (fun cdv A outer s H vs Q E hr h => ?_)
  · obtain ⟨p, np, L, dx, ns, Ss, rfl, _⟩ := h
    rfl
  · obtain ⟨p, np, L, dx, ns, Ss, rfl, hp, hN, N, hL, few, hg, q⟩ := h
    have nd := scRInit.nd
    refine ⟨_, pss_cons (ps_fld (pv 0) (pe_call GN (hr.mono (by decide)) (by rfl) gN kN bN .nil pass0 (pa_cons (pv 1) pa_nil)) rfl)
      (pss_one (ps_fld (pv 0) (pe_call GT hr (by rfl) gT kT bT .nil pass0 (pa_cons (pe_fld (pv 0) rfl) (pa_cons (pv 2) pa_nil))) rfl)), ?_⟩
    refine ⟨.ref np, rfl, np, ns, rfl, hN, N, fun H1 np1 s1 nnp hnp1 => ?_⟩
    have hp1 := s1 _ _ hp
    refine ⟨_, rfl, p, C, dx, [], rfl, hp1, X.cl, X.nN, by decide, ?_⟩
    have npn : np1 ≠ p := fun e => by
      rw [e, hp] at nnp
      cases nnp
    have hnp2 : upd H1 p (.ins C dx (putF "_names" (.ref np1) [])) np1 = some (.tup (ns.map V.str)) := by
      rw [upd_ne npn]
      exact hnp1
    have out : ∀ {b : Addr} {o : HO}, H1 b = some o → b ≠ p → upd H1 p (.ins C dx (putF "_names" (.ref np1) [])) b = some o := fun {b o} e n => by
      rw [upd_ne n]
      exact e
    have hL2 : Syss (upd H1 p (.ins C dx (putF "_names" (.ref np1) []))) L Ss := by
      obtain ⟨ls, h1, h2, h3⟩ := hL.same s1
      refine ⟨ls, out h1 (ne_of h1 hp1 (by intro z; cases z)), h2, fun i l R a b => ?_⟩
      obtain ⟨ps, g1, g2, g3⟩ := h3 i l R a b
      refine ⟨ps, out g1 (ne_of g1 hp1 (by intro z; cases z)), g2, fun j q r c d => ?_⟩
      have z := g3 j q r c d
      exact out z (ne_of z hp1 (by intro y; cases y))
    refine ⟨.ref p, rfl, p, C, dx, _, _, rfl, upd_same, X.cl, X.nN, by rw [lookup_putF, if_pos rfl], .ref L, rfl, np1, L, ns, Ss, rfl, SqT.of hnp2, hL2, few, hg, fun H3 tl s3 ntl hT => ?_⟩
    have hp3 := s3 _ _ (upd_same (H := H1) (a := p) (o := HO.ins C dx (putF "_names" (.ref np1) [])))
    refine ⟨_, rfl, p, C, dx, _, rfl, hp3, X.cl, X.nT, by show 1 < 1000; decide, ?_⟩
    refine q _ np1 tl (fun b o e n => ?_) ⟨⟨dx, upd_same⟩, ?_, ?_⟩
    · rw [upd_ne n]
      exact s3 _ _ (out (s1 _ _ e) n)
    · rw [upd_ne npn]
      exact s3 _ _ hnp2
    · obtain ⟨ts, h1, h2, h3⟩ := hT
      have off : ∀ {b : Addr} {kvs : List (Key × V)}, H3 b = some (.dK kvs) → upd H3 p (.ins C dx (putF "_tables" (.ref tl) (putF "_names" (.ref np1) []))) b = some (.dK kvs) := fun {b kvs} e => by
        rw [upd_ne (ne_of e hp3 (by intro z; cases z))]
        exact e
      refine ⟨ts, ?_, h2, fun i t R a b => ?_⟩
      · rw [upd_ne (ne_of h1 hp3 (by intro z; cases z))]
        exact h1
      · obtain ⟨ns', ra, rk, rv, TG, g2, g3, g4, g5⟩ := h3 i t R a b
        exact ⟨ns', ra, rk, rv, ⟨off TG.dict, TG.nd, fun x hx => off (TG.row x hx), TG.off, TG.rnd⟩, g2, g3, g4, g5⟩
end
end Lo
namespace Lo
open PySem L2
def OkS (ns : List Str) (m : Nat) (R : List SRow) : Prop := (∀ r ∈ R, Good1 r ∧ OkR r ∧ In2 ns r) ∧ R.length ≤ m
abbrev sLParts : Stmt := top 61
theorem Sys.cat2 {H : Hp} {p t1 t2 : Addr} {ps : List Addr} {R : List SRow} {r1 r2 : SRow} (h2 : ps.length = R.length) (h3 : ∀ (i : Nat) (q : Addr) (r : SRow), ps[i]? = some q → R[i]? = some r → RowT H q r) (e1 : RowT H t1 r1) (e2 : RowT H t2 r2)
    (hp : H p = some (.lst (ps.map V.ref ++ [.ref t1, .ref t2]))) : Sys RowT H p (R ++ [r1] ++ [r2]) := by
  refine ⟨ps ++ [t1, t2], by rw [hp, List.map_append]; rfl, by simp [h2], fun i q r hq hr => ?_⟩
  rw [List.append_assoc] at hr
  by_cases k : i < ps.length
  · rw [List.getElem?_append_left k] at hq
    rw [List.getElem?_append_left (by omega)] at hr
    exact h3 i q r hq hr
  · rw [List.getElem?_append_right (by omega)] at hq
    rw [List.getElem?_append_right (by omega), ← h2] at hr
    have hi : i - ps.length = 0 ∨ i - ps.length = 1 := by
      have := (List.getElem?_eq_some_iff.mp hq).1
      simp only [List.length_cons, List.length_nil] at this
      omega
    rcases hi with z | z
    · rw [z] at hq hr
      have a1 : t1 = q := Option.some.inj hq
      have a2 : r1 = r := Option.some.inj hr
      exact a1 ▸ a2 ▸ e1
    · rw [z] at hq hr
      have a1 : t2 = q := Option.some.inj hq
      have a2 : r2 = r := Option.some.inj hr
      exact a1 ▸ a2 ▸ e2
/-- the law's table of a system -/
def LT (H : Hp) (t : Addr) (R : List SRow) (es : List Str) : Prop := ∃ (ps : List (Str × Str)) (f : Str × Str → Int), TbAt H t es ps f ∧ ∀ a ∈ es, ∀ b ∈ es, D R a b = tbF ps f a b
theorem LT.same {H H' : Hp} {t : Addr} {R : List SRow} {es : List Str} (s : Same H H') (h : LT H t R es) : LT H' t R es := by
  obtain ⟨ps, f, T, h2⟩ := h
  exact ⟨ps, f, T.same s, h2⟩
def LTs (H : Hp) (L : Addr) (Rs : List (List SRow)) (es : List Str) : Prop := ∃ ts : List Addr, H L = some (.lst (ts.map V.ref)) ∧ ts.length = Rs.length ∧ ∀ (i : Nat) (t : Addr) (R : List SRow), ts[i]? = some t → Rs[i]? = some R → LT H t R es
theorem LTs.same {H H' : Hp} {L : Addr} {Rs : List (List SRow)} {es : List Str} (s : Same H H') (h : LTs H L Rs es) : LTs H' L Rs es := by
  obtain ⟨ts, h1, h2, h3⟩ := h
  exact ⟨ts, s _ _ h1, h2, fun i t R a b => (h3 i t R a b).same s⟩
/-- systems as data -/
def syssD (Ss : List (List SRow)) : PyData := .list (Ss.map rowsD)
theorem lay_syss : ∀ {Ss : List (List SRow)}, (∀ R ∈ Ss, ∀ r ∈ R, OkR r) → PyData.canLayAll0 (Ss.map rowsD) = true
  | [], _ => by simp [PyData.canLayAll0]
  | R :: Ss, h => by
    have h1 := shaped_rows (h R List.mem_cons_self)
    have h2 := lay_syss (Ss := Ss) fun R' m => h R' (List.mem_cons_of_mem _ m)
    have h3 := SeqAt.canLay_of_shaped h1
    simp [PyData.canLayAll0, h2, h3]
theorem deep_syss : ∀ Ss : List (List SRow), PyData.depthAll (Ss.map rowsD) ≤ 3
  | [] => by simp [PyData.depthAll]
  | R :: Ss => by
    have ih := deep_syss Ss
    have h := deep_rows R
    simp only [List.map_cons, PyData.depthAll]
    have e : (rowsD R).depth ≤ 3 := by
      unfold rowsD
      simp only [PyData.depth]
      omega
    omega
theorem shaped_syss {Ss : List (List SRow)} (h : ∀ R ∈ Ss, ∀ r ∈ R, OkR r) : SeqAt.shaped (syssD Ss) = true := by
  have d := deep_syss Ss
  unfold syssD
  simp [SeqAt.shaped, PyData.canLay0, PyData.depth, lay_syss h]
  omega
theorem eqv_syss0 (Ss : List (List SRow)) : PyData.eqv (syssD Ss) (.list []) = decide (Ss = []) := by
  unfold syssD
  cases Ss <;> simp [PyData.eqv, PyData.eqvAll]
theorem dp_lists {K : PySem.W.Frag} {H : Hp} : ∀ (ls : List Addr) (Ss : List (List SRow)), ls.length = Ss.length → (∀ (i : Nat) (l : Addr) (R : List SRow), ls[i]? = some l → Ss[i]? = some R → Sys RowT H l R) → DpAll K H (ls.map V.ref) (Ss.map rowsD)
  | [], [], _, _ => .nil
  | l :: ls, R :: Ss, hl, h => .cons (dp_sys (h 0 l R rfl rfl)) (dp_lists ls Ss (Nat.succ.inj hl) fun i p' r' h1 h2 => h (i + 1) p' r' h1 h2)
  | [], _ :: _, hl, _ => absurd hl (by simp)
  | _ :: _, [], hl, _ => absurd hl (by simp)
theorem dp_syss {K : PySem.W.Frag} {H : Hp} {L : Addr} {Ss : List (List SRow)} (h : Syss H L Ss) : Dp K H (.ref L) (syssD Ss) := by
  obtain ⟨ls, h1, h2, h3⟩ := h
  exact .lst (SqL.of h1) (dp_lists ls Ss h2 h3)
theorem OkS.good {ns : List Str} {m : Nat} {R : List SRow} (h : OkS ns m R) (hm : m ≤ 100) : Good R := ⟨fun r hr => (h.1 r hr).1, Nat.le_trans h.2 hm⟩
theorem OkS.named {ns : List Str} {m : Nat} {R : List SRow} (h : OkS ns m R) : ∀ x, Named R x → x ∈ (("0" : Str) :: ns) := fun x ⟨r, hr, e⟩ => by
  obtain ⟨_, _, i1, i2⟩ := h.1 r hr
  rcases e with e | e
  · exact e ▸ i1
  · exact e ▸ i2
theorem NamesR.nd0 {ns : List Str} (N : NamesR ns) : (("0" : Str) :: ns).Nodup := List.nodup_cons.mpr ⟨fun m => (N.ok _ m).2.1 rfl, N.nd⟩
section
variable {P : Program} {w : World} {K : PySem.W.Frag} {mg : Str → Option Value} {base : Heap}
/-! ### _law_parts -/
def spLParts (K : PySem.W.Frag) : Sp := fun vs H Q _ => ∃ (s np : Addr) (at_ most : Int) (ns : List Str), vs = [.ref s, .int at_, .ref np, .int most] ∧ Scr K H s ∧ H np = some (.tup (ns.map V.str)) ∧ Names ns ∧ 0 ≤ most ∧ most ≤ 10 ∧
  ∀ (H' : Hp) (L : Addr) (ls : List Addr) (Ss : List (List SRow)), Same H H' → H L = none → H' L = some (.lst (ls.map V.ref)) → ls.length = Ss.length → ls.Nodup → (∀ l ∈ ls, H l = none ∧ l ≠ L) → (ls.length : Int) ≤ most → (∀ (i : Nat) (l : Addr) (R : List SRow), ls[i]? = some l → Ss[i]? = some R → Sys RowT H' l R) → (∀ R ∈ Ss, OkS ns 10 R) → Q (.ref L) H'
abbrev nLParts : List Str := ["script", "at", "names", "most", "turn"]
theorem scLParts : FnScope nLParts ["script", "at", "names", "most"] (defScope sLParts) := ⟨rfl, rfl, rfl, by decide +kernel, rfl, by decide +kernel, by decide +kernel⟩
theorem ok_lparts {f fD fS : Addr} {fd fdD fdS : FuncData} (F : Fun K "_law_parts" "_law_parts" sLParts f fd) (T : Blt mg) (GD : FnOk P w K mg base CX0 1 fD fdD ["script", "at", "many"] (spDraw K)) (kD : PySem.W.keepIn K (.ref fD) = true) (bD : Binds K fdD ["script", "at", "many"] []) (gD : mg "_law_draw" = some (.ref fD))
    (GS : FnOk P w K mg base CX0 2 fS fdS ["script", "at", "names", "most"] (spSystem K)) (kS : PySem.W.keepIn K (.ref fS) = true) (bS : Binds K fdS ["script", "at", "names", "most"] []) (gS : mg "_law_system" = some (.ref fS)) :
    FnOk P w K mg base CX0 3 f fd ["script", "at", "names", "most"] (spLParts K) := by
  refine F.ok scLParts (fun vs H Q E h => ?_) (fun cdv A outer s0 H vs Q E hr h => ?_)
  · obtain ⟨s, np, a, m, ns, rfl, _⟩ := h
    rfl
  · obtain ⟨s, np, a, most, ns, rfl, hS, hN, N, hm0, hm1, q⟩ := h
    have nd := scLParts.nd
    have r1 := hr.mono (show 1 ≤ 2 by decide)
    refine ⟨_, pss_one (ps_ret (pe_lc (own := [("turn", 4)]) (g := gName 4) (tt := tYes) rfl nd (pi_range1 (by rfl) T.range (pa_cons (pe_call GD r1 (by rfl) gD kD bD .nil pass0 (pa_cons (pv 0) (pa_cons (pv 1) (pa_cons (pe_op op_add (pv 3) pe_int) pa_nil)))) pa_nil)) (blkOk_by (N := nLParts) (sc := defScope sLParts) (by decide +kernel))
      (fun _ _ _ _ _ => pg_name (i := 4) nd rfl (.inl rfl)) (fun _ _ _ _ _ => pts_nil) (fun _ _ _ _ _ => pe_call GS hr (by rfl) gS kS bS .nil pass0 (pa_cons (pv 0) (pa_cons (pe_op op_add (pe_op op_add (pv 1) pe_int) (pe_op op_mul pe_int (pv 4))) (pa_cons (pv 2) (pa_cons pe_int pa_nil))))))), ?_⟩
    refine ⟨.ref s, rfl, .int a, rfl, _, rfl, _, _, rfl, rfl, s, _, _, rfl, hS, by omega, fun H1 k s1 k0 k1 => ?_⟩
    refine ⟨_, rfl, by omega, by omega, fun c nc => ?_⟩
    have nc0 := s1.free nc
    refine lc_range (lo := 0) (fun i H' => ∃ (ls : List Addr) (Ss : List (List SRow)), Same H H' ∧ H' c = some (.lst (ls.map V.ref)) ∧ ls.length = i ∧ Ss.length = i ∧ ls.Nodup ∧ (∀ l ∈ ls, H l = none ∧ l ≠ c) ∧
        (∀ (j : Nat) (l : Addr) (R : List SRow), ls[j]? = some l → Ss[j]? = some R → Sys RowT H' l R) ∧ ∀ R ∈ Ss, OkS ns 10 R)
      ⟨[], [], s1.trans (same_upd nc), upd_same, rfl, rfl, List.nodup_nil, fun l h => absurd h List.not_mem_nil, fun j l R e => (nomatch e), fun R h => absurd h List.not_mem_nil⟩ ?_ ?_
    · rintro i H2 hi ⟨ls, Ss, s2, hc, hll, hSl, hnd, hnew, hat, hok⟩
      refine ⟨rfl, ?_⟩
      unfold tYes
      refine iteT ?_
      refine ⟨.ref s, rfl, .int a, rfl, _, _, rfl, rfl, _, rfl, _, _, rfl, rfl, .inl ⟨by decide, by decide⟩, _, _, rfl, rfl, .ref np, rfl, s, np, _, 4, ns, rfl, hS.same s2, s2 _ _ hN, N, by decide, by decide, fun H3 p rows s3 np3 hsys hg hlen hrow => ?_⟩
      have hc3 := s3 _ _ hc
      have npc : p ≠ c := fun e => by
        rw [e, hc] at np3
        cases np3
      have pout : p ∉ ls := fun m => by
        obtain ⟨j, hj, e⟩ := List.getElem_of_mem m
        obtain ⟨ps, g1, _⟩ := hat j p (Ss[j]'(by omega)) (by rw [List.getElem?_eq_getElem hj, e]) (List.getElem?_eq_getElem (by omega))
        rw [np3] at g1
        cases g1
      have out : ∀ {b : Addr} {R' : List SRow}, Sys RowT H3 b R' → b ≠ c → Sys RowT (upd H3 c (.lst (ls.map V.ref ++ [.ref p]))) b R' := fun {b R'} ⟨ps, h1, h2, h3⟩ nb => ⟨ps, by rw [upd_ne nb]; exact h1, h2, fun i q r a b => by
          have z := h3 i q r a b
          show upd H3 c _ q = _
          rw [upd_ne (ne_of z hc3 (by intro z; cases z))]
          exact z⟩
      refine ⟨_, hc3, by rw [List.length_map, hll]; exact small1000 (by omega), ls ++ [p], Ss ++ [rows], (s2.trans s3).later nc0, by rw [upd_same, List.map_append]; rfl, by rw [List.length_append, hll]; rfl, by rw [List.length_append, hSl]; rfl, ?_, fun l hl => ?_, fun j l R hl hR => ?_, fun R hR => ?_⟩
      · exact List.nodup_append.mpr ⟨hnd, List.nodup_cons.mpr ⟨List.not_mem_nil, List.nodup_nil⟩, fun x hx y hy e => pout (List.mem_singleton.mp hy ▸ e ▸ hx)⟩
      · rcases List.mem_append.mp hl with m | m
        · exact hnew l m
        · rw [List.mem_singleton.mp m]
          exact ⟨s2.free np3, npc⟩
      · by_cases k : j < i
        · rw [List.getElem?_append_left (by omega)] at hl
          rw [List.getElem?_append_left (by omega)] at hR
          exact out ((hat j l R hl hR).sameT s3) (hnew l (List.mem_of_getElem? hl)).2
        · have hj2 : j = i := by
            have := (List.getElem?_eq_some_iff.mp hl).1
            rw [List.length_append, List.length_singleton] at this
            omega
          subst hj2
          rw [List.getElem?_append_right (by omega), hll, Nat.sub_self] at hl
          rw [List.getElem?_append_right (by omega), hSl, Nat.sub_self] at hR
          have e1 : p = l := Option.some.inj hl
          have e2 : rows = R := Option.some.inj hR
          subst e1 e2
          exact out hsys npc
      · rcases List.mem_append.mp hR with m | m
        · exact hok R m
        · rw [List.mem_singleton.mp m]
          exact ⟨fun r hr => ⟨hg.row r hr, (hrow r hr).1, (hrow r hr).2⟩, hlen⟩
    · rintro H2 ⟨ls, Ss, s2, hc, hll, hSl, hnd, hnew, hat, hok⟩
      exact q H2 c ls Ss s2 nc0 hc (by omega) hnd hnew (by omega) hat hok
end
end Lo
set_option maxHeartbeats 4000000
/-! sorted(l, key=f), f a def or a built-in that gives whole numbers -/
namespace KyS
open PySem PySem.Spec PyProof.Rows L2
section
variable {X : Cx} {pins : List (Addr × Obj)} {σ : L2.St} {H : Hp} {s : Shared} {a kS : Addr}
/-- an object that is not tracked as yet is tracked from here on -/
theorem adopt {o : HO} (I : Inv X pins σ H s) (fa : FpOk X pins H a) (new : ObjOk X.prog X.w (upd H a o) s.heap a o) : Inv X pins σ (upd H a o) s := by
  obtain ⟨f0, f1, f2, f3, f4, f5⟩ := fa
  have out : ∀ {b : Addr} {u : HO}, H b = some u → upd H a o b = some u := fun {b u} e => by
    rw [upd_ne (ne_of_none e f0)]
    exact e
  refine ⟨I.ok, I.os, I.bare, ?_, I.loc, I.cell, ?_, fun x c e => ?_, fun p hp => ?_, fun b u e => ?_, I.len⟩
  · have B := I.base
    refine ⟨B.keep, B.slot, fun b ob e n hx => ?_, B.there, fun b xs e => out (B.tups b xs e), fun b ob u e => out (B.frzs b ob u e), fun b ps e => ?_⟩
    · have nb : b ≠ a := fun z => by
        subst z
        rcases f3 with h | h
        · exact hx h
        · exact absurd (Heap.lt_size e) (Nat.not_lt.mpr h)
      rw [upd_ne nb]
      exact B.free b ob e n hx
    · obtain ⟨more, e2⟩ := B.tbls b ps e
      exact ⟨more, out e2⟩
  · rw [upd_ne (Ne.symm f1)]
    exact I.free
  · rw [upd_ne (f4 x c e)]
    exact I.freeC x c e
  · obtain ⟨h1, h2, h3⟩ := I.pin p hp
    exact ⟨h1, by rw [upd_ne (f5 p hp)]; exact h2, h3⟩
  · by_cases z : b = a
    · subst z
      rw [upd_same] at e
      cases e
      exact new
    · rw [upd_ne z] at e
      exact (I.hok b u e).stay (fun c v _ q => q) (fun c q => out q) fun c xs q => out q
/-- a change of an object that is not tracked -/
theorem turn1 {h' : Heap} (I : Inv X pins σ H s) (fa : FpOk X pins H a) (hs : Heap.SameBut a s.heap h') : Inv X pins σ H { s with heap := h' } := by
  obtain ⟨f0, f1, f2, f3, f4, f5⟩ := fa
  exact I.turned (t' := s.toks) (fun b o hb e => (hs.2 b hb).trans e) f0 f1 f3 f4 f5
/-- while the keys are asked for: the emptied list at a, the keys at kS -/
structure KS (X : Cx) (pins : List (Addr × Obj)) (σ : L2.St) (H : Hp) (a kS : Addr) (e1 : Nat) (kA : Array Value) (e : Nat) (s : Shared) : Prop where
  inv : Inv X pins σ H s
  ga : s.heap.get? a = some (seqObj "list" #[] e1)
  gk : s.heap.get? kS = some (seqObj "list" kA e)
section
variable {A : Around} {E : Value → Shared → Prop} {e e1 : Nat} {vs : List Value} {kz : List Int} {keys : Array Value} {P : PySem.Fin → Shared → Prop}
theorem tail_ {st : SortSt} (fa : FpOk X pins H a) (fk : FpOk X pins H kS) (hka : kS ≠ a) (S : KS X pins σ H a kS e1 keys e s)
    (hk : IntsAre keys.toList kz) (hlen : kz.length = vs.length) (hZ : vs.length ≤ sizeLine) (hp : (arrOf st).Perm (keys.zip vs.toArray)) (hs : SortedTo (arrOf st) (arrOf st).size) (hfl : failedOf st = none) (hst : Stable intKind (arrOf st) (keys.zip vs.toArray))
    (h : ∀ s' out c, Inv X pins σ H s' → s'.heap.get? a = some (seqObj "list" out c) → KskOutSt false kz vs out.toList → P (.done (.ret .none)) s') :
    wpAny (model X.prog X.w) A (ksk_tail a false e1 (.ref kS) st) P E s := by
  have hZ2 := hZ
  rw [sizeLine_eq] at hZ2
  have nk := S.gk
  have na := S.ga
  have hsz : keys.size = vs.length := by
    have h1 := hk.length
    rw [Array.length_toList] at h1
    omega
  have hsz2 : (arrOf st).size = vs.length := by rw [hp.size_eq, Array.size_zip, hsz, List.size_toArray, Nat.min_self]
  have hout : ((arrOf st).map (·.2)).size = vs.length := by
    rw [Array.size_map]
    exact hsz2
  have s1 := Heap.SameBut.update s.heap kS (Obj.mapSeq fun _ => (#[] : Array Value))
  have na1 : (s.heap.update kS (Obj.mapSeq fun _ => (#[] : Array Value))).get? a = some (seqObj "list" #[] e1) := (s1.2 a hka.symm).trans na
  have s2 := Heap.SameBut.update (s.heap.update kS (Obj.mapSeq fun _ => (#[] : Array Value))) a (Obj.mapSeq fun _ => (arrOf st).map (·.2))
  obtain ⟨c2, hc2⟩ : ∃ c2, ((s.heap.update kS (Obj.mapSeq fun _ => (#[] : Array Value))).update a (Obj.mapSeq fun _ => (arrOf st).map (·.2))).get? a = some (seqObj "list" ((arrOf st).map (·.2)) c2) :=
    ⟨_, get?_update_seq na1 fun _ => (arrOf st).map (·.2)⟩
  have I1 := turn1 S.inv fk s1
  have I2 := turn1 I1 fa s2
  unfold ksk_tail
  try dsimp only
  refine wpAny_bind (listUpdate_at nk rfl ?_ (by rw [hsz, sizeLine_eq]; omega) (Nat.zero_le _))
  refine wpAny_bind (wpAny_letGo ?_)
  refine wpAny_bind (seqEpoch_at na1 rfl ?_)
  refine wpAny_bind (listUpdate_at na1 rfl ?_ (Nat.zero_le _) (Nat.le_trans (Nat.le_of_eq hout) (by rw [sizeLine_eq]; omega)))
  rw [hfl]
  simp only [bne_self_eq_false, Bool.false_eq_true, if_false]
  exact wpAny_pure (h _ _ c2 I2 hc2 (by
    have := ksk_outSt (b := false) hk hp hs (by simpa using hst)
    simpa using this))
theorem end_ (fa : FpOk X pins H a) (fk : FpOk X pins H kS) (hka : kS ≠ a) (S : KS X pins σ H a kS e1 keys e s) (hk : IntsAre keys.toList kz) (hlen : kz.length = vs.length) (hZ : vs.length ≤ sizeLine)
    (h : ∀ s' out c, Inv X pins σ H s' → s'.heap.get? a = some (seqObj "list" out c) → KskOutSt false kz vs out.toList → P (.done (.ret .none)) s') :
    wpAny (model X.prog X.w) A (ksk_end a false vs.toArray e1 (.ref kS) keys) P E s := by
  have hZ2 := hZ
  rw [sizeLine_eq] at hZ2
  have hsz : keys.size = vs.length := by
    have h1 := hk.length
    rw [Array.length_toList] at h1
    omega
  have hzs : (keys.zip vs.toArray).size = vs.length := by rw [Array.size_zip, hsz, List.size_toArray, Nat.min_self]
  unfold ksk_end
  simp only [Bool.false_eq_true, if_false]
  try dsimp only
  by_cases h2 : vs.toArray.size < 2
  · rw [if_pos h2, if_pos h2]
    refine wpAny_bind (wpAny_pure ?_)
    rw [StateT.run_pure]
    refine wpAny_bind (wpAny_pure ?_)
    try dsimp only
    refine tail_ (st := SortSt.mk' general' (keys.zip vs.toArray) #[] 7 none) fa fk hka S hk hlen hZ (Array.Perm.refl _) ?_ rfl (Stable.refl _) h
    intro i j hij hj
    have hj2 : j < (keys.zip vs.toArray).size := hj
    rw [hzs] at hj2
    rw [List.size_toArray] at h2
    have : i = j := by omega
    subst this
    exact Int.le_refl _
  · rw [if_neg h2, if_neg h2]
    rw [List.size_toArray] at h2
    rw [ksk_kind hk (by rw [hsz]; omega)]
    refine wpAny_bind (wpAny_pure ?_)
    refine wpAny_bind (wpAny_mono (wpS_sortRunsSt (κ := intKind) (a₀ := keys.zip vs.toArray)
      (st := SortSt.mk' oneType' (keys.zip vs.toArray) #[] 7 none)
      (Q := fun _ st' => (arrOf st').Perm (keys.zip vs.toArray) ∧ failedOf st' = none ∧ SortedTo (arrOf st') (arrOf st').size ∧ Stable intKind (arrOf st') (keys.zip vs.toArray))
      intKind_oneLt (ksk_keysOfInt (ksk_intKeys hk)) ⟨Array.Perm.refl _, rfl, rfl⟩ rfl (Stable.refl _) (by rw [hzs]; omega)
      fun st' a1 a2 a3 a4 => ⟨a1, a2, by rw [a1.size_eq]; exact sortedTo_of_int a3, a4⟩) ?_ fun _ _ e => e)
    rintro ⟨⟨⟩, st'⟩ s' ⟨rfl, hp, hf, hs, hst⟩
    try dsimp only
    exact tail_ fa fk hka S hk hlen hZ hp hs hf hst h
/-- what is asked of the key: it gives kz, and leaves what is told as it is -/
def Turn1 (X : Cx) (pins : List (Addr × Obj)) (σ : L2.St) (H : Hp) (A : Around) (f : Value) (vs : List Value) (kz : List Int) : Prop :=
  ∀ (i : Nat) (v : Value) (k : Int), vs[i]? = some v → kz[i]? = some k → ∀ (pins' : List (Addr × Obj)) (s' : Shared), Inv X (pins ++ pins') σ H s' →
    wpAny (model X.prog X.w) A (call f [v]) (fun r s'' => ∃ t, r = .int k t ∧ Inv X (pins ++ pins') σ H s'') (fun _ _ => False) s'
theorem rest_ {f : Value} (fa : FpOk X pins H a) (fk : FpOk X pins H kS) (hka : kS ≠ a) (S : KS X pins σ H a kS e1 #[] 0 s) (hlen : kz.length = vs.length) (hZ : vs.length ≤ sizeLine) (turn : Turn1 X pins σ H A f vs kz)
    (h : ∀ s' out c, Inv X pins σ H s' → s'.heap.get? a = some (seqObj "list" out c) → KskOutSt false kz vs out.toList → P (.done (.ret .none)) s') :
    wpAny (model X.prog X.w) A (ksk_rest a f false vs.toArray e1 (.ref kS)) P E s := by
  have hZ2 := hZ
  rw [sizeLine_eq] at hZ2
  unfold ksk_rest
  refine wpAny_bind (wpAny_rule ?_)
  first
    | rw [List.forIn_toArray]
    | (rw [← Array.forIn_toList]; simp only [List.toList_toArray])
    | rw [← Array.forIn_toList]
  refine wpAny_bind (ksk_fold (fun i s' => ∃ kA e, KS X pins σ H a kS e1 kA e s' ∧ IntsAre kA.toList (kz.take i)) vs 0 s
    ⟨#[], 0, S, by simpa using IntsAre.nil⟩ ?step ?done)
  case step =>
    rintro j x s' hx ⟨kA, e, S', hk⟩
    simp only [Nat.zero_add] at hk ⊢
    have hj : j < vs.length := (List.getElem?_eq_some_iff.mp hx).1
    obtain ⟨k, hkj⟩ : ∃ k, kz[j]? = some k := ⟨_, List.getElem?_eq_getElem (by omega)⟩
    have hz : kA.size ≤ vs.length := by
      have h1 := hk.length
      rw [Array.length_toList, List.length_take] at h1
      omega
    have nc : ∀ (xs : Array Value) (n : Nat) (v : Option Value), (seqObj "list" xs n).data ≠ .cell v := fun xs n v q => nomatch q
    have I2 : Inv X (pins ++ [(a, seqObj "list" #[] e1), (kS, seqObj "list" kA e)]) σ H s' := S'.inv.pins_of fun p hp => by
      rcases List.mem_append.mp hp with m | m
      · exact S'.inv.pin p (List.mem_append_right _ m)
      · rcases List.mem_cons.mp m with rfl | m
        · obtain ⟨f0, f1, f2, f3, f4, f5⟩ := fa
          exact ⟨S'.ga, f0, f1, f2, nc _ _⟩
        · rw [List.mem_singleton] at m
          subst m
          obtain ⟨f0, f1, f2, f3, f4, f5⟩ := fk
          exact ⟨S'.gk, f0, f1, f2, nc _ _⟩
    refine wpAny_bind (wpAny_attempt (wpAny_mono (turn j x k hx hkj _ s' I2) (fun v s'' he => ?_) fun _ _ hF => hF.elim))
    obtain ⟨t2, rfl, I3⟩ := he
    try dsimp only
    have na := (I3.pin (a, seqObj "list" #[] e1) (List.mem_append_right _ (List.mem_append_right _ (.head _)))).1
    have nk := (I3.pin (kS, seqObj "list" kA e) (List.mem_append_right _ (List.mem_append_right _ (.tail _ (.head _))))).1
    have I4 : Inv X pins σ H s'' := I3.pins_of fun p hp => I3.pin p (List.mem_append_right _ (List.mem_append_left _ hp))
    have s1 := Heap.SameBut.update s''.heap kS (Obj.mapSeq (·.push (.int k t2)))
    obtain ⟨c2, hc2⟩ : ∃ c2, (s''.heap.update kS (Obj.mapSeq (·.push (.int k t2)))).get? kS = some (seqObj "list" (kA.push (.int k t2)) c2) := ⟨_, get?_update_seq nk (·.push (.int k t2))⟩
    have ek : kz.take (j + 1) = kz.take j ++ [k] := by rw [List.take_add_one, hkj]; simp
    have ea : (kA.push (Value.int k t2)).toList = kA.toList ++ [Value.int k t2] := by simp
    refine wpAny_bind (listUpdate_at nk rfl ?_ (by rw [sizeLine_eq]; omega) (Nat.le_trans (Nat.le_of_eq (Array.size_push ..)) (by rw [sizeLine_eq]; omega)))
    exact wpAny_pure ⟨rfl, kA.push (.int k t2), c2, ⟨turn1 I4 fk s1, (s1.2 a hka.symm).trans na, hc2⟩, by rw [ea, ek]; exact ksk_snoc hk⟩
  case done =>
    rintro s' ⟨kA, e, S', hk⟩
    have hk' : IntsAre kA.toList kz := by
      have e3 : kz.take (0 + vs.length) = kz := List.take_of_length_le (by omega)
      rw [e3] at hk
      exact hk
    try dsimp only
    refine wpAny_bind (listItems_at S'.gk rfl ?_)
    exact end_ fa fk hka S' hk' hlen hZ h
theorem sort_ {f : Value} {n : Nat} (I : Inv X pins σ H s) (ho : s.heap.get? a = some (seqObj "list" vs.toArray n)) (fa : FpOk X pins H a) (hlen : kz.length = vs.length) (hZ : vs.length ≤ sizeLine) (turn : Turn1 X pins σ H A f vs kz)
    (h : ∀ s' out c, Inv X pins σ H s' → s'.heap.get? a = some (seqObj "list" out c) → KskOutSt false kz vs out.toList → P (.done (.ret .none)) s') :
    wpAny (model X.prog X.w) A (ksk_tree a f false) P E s := by
  have hZ2 := hZ
  rw [sizeLine_eq] at hZ2
  have ha : a < s.heap.objs.size := Heap.lt_size ho
  have s1 := Heap.SameBut.update s.heap a (Obj.mapSeq fun _ => (#[] : Array Value))
  obtain ⟨e1, ho1⟩ : ∃ e1, (s.heap.update a (Obj.mapSeq fun _ => (#[] : Array Value))).get? a = some (seqObj "list" #[] e1) := ⟨_, get?_update_seq ho fun _ => #[]⟩
  have hkS : ((s.heap.update a (Obj.mapSeq fun _ => (#[] : Array Value))).push (seqObj "tuple" vs.toArray 0)).objs.size = s.heap.objs.size + 1 := by rw [size_push', Heap.size_update]
  have I1 := turn1 I fa s1
  unfold ksk_tree
  refine wpAny_bind (listItems_at ho rfl ?_)
  refine wpAny_bind (listUpdate_at ho rfl ?_ (by rw [List.size_toArray, sizeLine_eq]; omega) (Nat.zero_le _))
  refine wpAny_bind (seqEpoch_at ho1 rfl ?_)
  refine wpAny_bind (wpAny_newTuple ?_ (by show vs.length ≤ _; rw [sizeLine_eq]; omega))
  refine wpAny_bind (wpAny_newList ?_ (Nat.zero_le _))
  refine wpAny_holding ?_
  have I2 : Inv X pins σ H { s with heap := ((s.heap.update a (Obj.mapSeq fun _ => (#[] : Array Value))).push (seqObj "tuple" vs.toArray 0)) } := I1.kept (t' := s.toks) fun b o e => Heap.get?_push_of_some _ e
  have I3 : Inv X pins σ H { s with heap := ((s.heap.update a (Obj.mapSeq fun _ => (#[] : Array Value))).push (seqObj "tuple" vs.toArray 0)).push (seqObj "list" #[] 0) } := I2.kept (t' := s.toks) fun b o e => Heap.get?_push_of_some _ e
  have fk : FpOk X pins H ((s.heap.update a (Obj.mapSeq fun _ => (#[] : Array Value))).push (seqObj "tuple" vs.toArray 0)).objs.size := I2.fpOk (Nat.le_refl _) (I2.hok.fresh (Nat.le_refl _))
  exact rest_ (s := { s with heap := ((s.heap.update a (Obj.mapSeq fun _ => (#[] : Array Value))).push (seqObj "tuple" vs.toArray 0)).push (seqObj "list" #[] 0) }) (kS := ((s.heap.update a (Obj.mapSeq fun _ => (#[] : Array Value))).push (seqObj "tuple" vs.toArray 0)).objs.size)
    fa fk (by rw [hkS]; exact Nat.ne_of_gt (Nat.lt_succ_of_lt ha)) ⟨I3, Heap.get?_push_of_some _ (Heap.get?_push_of_some _ ho1), Heap.get?_push_size _ rfl⟩ hlen hZ turn h
end
section
variable {A : Around} {E : Value → Shared → Prop} {l : Addr} {vs : List Value} {kz : List Int} {Q : Value → Shared → Prop}
theorem sorted_ {f : Value} {kw : List (Str × Value)} (I : Inv X pins σ H s) (hl : s.heap.IsList l vs.toArray) (hlen : kz.length = vs.length) (hZ : vs.length ≤ sizeLine)
    (ha1 : argsOk "sorted" ⟨[.ref l], kw⟩) (ha2 : ∀ x, argsOk "list.sort" ⟨[.ref x], kw⟩) (ht : ∀ x, Builtin.«list.sort» ⟨[.ref x], kw⟩ = ksk_tree x f false) (turn : Turn1 X pins σ H A.in1.in1 f vs kz)
    (h : ∀ D s' out c, Inv X pins σ H s' → FpOk X pins H D → H D = none → s'.heap.get? D = some (seqObj "list" out c) → KskOutSt false kz vs out.toList → Q (.ref D) s') :
    wpAny (model X.prog X.w) A (call (.builtin "sorted") [.ref l] kw) Q E s := by
  have hZ2 := hZ
  rw [sizeLine_eq] at hZ2
  refine call_function_entry_kw kind_sorted plain_sorted entry_sorted ha1 ?_
  unfold Builtin.«sorted»
  refine wpAny_bind (m := checkCount "sorted" 1 1 _) (wpAny_pure ?_)
  refine wpAny_bind (collect_list hl ?_ (by rw [sizeLine_eq]; omega))
  refine wpAny_bind (wpAny_newList ?_ (by rw [sizeLine_eq]; omega))
  have hsz : ((s.heap.push (seqObj "list" #[] 0)).update s.heap.objs.size (Obj.mapSeq (· ++ vs.toArray))).objs.size = s.heap.objs.size + 1 := by
    rw [Heap.size_update, size_push']
  have hoL : (((s.heap.push (seqObj "list" #[] 0)).update s.heap.objs.size (Obj.mapSeq (· ++ vs.toArray))).push (seqObj "list" vs.toArray 0)).get? (s.heap.objs.size + 1) = some (seqObj "list" vs.toArray 0) := by
    rw [← hsz]; exact Heap.get?_push_size _ rfl
  have keep : ∀ b o, s.heap.get? b = some o → (((s.heap.push (seqObj "list" #[] 0)).update s.heap.objs.size (Obj.mapSeq (· ++ vs.toArray))).push (seqObj "list" vs.toArray 0)).get? b = some o := fun b o q => by
    have hlt : b < s.heap.objs.size := Heap.lt_size q
    rw [Heap.get?_push_ne _ _ _ (by rw [hsz]; exact Nat.ne_of_lt (Nat.lt_succ_of_lt hlt)), Heap.get?_update_ne _ _ _ _ (Nat.ne_of_lt hlt), Heap.get?_push_ne _ _ _ (Nat.ne_of_lt hlt)]
    exact q
  show wpAny _ _ _ _ _ { s with heap := ((s.heap.push (seqObj "list" #[] 0)).update s.heap.objs.size (Obj.mapSeq (· ++ vs.toArray))).push (seqObj "list" vs.toArray 0) }
  rw [hsz]
  have I1 : Inv X pins σ H { s with heap := ((s.heap.push (seqObj "list" #[] 0)).update s.heap.objs.size (Obj.mapSeq (· ++ vs.toArray))).push (seqObj "list" vs.toArray 0) } := I.kept (t' := s.toks) keep
  have fD : FpOk X pins H (s.heap.objs.size + 1) := I.fpOk (Nat.le_succ _) (I.hok.fresh (Nat.le_succ _))
  refine wpAny_bind (wpAny_holding (wpAny_call_entry_kw slot_list_sort ⟨_, hoL, rfl⟩ entry_list_sort ?body (ha2 _)))
  case body =>
    have ht' := ht (s.heap.objs.size + 1)
    show wpAny (model X.prog X.w) A.in1.in1 (Builtin.«list.sort» ⟨[.ref (s.heap.objs.size + 1)], kw⟩) _ _ _
    rw [ht']
    refine sort_ I1 hoL fD hlen hZ turn fun s' out c I' g' k' => ⟨_, rfl, ?_⟩
    exact wpAny_pure ⟨_, rfl, h _ s' out c I' fD fD.1 g' k'⟩
end
end
end KyS
set_option maxHeartbeats 2000000
namespace KyS
open PySem PySem.Spec PyProof.Rows L2
/-- sorted by whole numbers, equal ones in their old order -/
def SortOut (kz : List Int) (as : List Addr) (ps : List (Int × Addr)) : Prop :=
  ps.Perm (kz.zip as) ∧ ps.Pairwise (fun p q => p.1 ≤ q.1) ∧ ∀ c, ps.filter (fun p => p.1 == c) = (kz.zip as).filter (fun p => p.1 == c)
def backA : Value → Addr
  | .ref a => a
  | _ => 0
theorem back_zip (kz : List Int) (as : List Addr) : (kz.zip (as.map Value.ref)).map (fun p => (p.1, backA p.2)) = kz.zip as := by
  rw [List.zip_map_right, List.map_map]
  conv => rhs; rw [← List.map_id (kz.zip as)]
  refine List.map_congr_left fun p _ => ?_
  rfl
theorem sortOut {kz : List Int} {as : List Addr} {out : List Value} (h : KskOutSt false kz (as.map Value.ref) out) : ∃ ps, SortOut kz as ps ∧ out = ps.map fun p => Value.ref p.2 := by
  obtain ⟨ps, hp, ho, hs, hf⟩ := h
  have mem : ∀ p ∈ ps, p.2 = Value.ref (backA p.2) := fun p hm => by
    have h1 := (List.of_mem_zip (hp.mem_iff.mp hm)).2
    obtain ⟨a, _, e⟩ := List.mem_map.mp h1
    rw [← e]
    rfl
  refine ⟨ps.map fun p => (p.1, backA p.2), ⟨?_, ?_, fun c => ?_⟩, ?_⟩
  · have := hp.map fun p : Int × Value => (p.1, backA p.2)
    rw [back_zip] at this
    exact this
  · rw [List.pairwise_map]
    exact hs.imp fun h => by simpa using h
  · rw [List.filter_map, ← back_zip kz as, List.filter_map]
    have := congrArg (List.map fun p : Int × Value => (p.1, backA p.2)) (hf c)
    exact this
  · rw [ho, List.map_map]
    exact List.map_congr_left mem
theorem valsRefs : ∀ as : List Addr, Vals (as.map V.ref) (as.map Value.ref)
  | [] => .nil
  | _ :: as => .cons rfl (valsRefs as)
theorem itsRefs {as : List Addr} {its : List Value} (rv : Vals (as.map V.ref) its) : its = as.map Value.ref := by
  have hl := Vals.length rv
  refine List.ext_getElem? fun i => ?_
  cases e : as[i]? with
  | none =>
    have h1 : as.length ≤ i := List.getElem?_eq_none_iff.mp e
    rw [List.getElem?_eq_none (by rw [← hl, List.length_map]; exact h1), List.getElem?_map, e]
    rfl
  | some a =>
    obtain ⟨u, hu, ru⟩ := rv.get (i := i) (x := .ref a) (by rw [List.getElem?_map, e]; rfl)
    obtain rfl : u = Value.ref a := ru
    rw [hu, List.getElem?_map, e]
    rfl
section
variable {X : Cx}
/-- sorted(l, key=f), f a def -/
def rSortDef (K : PySem.W.Frag) (f : Addr) (sp : Sp) : List V → List V → Hp → VK → Prop := fun xs zs H Q => ∃ (l : Addr) (as : List Addr) (kz : List Int), xs = [.ref l] ∧ zs = [.ref f] ∧ SqL K H l (as.map V.ref) ∧ kz.length = as.length ∧
  (∀ (i : Nat) (a : Addr) (k : Int), as[i]? = some a → kz[i]? = some k → sp [.ref a] H (fun v H2 => v = .int k ∧ H2 = H) (fun _ _ _ => False)) ∧
  ∀ (ps : List (Int × Addr)) (D : Addr), SortOut kz as ps → H D = none → Q (.ref D) (upd H D (.lst (ps.map fun p => V.ref p.2)))
theorem lst_ok {P : Program} {w : World} {H : Hp} {h : Heap} {D : Addr} {out : Array Value} {c : Nat} {xs : List V} (r : Vals xs out.toList) (hz : xs.length ≤ sizeLine) (e : h.get? D = some (seqObj "list" out c)) : ObjOk P w H h D (.lst xs) := by
  refine ⟨hz, out.toList, c, r, ?_⟩
  rw [e]
theorem turn_def {pins : List (Addr × Obj)} {σ : L2.St} {H : Hp} {k : Nat} {f : Addr} {fd : FuncData} {pn : Str} {sp : Sp} {as : List Addr} {kz : List Int} (F : FnOk X.prog X.w X.K X.mg X.base CX0 k f fd [pn] sp) (hr : Room (k + 2) X.A) (hb : Binds X.K fd [pn] [])
    (h : ∀ (i : Nat) (a : Addr) (k : Int), as[i]? = some a → kz[i]? = some k → sp [.ref a] H (fun v H2 => v = .int k ∧ H2 = H) (fun _ _ _ => False)) : Turn1 X pins σ H X.A.in1.in1 (.ref f) (as.map Value.ref) kz := by
  intro i v kk hv hk pins' s' I
  obtain ⟨a, ha, rfl⟩ : ∃ a, as[i]? = some a ∧ v = Value.ref a := by
    rw [List.getElem?_map] at hv
    cases e : as[i]? with
    | none =>
      rw [e] at hv
      cases hv
    | some a =>
      rw [e] at hv
      exact ⟨a, rfl, (Option.some.inj hv).symm⟩
  have b := hb s' [Value.ref a] I.kIn rfl
  refine wpAny_call (codeAny_mono (F.run X.A.in1.in1 X.stack s' H ⟨[Value.ref a], []⟩ [Value.ref a] [V.ref a] _ _ hr.in1.in1 I.env0.in1.in1 b (.cons rfl .nil) (h i a kk ha hk)) fun r s'' hq => ?_)
  cases r with
  | error e =>
    have z : CX0 X.stack H s' (fun _ _ _ => False) e s'' := hq
    exact False.elim z
  | ok fl =>
    cases fl with
    | ret u =>
      obtain ⟨v, H', J, rv, ev, eH⟩ := I.after hq
      subst ev eH
      obtain ⟨t, rfl⟩ := rv
      exact ⟨t, rfl, J⟩
    | next => exact False.elim hq
    | brk => exact False.elim hq
    | cont => exact False.elim hq
theorem cr_sortDef {k : Nat} {f : Addr} {fd : FuncData} {pn : Str} {sp : Sp} (F : FnOk X.prog X.w X.K X.mg X.base CX0 k f fd [pn] sp) (hr : Room (k + 2) X.A) (hb : Binds X.K fd [pn] []) : CallRK X (.builtin "sorted") [Str.ofString "key"] (rSortDef X.K f sp) := by
  intro pins s σ H xs zs us ws Q I r rz h
  obtain ⟨l, as, kz, rfl, rfl, hs, hlen, hk, q⟩ := h
  obtain rfl := Vals.ref1 r
  obtain ⟨w1, rfl, e1⟩ := vals1 rz
  obtain rfl : w1 = Value.ref f := e1
  obtain ⟨its, rv, pl, hz⟩ := I.list hs
  have hz2 : as.length ≤ sizeLine := by rw [← List.length_map (f := V.ref)]; exact hz
  have eits := itsRefs rv
  subst eits
  refine sorted_ (f := .ref f) (kz := kz) I (show s.heap.IsList l (as.map Value.ref).toArray from pl.isList) (by rw [List.length_map]; exact hlen) (by rw [List.length_map]; exact hz2) (ksk_s1 _ _) (fun x => ksk_l1 _ _) (fun x => ksk_t1 f x) (turn_def F hr hb hk) fun D s' out c J fD nD g ko => ?_
  obtain ⟨ps, so, eo⟩ := sortOut ko
  have hlp : ps.length ≤ sizeLine := by
    rw [so.1.length_eq, List.length_zip]
    omega
  have rel : Vals (ps.map fun p => V.ref p.2) out.toList := by
    rw [eo]
    have := valsRefs (ps.map Prod.snd)
    rw [List.map_map, List.map_map] at this
    exact this
  exact ⟨.ref D, _, adopt J fD (lst_ok rel (by rw [List.length_map]; exact hlp) g), rfl, q ps D so nD⟩
/-- sorted(l, key=len), l a list of lists -/
def bSortLen (K : PySem.W.Frag) (Q : VK) (x : V) (H1 : Hp) : Prop := ∃ (l : Addr) (as : List Addr) (kz : List Int), x = .ref l ∧ SqL K H1 l (as.map V.ref) ∧ kz.length = as.length ∧
  (∀ (i : Nat) (a : Addr) (k : Int), as[i]? = some a → kz[i]? = some k → ∃ xs, SqL K H1 a xs ∧ k = ((xs.length : Nat) : Int)) ∧
  ∀ (ps : List (Int × Addr)) (D : Addr), SortOut kz as ps → H1 D = none → Q (.ref D) (upd H1 D (.lst (ps.map fun p => V.ref p.2)))
def tSortLen (K : PySem.W.Frag) (te : TE) : TE := fun σ H Q => te σ H fun x H1 => bSortLen K Q x H1
theorem turn_len {pins : List (Addr × Obj)} {σ : L2.St} {H : Hp} {as : List Addr} {kz : List Int} {A : Around} (h : ∀ (i : Nat) (a : Addr) (k : Int), as[i]? = some a → kz[i]? = some k → ∃ xs, SqL X.K H a xs ∧ k = ((xs.length : Nat) : Int)) :
    Turn1 X pins σ H A (.builtin "len") (as.map Value.ref) kz := by
  intro i v kk hv hk pins' s' I
  obtain ⟨a, ha, rfl⟩ : ∃ a, as[i]? = some a ∧ v = Value.ref a := by
    rw [List.getElem?_map] at hv
    cases e : as[i]? with
    | none =>
      rw [e] at hv
      cases hv
    | some a =>
      rw [e] at hv
      exact ⟨a, rfl, (Option.some.inj hv).symm⟩
  obtain ⟨xs, hx, rfl⟩ := h i a kk ha hk
  obtain ⟨its, r, pl, hz⟩ := I.list hx
  have hlen := r.length
  have hn := line63
  refine Calls.call_len_list pl.isList (by simp only [List.size_toArray] <;> omega) ⟨s'.toks + 1, ?_, I.tok _⟩
  rw [List.size_toArray, hlen]
theorem pe_sortLen {x y : Str} {p p2 kpos pos : Pos} {e : Expr} {te : TE} (hg : Gl X "sorted") (hm : X.mg "sorted" = none) (hg2 : Gl X "len") (hm2 : X.mg "len" = none) (ha : PA X [e] (tCons te tNil))
    (hst : backTo pos (starEach [e] X.env) = (false, eval e X.env) :: backTo pos (starEach [] X.env) := by rfl) (hpl : (backTo pos (starEach [e] X.env)).any (·.1) = false := by rfl)
    (hall : (backToKw pos (keywordEach [⟨some (Str.ofString "key"), .Name "len" p2, kpos⟩] X.env)).all (·.1.isSome) = true := by rfl) (hnone : (backToKw pos (keywordEach [⟨some (Str.ofString "key"), .Name "len" p2, kpos⟩] X.env)).any (·.1.isNone) = false := by rfl)
    (hks : (backToKw pos (keywordEach [⟨some (Str.ofString "key"), .Name "len" p2, kpos⟩] X.env)).filterMap (·.1) = [Str.ofString "key"] := by rfl) :
    PE X (.Call (.Name "sorted" p) [e] [⟨some (Str.ofString "key"), .Name "len" p2, kpos⟩] pos) (tSortLen X.K te) := by
  refine ⟨fun pins s σ H Q I h => ?_⟩
  refine wpAny_Call_Name_kw (ld_blt I hg hm PyProof.Rows.boot_sorted ?_)
  have h' : tCons te tNil σ H (fun vs H1 => match vs with | [x] => bSortLen X.K Q x H1 | _ => False) := h
  refine PyProof.Rows.callWith_kw (thn (ha.run pos pins s σ H _ I h') fun us s1 ⟨vs, H1, I1, r1, q1⟩ => ?_) hst hpl hall hnone
  show wpAny _ _ (evalAll ((do let v ← eval (.Name "len" p2) X.env; standAt pos; pure v) :: [])) _ _ s1
  refine wpAny_evalAll_cons (wpAny_bind (ld_blt I1 hg2 hm2 PySem.boot_len (wpAny_bind (wpAny_standAt (wpAny_pure ?_)))))
  refine wpAny_evalAll_nil ?_
  rw [hks]
  cases r1 with
  | nil => exact False.elim q1
  | cons rx rt =>
    cases rt with
    | cons _ _ => exact False.elim q1
    | nil =>
      obtain ⟨l, as, kz, rfl, hs, hlen, hk, q⟩ := (show bSortLen X.K Q _ H1 from q1)
      cases rx
      obtain ⟨its, rv, pl, hz⟩ := I1.list hs
      have hz2 : as.length ≤ sizeLine := by rw [← List.length_map (f := V.ref)]; exact hz
      have eits := itsRefs rv
      subst eits
      refine sorted_ (f := .builtin "len") (kz := kz) I1 (show s1.heap.IsList l (as.map Value.ref).toArray from pl.isList) (by rw [List.length_map]; exact hlen) (by rw [List.length_map]; exact hz2) (ksk_s1 _ _) (fun x => ksk_l1 _ _) (fun x => ksk_t4 "len" x) (turn_len hk) fun D s' out c J fD nD g ko => ?_
      obtain ⟨ps, so, eo⟩ := sortOut ko
      have hlp : ps.length ≤ sizeLine := by
        rw [so.1.length_eq, List.length_zip]
        omega
      have rel : Vals (ps.map fun p => V.ref p.2) out.toList := by
        rw [eo]
        have := valsRefs (ps.map Prod.snd)
        rw [List.map_map, List.map_map] at this
        exact this
      exact ⟨.ref D, _, adopt J fD (lst_ok rel (by rw [List.length_map]; exact hlp) g), rfl, q ps D so nD⟩
end
end KyS
/-! Stretches of whole numbers: joined, told in one form alone, mirrored. -/
namespace Lo
/-- a stretch: its low end and its high end, none where there is none -/
abbrev Iv := Option Int × Option Int
def inI (p : Iv) (x : Int) : Prop := (∀ k, p.1 = some k → k ≤ x) ∧ ∀ k, p.2 = some k → x ≤ k
def okI (p : Iv) : Prop := ∀ a b, p.1 = some a → p.2 = some b → a ≤ b
def inU (L : List Iv) (x : Int) : Prop := ∃ p ∈ L, inI p x
/-- q stands behind p, with room between -/
def apartI (p q : Iv) : Prop := ∃ h k, p.2 = some h ∧ q.1 = some k ∧ h + 2 ≤ k
/-- ascending and apart -/
def CanonA (L : List Iv) : Prop := (∀ p ∈ L, okI p) ∧ L.Pairwise apartI
theorem okI_some {p : Iv} (h : okI p) : ∃ x, inI p x := by
  obtain ⟨a, b⟩ := p
  cases a with
  | none =>
    cases b with
    | none => exact ⟨0, (fun k e => nomatch e), fun k e => nomatch e⟩
    | some b => exact ⟨b, (fun k e => nomatch e), fun k e => by injection e with e; omega⟩
  | some a =>
    cases b with
    | none => exact ⟨a, (fun k e => by injection e with e; omega), fun k e => nomatch e⟩
    | some b =>
      have := h a b rfl rfl
      exact ⟨a, (fun k e => by injection e with e; omega), fun k e => by injection e with e; omega⟩
theorem inI_lo {p : Iv} (h : okI p) {a : Int} (e : p.1 = some a) : inI p a := ⟨fun k e' => by rw [e] at e'; injection e' with e'; omega, fun k e' => h a k e e'⟩
theorem inI_hi {p : Iv} (h : okI p) {b : Int} (e : p.2 = some b) : inI p b := ⟨fun k e' => h k b e' e, fun k e' => by rw [e] at e'; injection e' with e'; omega⟩
/-- what is in a later stretch is beyond what is in an earlier one -/
theorem apart_lt {p q : Iv} (h : apartI p q) {x y : Int} (hx : inI p x) (hy : inI q y) : x + 2 ≤ y := by
  obtain ⟨a, b, e1, e2, l⟩ := h
  have := hx.2 a e1
  have := hy.1 b e2
  omega
theorem apart_mid {p q : Iv} (h : apartI p q) {x : Int} (hx : inI p x) : ∃ k, q.1 = some k ∧ x + 2 ≤ k := by
  obtain ⟨a, b, e1, e2, l⟩ := h
  have := hx.2 a e1
  exact ⟨b, e2, by omega⟩
theorem apart_trans {p q r : Iv} (hq : okI q) (h : apartI p q) (k : apartI q r) : apartI p r := by
  obtain ⟨a, b, e1, e2, l⟩ := h
  obtain ⟨c, d, f1, f2, m⟩ := k
  have := hq b c e2 f1
  exact ⟨a, d, e1, f2, by omega⟩
/-- two lists that are ascending and apart, and have the same numbers, are one -/
theorem canon_one : ∀ (L M : List Iv), CanonA L → CanonA M → (∀ x, inU L x ↔ inU M x) → L = M
  | [], [], _, _, _ => rfl
  | [], q :: M, _, hM, hu => by
    obtain ⟨x, hx⟩ := okI_some (hM.1 q List.mem_cons_self)
    obtain ⟨p, hp, _⟩ := (hu x).mpr ⟨q, List.mem_cons_self, hx⟩
    exact absurd hp List.not_mem_nil
  | p :: L, [], hL, _, hu => by
    obtain ⟨x, hx⟩ := okI_some (hL.1 p List.mem_cons_self)
    obtain ⟨q, hq, _⟩ := (hu x).mp ⟨p, List.mem_cons_self, hx⟩
    exact absurd hq List.not_mem_nil
  | p :: L, q :: M, hL, hM, hu => by
    obtain ⟨okL, pwL⟩ := hL
    obtain ⟨okM, pwM⟩ := hM
    obtain ⟨apL, pwL'⟩ := List.pairwise_cons.mp pwL
    obtain ⟨apM, pwM'⟩ := List.pairwise_cons.mp pwM
    have okp := okL p List.mem_cons_self
    have okq := okM q List.mem_cons_self
    -- the low ends
    have low : ∀ {p q : Iv} {L M : List Iv}, okI p → okI q → (∀ r ∈ L, apartI p r) → (∀ r ∈ M, apartI q r) → (∀ x, inU (p :: L) x ↔ inU (q :: M) x) → ∀ a, q.1 = some a → ∃ b, p.1 = some b ∧ a ≤ b := fun {p q L M} okp okq apL apM hu a e => by
      cases f : p.1 with
      | none =>
        exfalso
        obtain ⟨x, hx⟩ := okI_some okp
        have hin : inI p (min x (a - 1)) := ⟨fun k e' => (by rw [f] at e'; cases e'), fun k e' => by have := hx.2 k e'; omega⟩
        obtain ⟨r, hr, hrx⟩ := (hu _).mp ⟨p, List.mem_cons_self, hin⟩
        rcases List.mem_cons.mp hr with z | z
        · subst z
          have := hrx.1 a e
          omega
        · have := apart_lt (apM r z) (inI_lo okq e) hrx
          omega
      | some b =>
        refine ⟨b, rfl, ?_⟩
        obtain ⟨r, hr, hrx⟩ := (hu b).mp ⟨p, List.mem_cons_self, inI_lo okp f⟩
        rcases List.mem_cons.mp hr with z | z
        · subst z
          exact hrx.1 a e
        · have := apart_lt (apM r z) (inI_lo okq e) hrx
          omega
    have e1 : p.1 = q.1 := by
      have hu' : ∀ x, inU (q :: M) x ↔ inU (p :: L) x := fun x => (hu x).symm
      cases f : p.1 with
      | none =>
        cases g : q.1 with
        | none => rfl
        | some a =>
          obtain ⟨b, e, _⟩ := low okp okq apL apM hu a g
          rw [f] at e
          cases e
      | some b =>
        obtain ⟨a, g, l1⟩ := low okq okp apM apL hu' b f
        obtain ⟨b', e, l2⟩ := low okp okq apL apM hu a g
        rw [f] at e
        injection e with e
        rw [g]
        congr 1
        omega
    -- the high ends
    have high : ∀ {p q : Iv} {L M : List Iv}, okI p → okI q → p.1 = q.1 → (∀ r ∈ L, apartI p r) → (∀ r ∈ M, apartI q r) → (∀ x, inU (p :: L) x ↔ inU (q :: M) x) → ∀ a, q.2 = some a → ∃ b, p.2 = some b ∧ b ≤ a := fun {p q L M} okp okq e1 apL apM hu a e => by
      -- a + 1 is not in the second list
      have nin : ¬ inU (q :: M) (a + 1) := fun ⟨r, hr, hrx⟩ => by
        rcases List.mem_cons.mp hr with z | z
        · subst z
          have := hrx.2 a e
          omega
        · have := apart_lt (apM r z) (inI_hi okq e) hrx
          omega
      cases f : p.2 with
      | none =>
        exfalso
        refine nin ((hu _).mp ⟨p, List.mem_cons_self, fun k e' => ?_, fun k e' => (by rw [f] at e'; cases e')⟩)
        rw [e1] at e'
        have := okq k a e' e
        omega
      | some b =>
        refine ⟨b, rfl, ?_⟩
        by_cases l : b ≤ a
        · exact l
        · exfalso
          refine nin ((hu _).mp ⟨p, List.mem_cons_self, fun k e' => ?_, fun k e' => by rw [f] at e'; injection e' with e'; omega⟩)
          rw [e1] at e'
          have := okq k a e' e
          omega
    have e2 : p.2 = q.2 := by
      have hu' : ∀ x, inU (q :: M) x ↔ inU (p :: L) x := fun x => (hu x).symm
      cases f : p.2 with
      | none =>
        cases g : q.2 with
        | none => rfl
        | some a =>
          obtain ⟨b, e, _⟩ := high okp okq e1 apL apM hu a g
          rw [f] at e
          cases e
      | some b =>
        obtain ⟨a, g, l1⟩ := high okq okp e1.symm apM apL hu' b f
        obtain ⟨b', e, l2⟩ := high okp okq e1 apL apM hu a g
        rw [f] at e
        injection e with e
        rw [g]
        congr 1
        omega
    have epq : p = q := Prod.ext e1 e2
    subst epq
    have rest : ∀ {L M : List Iv}, (∀ r ∈ L, apartI p r) → (∀ r ∈ M, apartI p r) → (∀ x, inU (p :: L) x ↔ inU (p :: M) x) → ∀ x, inU L x → inU M x := fun {L M} apL apM hu x ⟨r, hr, hrx⟩ => by
      obtain ⟨r', hr', hrx'⟩ := (hu x).mp ⟨r, List.mem_cons_of_mem _ hr, hrx⟩
      rcases List.mem_cons.mp hr' with z | z
      · subst z
        have := apart_lt (apL r hr) hrx' hrx
        omega
      · exact ⟨r', z, hrx'⟩
    have := canon_one L M ⟨fun r hr => okL r (List.mem_cons_of_mem _ hr), pwL'⟩ ⟨fun r hr => okM r (List.mem_cons_of_mem _ hr), pwM'⟩ fun x => ⟨rest apL apM hu x, rest apM apL (fun y => (hu y).symm) x⟩
    rw [this]
/-! ### joining -/
def higher (a b : Option Int) : Option Int := match a, b with
  | some x, some y => some (max x y)
  | _, _ => none
def touchB (q : Iv) (low : Option Int) : Bool := match low, q.2 with
  | some k, some h => decide (k ≤ h + 1)
  | _, _ => true
/-- one stretch more behind the others, the last one first -/
def stepR : List Iv → Iv → List Iv
  | [], p => [p]
  | q :: r, p => if touchB q p.1 then (q.1, higher q.2 p.2) :: r else p :: q :: r
theorem stepR_no {q p : Iv} {r : List Iv} (t : touchB q p.1 = false) : stepR (q :: r) p = p :: q :: r := by
  show (if touchB q p.1 = true then (q.1, higher q.2 p.2) :: r else p :: q :: r) = _
  rw [t]
  rfl
theorem stepR_yes {q p : Iv} {r : List Iv} (t : touchB q p.1 = true) : stepR (q :: r) p = (q.1, higher q.2 p.2) :: r := by
  show (if touchB q p.1 = true then (q.1, higher q.2 p.2) :: r else p :: q :: r) = _
  rw [t]
  rfl
def lowLe : Option Int → Option Int → Prop
  | none, _ => True
  | some _, none => False
  | some a, some b => a ≤ b
/-- the last one first -/
def CanonR (L : List Iv) : Prop := (∀ p ∈ L, okI p) ∧ L.Pairwise fun q p => apartI p q
theorem canonR_rev {L : List Iv} : CanonR L ↔ CanonA L.reverse := by
  unfold CanonR CanonA
  rw [List.pairwise_reverse]
  exact and_congr_left fun _ => forall_congr' fun p => by rw [List.mem_reverse]
theorem touch_no {q : Iv} {low : Option Int} (h : touchB q low = false) : ∃ k h', low = some k ∧ q.2 = some h' ∧ h' + 2 ≤ k := by
  unfold touchB at h
  cases low with
  | none => cases h
  | some k =>
    cases e : q.2 with
    | none =>
      rw [e] at h
      cases h
    | some h' =>
      rw [e] at h
      have := of_decide_eq_false h
      exact ⟨k, h', rfl, rfl, by omega⟩
theorem step_ok {acc : List Iv} {p : Iv} (hc : CanonR acc) (hp : okI p) (hl : ∀ q, acc.head? = some q → lowLe q.1 p.1) :
    CanonR (stepR acc p) ∧ (∀ x, inU (stepR acc p) x ↔ inU acc x ∨ inI p x) ∧ ∀ q, (stepR acc p).head? = some q → lowLe q.1 p.1 := by
  have refl : lowLe p.1 p.1 := by
    cases p.1 with
    | none => exact True.intro
    | some a => exact Int.le_refl a
  cases acc with
  | nil =>
    refine ⟨⟨fun r hr => by rw [List.mem_singleton.mp hr]; exact hp, List.pairwise_cons.mpr ⟨fun r hr => absurd hr List.not_mem_nil, List.Pairwise.nil⟩⟩, fun x => ?_, fun q e => ?_⟩
    · constructor
      · rintro ⟨r, hr, hx⟩
        rw [List.mem_singleton.mp hr] at hx
        exact .inr hx
      · rintro (⟨r, hr, _⟩ | h)
        · exact absurd hr List.not_mem_nil
        · exact ⟨p, List.mem_singleton.mpr rfl, h⟩
    · have e' : some p = some q := e
      injection e' with e'
      subst e'
      exact refl
  | cons q r =>
    obtain ⟨ok, pw⟩ := hc
    obtain ⟨ap, pw'⟩ := List.pairwise_cons.mp pw
    have okq := ok q List.mem_cons_self
    have l := hl q rfl
    cases t : touchB q p.1 with
    | false =>
      obtain ⟨k, h, e1, e2, l2⟩ := touch_no t
      have apq : apartI q p := ⟨h, k, e2, e1, l2⟩
      rw [stepR_no t]
      refine ⟨⟨fun s hs => ?_, List.pairwise_cons.mpr ⟨fun s hs => ?_, pw⟩⟩, fun x => ?_, fun s e => ?_⟩
      · rcases List.mem_cons.mp hs with z | z
        · exact z ▸ hp
        · exact ok s z
      · rcases List.mem_cons.mp hs with z | z
        · exact z ▸ apq
        · exact apart_trans okq (ap s z) apq
      · constructor
        · rintro ⟨s, hs, hx⟩
          rcases List.mem_cons.mp hs with z | z
          · exact .inr (z ▸ hx)
          · exact .inl ⟨s, z, hx⟩
        · rintro (⟨s, hs, hx⟩ | h)
          · exact ⟨s, List.mem_cons_of_mem _ hs, hx⟩
          · exact ⟨p, List.mem_cons_self, h⟩
      · have e' : some p = some s := e
        injection e' with e'
        subst e'
        exact refl
    | true =>
      rw [stepR_yes t]
      obtain ⟨qa, qb⟩ := q
      obtain ⟨pa, pb⟩ := p
      have both : ∀ x, inI (qa, higher qb pb) x ↔ inI (qa, qb) x ∨ inI (pa, pb) x := fun x => by
        unfold inI
        unfold touchB at t
        unfold okI at okq hp
        dsimp only at *
        cases qa <;> cases qb <;> cases pa <;> cases pb <;> simp_all [higher, lowLe] <;> omega
      refine ⟨⟨fun s hs => ?_, List.pairwise_cons.mpr ⟨fun s hs => ?_, pw'⟩⟩, fun x => ?_, fun s e => ?_⟩
      · rcases List.mem_cons.mp hs with z | z
        · subst z
          intro a b e1 e2
          dsimp only at e1 e2
          unfold okI at okq
          cases qb with
          | none => exact absurd e2 (by simp [higher])
          | some h =>
            have := okq a h e1 rfl
            cases pb with
            | none => exact absurd e2 (by simp [higher])
            | some h2 =>
              injection e2 with e2
              omega
        · exact ok s (List.mem_cons_of_mem _ z)
      · obtain ⟨h, k, a1, a2, a3⟩ := ap s hs
        exact ⟨h, k, a1, a2, a3⟩
      · constructor
        · rintro ⟨s, hs, hx⟩
          rcases List.mem_cons.mp hs with z | z
          · subst z
            rcases (both x).mp hx with h | h
            · exact .inl ⟨_, List.mem_cons_self, h⟩
            · exact .inr h
          · exact .inl ⟨s, List.mem_cons_of_mem _ z, hx⟩
        · rintro (⟨s, hs, hx⟩ | h)
          · rcases List.mem_cons.mp hs with z | z
            · subst z
              exact ⟨_, List.mem_cons_self, (both x).mpr (.inl hx)⟩
            · exact ⟨s, List.mem_cons_of_mem _ z, hx⟩
          · exact ⟨_, List.mem_cons_self, (both x).mpr (.inr h)⟩
      · have e' : some (qa, higher qb pb) = some s := e
        injection e' with e'
        subst e'
        exact l
/-- all of them joined -/
theorem fold_ok : ∀ (L acc : List Iv), CanonR acc → (∀ p ∈ L, okI p) → L.Pairwise (fun p q => lowLe p.1 q.1) → (∀ q, acc.head? = some q → ∀ p ∈ L, lowLe q.1 p.1) →
    CanonR (L.foldl stepR acc) ∧ ∀ x, inU (L.foldl stepR acc) x ↔ inU acc x ∨ inU L x
  | [], acc, hc, _, _, _ => ⟨hc, fun x => ⟨.inl, fun h => h.elim id fun ⟨p, hp, _⟩ => absurd hp List.not_mem_nil⟩⟩
  | p :: L, acc, hc, hok, hs, hl => by
    obtain ⟨hs1, hs2⟩ := List.pairwise_cons.mp hs
    obtain ⟨h1, h2, h3⟩ := step_ok hc (hok p List.mem_cons_self) fun q e => hl q e p List.mem_cons_self
    have tr : ∀ {a b c : Option Int}, lowLe a b → lowLe b c → lowLe a c := fun {a b c} h k => by
      cases a with
      | none => exact True.intro
      | some a =>
        cases b with
        | none => exact False.elim h
        | some b =>
          cases c with
          | none => exact False.elim k
          | some c => exact Int.le_trans (show a ≤ b from h) k
    obtain ⟨g1, g2⟩ := fold_ok L (stepR acc p) h1 (fun q hq => hok q (List.mem_cons_of_mem _ hq)) hs2 fun q e r hr => tr (h3 q e) (hs1 r hr)
    refine ⟨g1, fun x => (g2 x).trans ?_⟩
    rw [h2 x]
    constructor
    · rintro ((h | h) | ⟨q, hq, hx⟩)
      · exact .inl h
      · exact .inr ⟨p, List.mem_cons_self, h⟩
      · exact .inr ⟨q, List.mem_cons_of_mem _ hq, hx⟩
    · rintro (h | ⟨q, hq, hx⟩)
      · exact .inl (.inl h)
      · rcases List.mem_cons.mp hq with z | z
        · exact .inl (.inr (z ▸ hx))
        · exact .inr ⟨q, z, hx⟩
/-! ### mirrored -/
def mirI (p : Iv) : Iv := (p.2.map fun x => -x, p.1.map fun x => -x)
theorem mir_in {p : Iv} {x : Int} : inI (mirI p) x ↔ inI p (-x) := by
  obtain ⟨a, b⟩ := p
  unfold inI mirI
  cases a <;> cases b <;> simp <;> omega
theorem mir_ok {p : Iv} (h : okI p) : okI (mirI p) := by
  obtain ⟨a, b⟩ := p
  intro x y e1 e2
  cases a with
  | none => cases e2
  | some a =>
    cases b with
    | none => cases e1
    | some b =>
      have := h a b rfl rfl
      have e1' : some (-b) = some x := e1
      have e2' : some (-a) = some y := e2
      injection e1' with e1'
      injection e2' with e2'
      omega
theorem mir_apart {p q : Iv} (h : apartI p q) : apartI (mirI q) (mirI p) := by
  obtain ⟨a, b, e1, e2, l⟩ := h
  exact ⟨-b, -a, by unfold mirI; rw [e2]; rfl, by unfold mirI; rw [e1]; rfl, by omega⟩
theorem mir_canon {L : List Iv} (h : CanonA L) : CanonA (L.reverse.map mirI) := by
  obtain ⟨h1, h2⟩ := h
  refine ⟨fun p hp => ?_, ?_⟩
  · obtain ⟨q, hq, e⟩ := List.mem_map.mp hp
    exact e ▸ mir_ok (h1 q (List.mem_reverse.mp hq))
  · rw [List.pairwise_map, List.pairwise_reverse]
    exact h2.imp fun h => mir_apart h
theorem mir_inU {L : List Iv} {x : Int} : inU (L.reverse.map mirI) x ↔ inU L (-x) := by
  constructor
  · rintro ⟨p, hp, hx⟩
    obtain ⟨q, hq, e⟩ := List.mem_map.mp hp
    exact ⟨q, List.mem_reverse.mp hq, mir_in.mp (e ▸ hx)⟩
  · rintro ⟨q, hq, hx⟩
    exact ⟨mirI q, List.mem_map.mpr ⟨q, List.mem_reverse.mpr hq, rfl⟩, mir_in.mpr hx⟩
end Lo
/-! The values of a difference over a system are a stretch. -/
namespace Lo
section
variable {α : Type} [DecidableEq α]
variable {R : List (Row α)} {v : α → Int}
noncomputable def ivD (R : List (Row α)) (l r : α) : Iv := ((D R r l).map fun k => -k, D R l r)
def hasV (R : List (Row α)) (l r : α) (w : Int) : Prop := ∃ u, Sat R u ∧ u l - u r = w
theorem sat_two {l r : α} {w : Int} {u : α → Int} : Sat (R ++ [(l, r, w)] ++ [(r, l, -w)]) u ↔ Sat R u ∧ u l - u r = w := by
  constructor
  · intro h
    have h1 := h (l, r, w) (List.mem_append_left _ (List.mem_append_right _ (List.mem_singleton.mpr rfl)))
    have h2 := h (r, l, -w) (List.mem_append_right _ (List.mem_singleton.mpr rfl))
    dsimp only at h1 h2
    exact ⟨fun q hq => h q (List.mem_append_left _ (List.mem_append_left _ hq)), by omega⟩
  · rintro ⟨h1, h2⟩ q hq
    rcases List.mem_append.mp hq with h | h
    · rcases List.mem_append.mp h with h | h
      · exact h1 q h
      · rw [List.mem_singleton] at h
        subst h
        show u l - u r ≤ w
        omega
    · rw [List.mem_singleton] at h
      subst h
      show u r - u l ≤ -w
      omega
theorem has_two {l r : α} {w : Int} : (∃ u, Sat (R ++ [(l, r, w)] ++ [(r, l, -w)]) u) ↔ hasV R l r w :=
  ⟨fun ⟨u, h⟩ => ⟨u, sat_two.mp h⟩, fun ⟨u, h⟩ => ⟨u, sat_two.mpr h⟩⟩
theorem has_iv (hv : Sat R v) {l r : α} {w : Int} (h : hasV R l r w) : inI (ivD R l r) w := by
  obtain ⟨u, hu, e⟩ := h
  refine ⟨fun k e' => ?_, fun k e' => ?_⟩
  · cases f : D R r l with
    | none =>
      have : ((D R r l).map fun k => -k) = some k := e'
      rw [f] at this
      cases this
    | some b =>
      have e2 : ((D R r l).map fun k => -k) = some k := e'
      rw [f] at e2
      have e3 : -b = k := Option.some.inj e2
      have := d_told hv f u hu
      omega
  · have := d_told hv (show D R l r = some k from e') u hu
    omega
theorem iv_has (hv : Sat R v) {l r : α} {w : Int} (h : inI (ivD R l r) w) : hasV R l r w := by
  obtain ⟨h1, h2⟩ := h
  by_cases lr : l = r
  · subst lr
    have d0 := d_self hv l
    have a := h1 (-0) (by show ((D R l l).map fun k => -k) = _; rw [d0]; rfl)
    have b := h2 0 d0
    exact ⟨v, hv, by omega⟩
  · have g1 : ∀ b, D R r l = some b → 0 ≤ b + w := fun b e => by
      have := h1 (-b) (by show ((D R r l).map fun k => -k) = _; rw [e]; rfl)
      omega
    obtain ⟨u, hu⟩ := more_sat hv g1
    have g2 : ∀ b, D (R ++ [(l, r, w)]) l r = some b → 0 ≤ b + -w := fun b e => by
      rw [more_d hv hu l r] at e
      rcases minO_or e with e | e
      · have := h2 b e
        omega
      · rw [d_self hv l, d_self hv r] at e
        have : (0 : Int) + w + 0 = b := Option.some.inj e
        omega
    obtain ⟨u2, hu2⟩ := more_sat hu g2
    exact ⟨u2, sat_two.mp hu2⟩
theorem iv_ok (hv : Sat R v) (l r : α) : okI (ivD R l r) := fun a b e1 e2 => by
  have e1' : ((D R r l).map fun k => -k) = some a := e1
  cases f : D R r l with
  | none =>
    rw [f] at e1'
    cases e1'
  | some c =>
    rw [f] at e1'
    have e3 : -c = a := Option.some.inj e1'
    have := d_back hv (show D R l r = some b from e2) f
    omega
theorem iv_mir (l r : α) : ivD R r l = mirI (ivD R l r) := by
  unfold ivD mirI
  refine Prod.ext rfl ?_
  show D R r l = ((D R r l).map fun k => -k).map fun x => -x
  cases D R r l with
  | none => rfl
  | some k =>
    show some k = some (- -k)
    rw [Int.neg_neg]
end
end Lo
namespace Lo
open PySem L2
abbrev sStretches : Stmt := top 50
abbrev sLowOf : Stmt := top 51
abbrev sTouches : Stmt := top 52
abbrev sHigher : Stmt := top 53
/-- a stretch at t -/
def IvAt (H : Hp) (t : Addr) (p : Iv) : Prop := H t = some (.tup [oV p.1, oV p.2])
def StrL (H : Hp) (L : Addr) (Ls : List Iv) : Prop := ∃ ts : List Addr, H L = some (.lst (ts.map V.ref)) ∧ ts.length = Ls.length ∧ ∀ (i : Nat) (t : Addr) (p : Iv), ts[i]? = some t → Ls[i]? = some p → IvAt H t p
theorem StrL.same {H H' : Hp} {L : Addr} {Ls : List Iv} (s : Same H H') (h : StrL H L Ls) : StrL H' L Ls := by
  obtain ⟨ts, h1, h2, h3⟩ := h
  exact ⟨ts, s _ _ h1, h2, fun i t p a b => s _ _ (h3 i t p a b)⟩
section
variable {P : Program} {w : World} {K : PySem.W.Frag} {mg : Str → Option Value} {base : Heap}
/-! ### _low_of, _touches, _higher -/
def spLowOf : Sp := fun vs H Q _ => ∃ (a : Addr) (k : Int) (y : V), vs = [.ref a] ∧ H a = some (.tup [.int k, y]) ∧ Q (.int k) H
theorem scLowOf : FnScope ["stretch"] ["stretch"] (defScope sLowOf) := ⟨rfl, rfl, rfl, by decide +kernel, rfl, by decide +kernel, by decide +kernel⟩
theorem ok_lowof {f : Addr} {fd : FuncData} (F : Fun K "_low_of" "_low_of" sLowOf f fd) : FnOk P w K mg base CX0 1 f fd ["stretch"] spLowOf := by
  refine F.ok scLowOf (fun vs H Q E h => ?_) (fun cdv A outer s H vs Q E hr h => ?_)
  · obtain ⟨a, k, y, rfl, _⟩ := h
    rfl
  · obtain ⟨a, k, y, rfl, ha, q⟩ := h
    refine ⟨_, pss_one (ps_ret (pe_ix ix_tup (pv 0) pe_int (fun _ _ => rfl))), ?_⟩
    exact ⟨.ref a, rfl, a, _, 0, _, rfl, rfl, SqT.of ha, atI_nat (j := 0) rfl, q⟩
def spTouches : Sp := fun vs H Q _ => ∃ (a : Addr) (q : Iv) (low : Option Int), vs = [.ref a, oV low] ∧ IvAt H a q ∧ Q (.bl (touchB q low)) H
theorem scTouches : FnScope ["stretch", "low"] ["stretch", "low"] (defScope sTouches) := ⟨rfl, rfl, rfl, by decide +kernel, rfl, by decide +kernel, by decide +kernel⟩
theorem ok_touches {f : Addr} {fd : FuncData} (F : Fun K "_touches" "_touches" sTouches f fd) : FnOk P w K mg base CX0 1 f fd ["stretch", "low"] spTouches := by
  refine F.ok scTouches (fun vs H Q E h => ?_) (fun cdv A outer s H vs Q E hr h => ?_)
  · obtain ⟨a, q, low, rfl, _⟩ := h
    rfl
  · obtain ⟨a, ⟨qa, qb⟩, low, rfl, ha, q⟩ := h
    refine ⟨_, pss_one (ps_ret (pe_or (pe_cmpR op_isN (pv 1) pe_non (nomark _)) (pe_or (pe_cmpR op_isN (pe_ix ix_tup (pv 0) pe_int (fun _ _ => rfl)) pe_non (nomark _)) (pe_one (pe_cmpR op_le (pv 1) (pe_op op_add (pe_ix ix_tup (pv 0) pe_int (fun _ _ => rfl)) pe_int) (nomark _)))))), ?_⟩
    cases low with
    | none => exact ⟨.non, rfl, rfl, _, rfl, iteT q⟩
    | some k =>
      refine ⟨.int k, rfl, rfl, _, rfl, iteF ?_⟩
      refine ⟨.ref a, rfl, a, _, 1, _, rfl, rfl, SqT.of ha, atI_nat (j := 1) rfl, ?_⟩
      cases qb with
      | none => exact ⟨rfl, _, rfl, iteT q⟩
      | some h =>
        refine ⟨rfl, _, rfl, iteF ?_⟩
        exact ⟨.int k, rfl, .ref a, rfl, a, _, 1, _, rfl, rfl, SqT.of ha, atI_nat (j := 1) rfl, _, _, rfl, rfl, _, _, rfl, rfl, q⟩
def spHigher : Sp := fun vs H Q _ => ∃ (x y : Option Int), vs = [oV x, oV y] ∧ Q (oV (higher x y)) H
theorem scHigher : FnScope ["one", "other"] ["one", "other"] (defScope sHigher) := ⟨rfl, rfl, rfl, by decide +kernel, rfl, by decide +kernel, by decide +kernel⟩
theorem ok_higher {f : Addr} {fd : FuncData} (F : Fun K "_higher" "_higher" sHigher f fd) (hmax : mg "max" = none) : FnOk P w K mg base CX0 1 f fd ["one", "other"] spHigher := by
  refine F.ok scHigher (fun vs H Q E h => ?_) (fun cdv A outer s H vs Q E hr h => ?_)
  · obtain ⟨x, y, rfl, _⟩ := h
    rfl
  · obtain ⟨x, y, rfl, q⟩ := h
    refine ⟨_, pss_cons (ps_if (PW.pt (pw_or (pt_cmpR op_isN (pv 0) pe_non (nomark _)) (pw_or1 (pt_cmpR op_isN (pv 1) pe_non (nomark _))))) (pss_one (ps_ret pe_non)) pss_nil)
      (pss_one (ps_ret (pe_callB (call_max2 rfl) (by rfl) hmax PyProof.Rows.boot_max (pa_cons (pv 0) (pa_cons (pv 1) pa_nil))))), ?_⟩
    cases x with
    | none => exact ⟨.non, rfl, rfl, _, rfl, iteT (iteT q)⟩
    | some x =>
      refine ⟨.int x, rfl, rfl, _, rfl, iteF ?_⟩
      cases y with
      | none => exact ⟨.non, rfl, rfl, _, rfl, iteT q⟩
      | some y =>
        refine ⟨.int y, rfl, rfl, _, rfl, iteF ?_⟩
        refine ⟨.int x, rfl, .int y, rfl, x, y, rfl, ?_⟩
        have e : (if y > x then y else x) = max x y := by
          by_cases h : y > x
          · rw [if_pos h, Int.max_eq_right (by omega)]
          · rw [if_neg h, Int.max_eq_left (by omega)]
        rw [e]
        exact q
end
end Lo
namespace Lo
open PySem L2
def decO : V → Option Int
  | .int k => some k
  | _ => none
def ivOf : Option HO → Iv
  | some (.tup [x, y]) => (decO x, decO y)
  | _ => (none, none)
theorem dec_oV (x : Option Int) : decO (oV x) = x := by cases x <;> rfl
theorem ivOf_at {H : Hp} {t : Addr} {p : Iv} (h : IvAt H t p) : ivOf (H t) = p := by
  rw [show H t = some (.tup [oV p.1, oV p.2]) from h]
  show (decO (oV p.1), decO (oV p.2)) = p
  rw [dec_oV, dec_oV]
def loB (p : Iv) : Bool := p.1.isNone
theorem StrL.off {H : Hp} {L a : Addr} {Ls : List Iv} {xs ys : List V} (ha : H a = some (.lst xs)) (ne : L ≠ a) (h : StrL H L Ls) : StrL (upd H a (.lst ys)) L Ls := by
  obtain ⟨ts, h1, h2, h3⟩ := h
  refine ⟨ts, by rw [upd_ne ne]; exact h1, h2, fun i t p c d => ?_⟩
  have z := h3 i t p c d
  show upd H a _ t = _
  rw [upd_ne (ne_of z ha (by intro y; cases y))]
  exact z
theorem StrL.snoc {H : Hp} {L t : Addr} {ts : List Addr} {Ls : List Iv} {p : Iv} (h1 : H L = some (.lst (ts.map V.ref))) (h2 : ts.length = Ls.length) (h3 : ∀ (i : Nat) (t : Addr) (p : Iv), ts[i]? = some t → Ls[i]? = some p → IvAt H t p) (ht : IvAt H t p) :
    StrL (upd H L (.lst (ts.map V.ref ++ [.ref t]))) L (Ls ++ [p]) := by
  have tup : ∀ {b : Addr} {p' : Iv}, IvAt H b p' → IvAt (upd H L (.lst (ts.map V.ref ++ [.ref t]))) b p' := fun {b p'} z => by
    show upd H L _ b = _
    rw [upd_ne (ne_of z h1 (by intro y; cases y))]
    exact z
  refine ⟨ts ++ [t], by rw [upd_same, List.map_append]; rfl, by rw [List.length_append, List.length_append, h2]; rfl, fun i t' p' a b => ?_⟩
  by_cases k : i < ts.length
  · rw [List.getElem?_append_left k] at a
    rw [List.getElem?_append_left (by omega)] at b
    exact tup (h3 i t' p' a b)
  · have hi : i = ts.length := by
      have := (List.getElem?_eq_some_iff.mp a).1
      rw [List.length_append, List.length_singleton] at this
      omega
    subst hi
    rw [List.getElem?_append_right (Nat.le_refl _), Nat.sub_self] at a
    rw [h2, List.getElem?_append_right (Nat.le_refl _), Nat.sub_self] at b
    have e1 : t = t' := Option.some.inj a
    have e2 : p = p' := Option.some.inj b
    subst e1 e2
    exact tup ht
theorem StrL.dec {H : Hp} {ts : List Addr} {Ls : List Iv} (h2 : ts.length = Ls.length) (h3 : ∀ (i : Nat) (t : Addr) (p : Iv), ts[i]? = some t → Ls[i]? = some p → IvAt H t p) : Ls = ts.map fun t => ivOf (H t) := by
  refine List.ext_getElem? fun i => ?_
  rw [List.getElem?_map]
  cases e : ts[i]? with
  | none =>
    have := List.getElem?_eq_none_iff.mp e
    rw [List.getElem?_eq_none (by omega)]
    rfl
  | some t =>
    have hlt := (List.getElem?_eq_some_iff.mp e).1
    have e2 : Ls[i]? = some (Ls[i]'(by omega)) := List.getElem?_eq_getElem (by omega)
    rw [e2]
    show _ = some (ivOf (H t))
    rw [ivOf_at (h3 i t _ e e2)]
section
variable {P : Program} {w : World} {K : PySem.W.Frag} {mg : Str → Option Value} {base : Heap}
def spStretches : Sp := fun vs H Q _ => ∃ (tl : Addr) (l r : Str) (Rs : List (List SRow)) (zs : List Str), vs = [.ref tl, .str l, .str r] ∧ Tabs H tl Rs zs ∧ Rs.length ≤ 100 ∧
  ∀ (H' : Hp) (q : Addr) (Ls : List Iv), Same H H' → H q = none → StrL H' q Ls → Ls.Perm (Rs.map fun R => ivD R l r) → Ls.Pairwise (fun p q => lowLe p.1 q.1) → Q (.ref q) H'
abbrev nStretches : List Str := ["tables", "left", "right", "endless", "found", "table", "high", "back"]
theorem scStretches : FnScope nStretches ["tables", "left", "right"] (defScope sStretches) := ⟨rfl, rfl, rfl, by decide +kernel, rfl, by decide +kernel, by decide +kernel⟩
theorem ok_stretches {f fL fK : Addr} {fd fdL fdK : FuncData} (F : Fun K "_stretches" "_stretches" sStretches f fd) (hsort : mg "sorted" = none)
    (GL : FnOk P w K mg base CX0 1 fL fdL ["table", "left", "right"] spLimit) (kL : PySem.W.keepIn K (.ref fL) = true) (bL : Binds K fdL ["table", "left", "right"] []) (gL : mg "limit_of" = some (.ref fL))
    (GK : FnOk P w K mg base CX0 1 fK fdK ["stretch"] spLowOf) (bK : Binds K fdK ["stretch"] []) (gK : mg "_low_of" = some (.ref fK)) :
    FnOk P w K mg base CX0 4 f fd ["tables", "left", "right"] spStretches := by
  refine F.ok scStretches (fun vs H Q E h => ?_) (fun cdv A outer s H vs Q E hr h => ?_)
  · obtain ⟨tl, l, r, Rs, zs, rfl, _⟩ := h
    rfl
  · obtain ⟨tl, l, r, Rs, zs, rfl, ⟨tz, t1, t2, t3⟩, few, q⟩ := h
    have nd := scStretches.nd
    have r1 := hr.mono (show 1 ≤ 3 by decide)
    refine ⟨_, pss_cons (ps_set (i := 3) nd rfl (.inl rfl) (pe_lst pa_nil))
      (pss_cons (ps_set (i := 4) nd rfl (.inl rfl) (pe_lst pa_nil))
      (pss_cons (ps_for PassesOwn.never rfl (pi_list (pv 0)) (pg_name (i := 5) nd rfl (.inl rfl))
        (pss_cons (ps_set (i := 6) nd rfl (.inl rfl) (pe_call GL r1 (by rfl) gL kL bL .nil pass0 (pa_cons (pv 5) (pa_cons (pv 1) (pa_cons (pv 2) pa_nil)))))
        (pss_cons (ps_set (i := 7) nd rfl (.inl rfl) (pe_call GL r1 (by rfl) gL kL bL .nil pass0 (pa_cons (pv 5) (pa_cons (pv 2) (pa_cons (pv 1) pa_nil)))))
        (pss_one (ps_if (pt_cmpR op_isN (pv 7) pe_non (nomark _))
          (pss_one (ps_expr (pe_bm PySem.F.plainAttrs_list PySem.F.slot_list_append PySem.F.type_list_append mt_append (pv 3) (pa_cons (pe_tup (pa_cons pe_non (pa_cons (pv 6) pa_nil))) pa_nil))))
          (pss_one (ps_expr (pe_bm PySem.F.plainAttrs_list PySem.F.slot_list_append PySem.F.type_list_append mt_append (pv 4) (pa_cons (pe_tup (pa_cons (pe_un un_neg (pv 7)) (pa_cons (pv 6) pa_nil))) pa_nil)))))))))
      (pss_one (ps_ret (pe_lst (StX.pa_star (pv 3) (StX.pa_star (pe_callBK (KyS.cr_sortDef GK hr bK) (by rfl) hsort PyProof.Rows.boot_sorted (pa_cons (pv 4) pa_nil) (pk_cons (pe_glob (v := .ref fK) (by rfl) gK rfl) pk_nil)) pa_nil))))))), ?_⟩
    have sz2 : 2 ≤ sizeLine := by decide
    refine ⟨Nat.zero_le _, fun e ne => ⟨Nat.zero_le _, fun o no => ?_⟩⟩
    have sE := same_upd (o := HO.lst []) ne
    have sO := same_upd (o := HO.lst []) no
    have nO : H o = none := sE.free no
    have neo : e ≠ o := ne_of_none (upd_same (H := H) (a := e) (o := HO.lst [])) no
    have s0 := sE.trans sO
    refine ⟨.ref tl, rfl, tl, rfl, ⟨_, SqL.of (s0 _ _ t1)⟩, for_list (K := K) (a := tl) (xs := tz.map V.ref) (fun i σ H' => ∃ (y5 y6 y7 : Option V), σ = [some (.ref tl), some (.str l), some (.str r), some (.ref e), some (.ref o), y5, y6, y7] ∧ Same H H' ∧
        StrL H' e (((Rs.take i).map fun R => ivD R l r).filter loB) ∧ StrL H' o (((Rs.take i).map fun R => ivD R l r).filter fun p => !loB p))
      ⟨none, none, none, rfl, s0, ⟨[], sO _ _ upd_same, rfl, fun i t p a => nomatch a⟩, ⟨[], upd_same, rfl, fun i t p a => nomatch a⟩⟩ (fun i σ H' _ ⟨_, _, _, _, sm, _⟩ => SqL.of (sm _ _ t1)) ?_ ?_⟩
    · rintro i v σ H1 hi ⟨y5, y6, y7, rfl, s1, hE, hO⟩
      obtain ⟨t, rfl, ht, hit⟩ := pick_ref hi
      obtain ⟨R, hR⟩ : ∃ R, Rs[i]? = some R := ⟨_, List.getElem?_eq_getElem (by omega)⟩
      have hT := (t3 i t R ht hR).same s1
      have etake : (Rs.take (i + 1)).map (fun R => ivD R l r) = (Rs.take i).map (fun R => ivD R l r) ++ [ivD R l r] := by
        rw [List.take_add_one, hR, List.map_append]
        rfl
      rw [etake, List.filter_append, List.filter_append]
      have few1 : (((Rs.take i).map fun R => ivD R l r).filter loB).length ≤ 100 := Nat.le_trans (List.length_filter_le _ _) (by rw [List.length_map, List.length_take]; omega)
      have few2 : (((Rs.take i).map fun R => ivD R l r).filter fun p => !loB p).length ≤ 100 := Nat.le_trans (List.length_filter_le _ _) (by rw [List.length_map, List.length_take]; omega)
      generalize ((Rs.take i).map fun R => ivD R l r).filter loB = Es at *
      generalize (((Rs.take i).map fun R => ivD R l r).filter fun p => !loB p) = Fs at *
      refine ⟨_, rfl, .str l, rfl, .str r, rfl, t, l, r, R, zs, rfl, hT, ?_⟩
      refine ⟨_, rfl, .str r, rfl, .str l, rfl, t, r, l, R, zs, rfl, hT, ?_⟩
      cases db : D R r l with
      | none =>
        have eiv : ivD R l r = (none, D R l r) := by
          unfold ivD
          rw [db]
          rfl
        have f1 : [ivD R l r].filter loB = [ivD R l r] := by rw [eiv]; rfl
        have f2 : ([ivD R l r].filter fun p => !loB p) = [] := by rw [eiv]; rfl
        rw [f1, f2, List.append_nil]
        refine ⟨.non, rfl, rfl, _, rfl, iteT ?_⟩
        obtain ⟨ts, h1, h2, h3⟩ := hE
        refine ⟨.ref e, rfl, .inl ⟨rfl, _, SqL.of h1⟩, oV (D R l r), rfl, sz2, fun u nu => ?_⟩
        have sU := same_upd (o := HO.tup [V.non, oV (D R l r)]) nu
        have h1' := sU _ _ h1
        refine ⟨e, _, _, rfl, rfl, h1', by rw [List.length_map, h2]; exact small1000 (by omega), ?_⟩
        refine ⟨_, _, _, rfl, (s1.trans sU).later ne, ?_, ?_⟩
        · refine StrL.snoc h1' h2 (fun i t p a b => sU _ _ (h3 i t p a b)) ?_
          rw [eiv]
          exact upd_same
        · exact (hO.same sU).off h1' neo.symm
      | some b =>
        have eiv : ivD R l r = (some (-b), D R l r) := by
          unfold ivD
          rw [db]
          rfl
        have f1 : [ivD R l r].filter loB = [] := by rw [eiv]; rfl
        have f2 : ([ivD R l r].filter fun p => !loB p) = [ivD R l r] := by rw [eiv]; rfl
        rw [f1, f2, List.append_nil]
        refine ⟨.int b, rfl, rfl, _, rfl, iteF ?_⟩
        obtain ⟨ts, h1, h2, h3⟩ := hO
        refine ⟨.ref o, rfl, .inl ⟨rfl, _, SqL.of h1⟩, .int b, rfl, b, rfl, oV (D R l r), rfl, sz2, fun u nu => ?_⟩
        have sU := same_upd (o := HO.tup [V.int (-b), oV (D R l r)]) nu
        have h1' := sU _ _ h1
        refine ⟨o, _, _, rfl, rfl, h1', by rw [List.length_map, h2]; exact small1000 (by omega), ?_⟩
        refine ⟨_, _, _, rfl, (s1.trans sU).later nO, ?_, ?_⟩
        · exact (hE.same sU).off h1' neo
        · refine StrL.snoc h1' h2 (fun i t p a b => sU _ _ (h3 i t p a b)) ?_
          rw [eiv]
          exact upd_same
    · rintro σ H1 ⟨y5, y6, y7, rfl, s1, hE, hO⟩
      rw [List.length_map, t2, List.take_length] at hE hO
      obtain ⟨es, g1, g2, g3⟩ := id hE
      obtain ⟨fs, k1, k2, k3⟩ := id hO
      have dE := StrL.dec g2 g3
      have dO := StrL.dec k2 k3
      have lenE : es.length ≤ 100 := by rw [g2]; exact Nat.le_trans (List.length_filter_le _ _) (by rw [List.length_map]; exact few)
      have lenF : fs.length ≤ 100 := by rw [k2]; exact Nat.le_trans (List.length_filter_le _ _) (by rw [List.length_map]; exact few)
      have low : ∀ (i : Nat) (a : Addr), fs[i]? = some a → ∃ k y, (ivOf (H1 a)).1 = some k ∧ H1 a = some (.tup [.int k, y]) := fun i a hi => by
        have hlt := (List.getElem?_eq_some_iff.mp hi).1
        obtain ⟨p, hp⟩ : ∃ p, (((Rs.map fun R => ivD R l r).filter fun p => !loB p))[i]? = some p := ⟨_, List.getElem?_eq_getElem (by omega)⟩
        have hat := k3 i a p hi hp
        have hm := (List.mem_filter.mp (List.mem_of_getElem? hp)).2
        rw [ivOf_at hat]
        obtain ⟨pa, pb⟩ := p
        cases pa with
        | none => cases hm
        | some k => exact ⟨k, _, rfl, hat⟩
      refine ⟨.ref e, rfl, e, _, rfl, .inr (SqL.of g1), .ref o, rfl, o, fs, fs.map (fun a => ((ivOf (H1 a)).1).getD 0), rfl, rfl, SqL.of k1, List.length_map _, fun i a k ha hk => ?_, fun ps Dn so nD => ?_⟩
      · rw [List.getElem?_map, ha] at hk
        obtain ⟨k', y, e1, e2⟩ := low i a ha
        have e3 : ((ivOf (H1 a)).1).getD 0 = k := Option.some.inj hk
        rw [e1] at e3
        have e4 : k' = k := e3
        subst e4
        exact ⟨a, k', y, rfl, e2, rfl, rfl⟩
      · have sS := same_upd (o := HO.lst (ps.map fun p => V.ref p.2)) nD
        have lenP : ps.length ≤ 100 := by
          rw [so.1.length_eq, List.length_zip]
          omega
        refine ⟨Dn, _, rfl, .inr (SqL.of upd_same), ?_, fun q0 nq => ?_⟩
        · rw [List.length_append, List.length_map, List.append_nil, List.length_map]
          exact Nat.le_of_lt (small1000 (by omega))
        have sQ := same_upd (o := HO.lst (es.map V.ref ++ (ps.map (fun p => V.ref p.2) ++ []))) nq
        have sAll := sS.trans sQ
        have mem : ∀ p ∈ ps, p.2 ∈ fs ∧ p.1 = ((ivOf (H1 p.2)).1).getD 0 := fun p hp => by
          have hz := so.1.mem_iff.mp hp
          obtain ⟨i, hi, ei⟩ := List.getElem_of_mem hz
          have hi' : i < fs.length := by
            rw [List.length_zip] at hi
            omega
          rw [List.getElem_zip, List.getElem_map] at ei
          rw [← ei]
          exact ⟨List.getElem_mem hi', rfl⟩
        have lowP : ∀ p ∈ ps, (ivOf (H1 p.2)).1 = some p.1 := fun p hp => by
          obtain ⟨m1, m2⟩ := mem p hp
          obtain ⟨i, hi, ei⟩ := List.getElem_of_mem m1
          obtain ⟨k, y, e1, _⟩ := low i p.2 (by rw [List.getElem?_eq_getElem hi, ei])
          rw [m2, e1]
          rfl
        refine q _ q0 (((Rs.map fun R => ivD R l r).filter loB) ++ ps.map fun p => ivOf (H1 p.2)) (s1.trans sAll) (s1.free (sS.free nq)) ⟨es ++ ps.map Prod.snd, ?_, ?_, fun i t p a b => ?_⟩ ?_ ?_
        · rw [upd_same, List.map_append, List.append_nil, List.map_map]
          rfl
        · rw [List.length_append, List.length_append, g2, List.length_map, List.length_map]
        · by_cases k : i < es.length
          · rw [List.getElem?_append_left k] at a
            rw [List.getElem?_append_left (by omega)] at b
            exact sAll _ _ (g3 i t p a b)
          · rw [List.getElem?_append_right (by omega)] at a
            rw [List.getElem?_append_right (by omega), ← g2] at b
            rw [List.getElem?_map] at a b
            cases ep : ps[i - es.length]? with
            | none =>
              rw [ep] at a
              cases a
            | some p0 =>
              rw [ep] at a b
              have e1 : p0.2 = t := Option.some.inj a
              have e2 : ivOf (H1 p0.2) = p := Option.some.inj b
              obtain ⟨m1, _⟩ := mem p0 (List.mem_of_getElem? ep)
              obtain ⟨j, hj, ej⟩ := List.getElem_of_mem m1
              obtain ⟨p', hp'⟩ : ∃ p', (((Rs.map fun R => ivD R l r).filter fun p => !loB p))[j]? = some p' := ⟨_, List.getElem?_eq_getElem (by omega)⟩
              have hat := k3 j p0.2 p' (by rw [List.getElem?_eq_getElem hj, ej]) hp'
              rw [ivOf_at hat] at e2
              subst e1 e2
              exact sAll _ _ hat
        · have h1 : (ps.map fun p => ivOf (H1 p.2)).Perm ((Rs.map fun R => ivD R l r).filter fun p => !loB p) := by
            rw [dO]
            have hz := so.1.map fun p : Int × Addr => ivOf (H1 p.2)
            refine hz.trans ?_
            rw [show (((fs.map fun a => ((ivOf (H1 a)).1).getD 0).zip fs).map fun p : Int × Addr => ivOf (H1 p.2)) = ((((fs.map fun a => ((ivOf (H1 a)).1).getD 0).zip fs).map Prod.snd).map fun a => ivOf (H1 a)) from by rw [List.map_map]; rfl]
            rw [List.map_snd_zip (by rw [List.length_map]; exact Nat.le_refl _)]
          exact (h1.append_left _).trans (List.filter_append_perm loB _)
        · refine List.pairwise_append.mpr ⟨?_, ?_, fun p hp q hq => ?_⟩
          · refine List.Pairwise.imp_of_mem (R := fun _ _ => True) (fun {p q} hp _ _ => ?_) (List.pairwise_of_forall fun _ _ => True.intro)
            have := (List.mem_filter.mp hp).2
            unfold loB at this
            cases f : p.1 with
            | none => exact True.intro
            | some k =>
              rw [f] at this
              cases this
          · rw [List.pairwise_map]
            refine List.Pairwise.imp_of_mem (fun {p q} hp hq h => ?_) so.2.1
            rw [lowP p hp, lowP q hq]
            exact h
          · have := (List.mem_filter.mp hp).2
            unfold loB at this
            cases f : p.1 with
            | none => exact True.intro
            | some k =>
              rw [f] at this
              cases this
end
end Lo
namespace Lo
open PySem L2
abbrev sRSpread : Stmt := inClass sRegion 21
/-- a side of a difference over the names -/
def SideR (ns : List Str) (x : Str) : Prop := x ∈ (("0" : Str) :: ns)
theorem NamesR.side {ns : List Str} (N : NamesR ns) {x : Str} (h : SideR ns x) : x ≠ ("" : Str) := by
  rcases List.mem_cons.mp h with e | e
  · rw [e]
    decide +kernel
  · exact (N.ok x e).1
theorem StrL.snoc2 {H : Hp} {L t : Addr} {xs : List V} {ts : List Addr} {Ls : List Iv} {p : Iv} (h1 : H L = some (.lst xs)) (h2 : ts.length = Ls.length) (h3 : ∀ (i : Nat) (t : Addr) (p : Iv), ts[i]? = some t → Ls[i]? = some p → IvAt H t p) (ht : IvAt H t p) :
    StrL (upd H L (.lst (ts.map V.ref ++ [.ref t]))) L (Ls ++ [p]) := by
  have tup : ∀ {b : Addr} {p' : Iv}, IvAt H b p' → IvAt (upd H L (.lst (ts.map V.ref ++ [.ref t]))) b p' := fun {b p'} z => by
    show upd H L _ b = _
    rw [upd_ne (ne_of z h1 (by intro y; cases y))]
    exact z
  refine ⟨ts ++ [t], by rw [upd_same, List.map_append]; rfl, by rw [List.length_append, List.length_append, h2]; rfl, fun i t' p' a b => ?_⟩
  by_cases k : i < ts.length
  · rw [List.getElem?_append_left k] at a
    rw [List.getElem?_append_left (by omega)] at b
    exact tup (h3 i t' p' a b)
  · have hi : i = ts.length := by
      have := (List.getElem?_eq_some_iff.mp a).1
      rw [List.length_append, List.length_singleton] at this
      omega
    subst hi
    rw [List.getElem?_append_right (Nat.le_refl _), Nat.sub_self] at a
    rw [h2, List.getElem?_append_right (Nat.le_refl _), Nat.sub_self] at b
    have e1 : t = t' := Option.some.inj a
    have e2 : p = p' := Option.some.inj b
    subst e1 e2
    exact tup ht
theorem StrL.last {H : Hp} {L : Addr} {Ls : List Iv} {q : Iv} (h : StrL H L (Ls ++ [q])) : ∃ (ts : List Addr) (u : Addr), H L = some (.lst (ts.map V.ref ++ [.ref u])) ∧ ts.length = Ls.length ∧ (∀ (i : Nat) (t : Addr) (p : Iv), ts[i]? = some t → Ls[i]? = some p → IvAt H t p) ∧ IvAt H u q := by
  obtain ⟨ts, h1, h2, h3⟩ := h
  rw [List.length_append, List.length_singleton] at h2
  have hlt : Ls.length < ts.length := by omega
  have e : ts = ts.take Ls.length ++ [ts[Ls.length]] := by
    conv => lhs; rw [← List.take_append_drop Ls.length ts]
    rw [List.drop_eq_getElem_cons hlt, List.drop_of_length_le (by omega)]
  refine ⟨ts.take Ls.length, ts[Ls.length], ?_, by rw [List.length_take]; omega, fun i t p a b => ?_, h3 Ls.length _ q (List.getElem?_eq_getElem hlt) (by rw [List.getElem?_append_right (Nat.le_refl _), Nat.sub_self]; rfl)⟩
  · rw [h1]
    conv => lhs; rw [e]
    rw [List.map_append]
    rfl
  · have hi := (List.getElem?_eq_some_iff.mp b).1
    rw [List.getElem?_take_of_lt hi] at a
    exact h3 i t p a (by rw [List.getElem?_append_left hi]; exact b)
theorem ixN_last {n : Nat} : ixN (n + 1) (-1) = some n := by
  unfold ixN
  rw [if_neg (by decide), if_pos (by omega)]
  congr 1
  omega
theorem atI_last {ys : List V} {z : V} : atI (ys ++ [z]) (-1) = some z := by
  unfold atI
  rw [List.length_append, List.length_singleton, ixN_last]
  show (ys ++ [z])[ys.length]? = some z
  rw [List.getElem?_append_right (Nat.le_refl _), Nat.sub_self]
  rfl
theorem take_fold (Ls : List Iv) {i : Nat} (hi : i < Ls.length) : (Ls.take (i + 1)).foldl stepR [] = stepR ((Ls.take i).foldl stepR []) Ls[i] := by
  rw [List.take_add_one, List.getElem?_eq_getElem hi]
  show (Ls.take i ++ [Ls[i]]).foldl stepR [] = _
  rw [List.foldl_append]
  rfl
theorem fold_len : ∀ (Ls acc : List Iv), (Ls.foldl stepR acc).length ≤ acc.length + Ls.length
  | [], acc => Nat.le_refl _
  | p :: Ls, acc => by
    have h : (stepR acc p).length ≤ acc.length + 1 := by
      cases acc with
      | nil => exact Nat.le_refl _
      | cons q r =>
        cases t : touchB q p.1 with
        | true =>
          rw [stepR_yes t]
          show r.length + 1 ≤ r.length + 1 + 1
          omega
        | false =>
          rw [stepR_no t]
          exact Nat.le_refl _
    have := fold_len Ls (stepR acc p)
    show (Ls.foldl stepR (stepR acc p)).length ≤ acc.length + (Ls.length + 1)
    omega
section
variable {P : Program} {w : World} {K : PySem.W.Frag} {mg : Str → Option Value} {base : Heap}
noncomputable def sprd (Ls : List Iv) : List Iv := (Ls.foldl stepR []).reverse
def spSpread (C : Addr) : Sp := fun vs H Q _ => ∃ (p np tl : Addr) (ns : List Str) (Rs : List (List SRow)) (zs : List Str) (l r : Str), vs = [.ref p, .str l, .str r] ∧ RegAt C H p np tl ns Rs zs ∧ NamesR ns ∧ SideR ns l ∧ SideR ns r ∧ Rs.length ≤ 100 ∧
  ∀ (H' : Hp) (q : Addr) (Ls : List Iv), Same H H' → H q = none → Ls.Perm (Rs.map fun R => ivD R l r) → Ls.Pairwise (fun p q => lowLe p.1 q.1) → StrL H' q (sprd Ls) → Q (.ref q) H'
abbrev nSpread : List Str := ["self", "left", "right", "side", "found", "low", "high"]
theorem scSpread : FnScope nSpread ["self", "left", "right"] (defScope sRSpread) := ⟨rfl, rfl, rfl, by decide +kernel, rfl, by decide +kernel, by decide +kernel⟩
theorem ok_spread {f fS fI fT fZ fH C : Addr} {fd fdS fdT fdZ fdH : FuncData} {dvs : List V} (F : FunD K "spread" "Region.spread" (defArgs sRSpread) (defBody sRSpread) (defScope sRSpread) dvs [] f fd) (X : RTxt K mg C fI)
    (GS : FnOk P w K mg base CX0 1 fS fdS ["thing"] spSide) (kS : PySem.W.keepIn K (.ref fS) = true) (bS : Binds K fdS ["thing"] []) (gS : mg "is_side" = some (.ref fS))
    (GT : FnOk P w K mg base CX0 4 fT fdT ["tables", "left", "right"] spStretches) (kT : PySem.W.keepIn K (.ref fT) = true) (bT : Binds K fdT ["tables", "left", "right"] []) (gT : mg "_stretches" = some (.ref fT))
    (GZ : FnOk P w K mg base CX0 1 fZ fdZ ["stretch", "low"] spTouches) (kZ : PySem.W.keepIn K (.ref fZ) = true) (bZ : Binds K fdZ ["stretch", "low"] []) (gZ : mg "_touches" = some (.ref fZ))
    (GH : FnOk P w K mg base CX0 1 fH fdH ["one", "other"] spHigher) (kH : PySem.W.keepIn K (.ref fH) = true) (bH : Binds K fdH ["one", "other"] []) (gH : mg "_higher" = some (.ref fH)) :
    FnOk P w K mg base CX0 5 f fd ["self", "left", "right"] (spSpread C) := by
  refine F.ok scSpread (fun vs H Q E h => ?_) (fun cdv A outer s H vs Q E hr h => ?_)
  · obtain ⟨p, np, tl, ns, Rs, zs, l, r, rfl, _⟩ := h
    rfl
  · obtain ⟨p, np, tl, ns, Rs, zs, l, r, rfl, RA, N, hl, hrt, few, q⟩ := h
    have nd := scSpread.nd
    have r1 := hr.mono (show 1 ≤ 4 by decide)
    obtain ⟨⟨dx, hp⟩, hn, hT⟩ := id RA
    have body : PSs (cxOf CX0 P w K mg base nSpread "Region.spread" (defScope sRSpread) f cdv A outer s H E).nox (defBody sRSpread) _ :=
      pss_cons (ps_for PassesOwn.never rfl (pi_tup (pe_tup (pa_cons (pv 1) (pa_cons (pv 2) pa_nil)))) (pg_name (i := 3) nd rfl (.inl rfl))
        (pss_one (ps_if (PW.pt (pw_or (pt_not (pt_val (pe_call GS r1 (by rfl) gS kS bS .nil pass0 (pa_cons (pv 3) pa_nil)))) (pw_or1 (PW.pt (pw_and (pt_cmpR op_ne (pv 3) pe_str (nomark _)) (pw_and1 (pt_cmpR op_notIn_seq (pv 3) (pe_fld (pv 0) rfl) (by rfl)))))))) (pss_one ps_never) pss_nil)))
      (pss_cons (ps_set (i := 4) nd rfl (.inl rfl) (pe_lst pa_nil))
      (pss_cons (ps_for PassesOwn.never rfl (pi_list (pe_call GT hr (by rfl) gT kT bT .nil pass0 (pa_cons (pe_fld (pv 0) rfl) (pa_cons (pv 1) (pa_cons (pv 2) pa_nil))))) (pg_tup rfl (pgs_cons (pg_name (i := 5) nd rfl (.inl rfl)) (pgs_cons (pg_name (i := 6) nd rfl (.inl rfl)) pgs_nil)))
        (pss_one (ps_if (PW.pt (pw_and (pt_truth (pv 4) (by intro _; rfl)) (pw_and1 (pt_val (pe_call GZ r1 (by rfl) gZ kZ bZ .nil pass0 (pa_cons (pe_ix ix_list (pv 4) (pe_un un_neg pe_int) (fun _ _ => rfl)) (pa_cons (pv 5) pa_nil)))))))
          (pss_one (ps_asg (pe_tup (pa_cons (pe_ix ix_tup (pe_ix ix_list (pv 4) (pe_un un_neg pe_int) (fun _ _ => rfl)) pe_int (fun _ _ => rfl)) (pa_cons (pe_call GH r1 (by rfl) gH kH bH .nil pass0 (pa_cons (pe_ix ix_tup (pe_ix ix_list (pv 4) (pe_un un_neg pe_int) (fun _ _ => rfl)) pe_int (fun _ _ => rfl)) (pa_cons (pv 6) pa_nil))) pa_nil))) (pg_sub (pv 4) (pe_un un_neg pe_int) set_list)))
          (pss_one (ps_expr (pe_bm PySem.F.plainAttrs_list PySem.F.slot_list_append PySem.F.type_list_append mt_append (pv 4) (pa_cons (pe_tup (pa_cons (pv 5) (pa_cons (pv 6) pa_nil))) pa_nil)))))))
      (pss_one (ps_ret (pv 4)))))
    refine ⟨_, body.nox, ?_⟩
    have sz2 : 2 ≤ sizeLine := by decide
    refine ⟨.str l, rfl, .str r, rfl, sz2, fun tp ntp => ?_⟩
    have sT := same_upd (o := HO.tup [V.str l, V.str r]) ntp
    refine ⟨tp, rfl, ⟨_, SqT.of upd_same⟩, for_tup (K := K) (a := tp) (xs := [V.str l, V.str r]) (fun i σ H' => ∃ y3 : Option V, σ = [some (.ref p), some (.str l), some (.str r), y3, none, none, none] ∧ H' = upd H tp (.tup [V.str l, V.str r])) ⟨none, rfl, rfl⟩ (fun i σ H' _ ⟨_, _, e⟩ => by rw [e]; exact SqT.of upd_same) ?_ ?_⟩
    · rintro i x σ H' hi ⟨y3, rfl, rfl⟩
      have hx : ∃ z : Str, x = .str z ∧ SideR ns z := by
        match i, hi with
        | 0, hi => exact ⟨l, (Option.some.inj hi).symm, hl⟩
        | 1, hi => exact ⟨r, (Option.some.inj hi).symm, hrt⟩
      obtain ⟨z, rfl, hz⟩ := hx
      refine ⟨.str z, rfl, z, rfl, N.side hz, true, rfl, iteF ?_⟩
      refine ⟨.str z, rfl, rfl, _, rfl, ite2 (fun c => ?_) (fun c => ?_)⟩
      · have hzn : z ∈ ns := by
          rcases List.mem_cons.mp hz with e | e
          · rw [e] at c
            exact absurd c (by decide +kernel)
          · exact e
        refine ⟨.str z, rfl, .ref p, rfl, p, C, dx, _, _, rfl, sT _ _ hp, X.cl, X.nN, rflds_n _ _, np, _, rfl, .inr (SqT.of (sT _ _ hn)), rfl, flat_all _, _, rfl, ?_⟩
        rw [inV_strs, decide_eq_true hzn]
        exact iteF ⟨_, rfl, rfl⟩
      · exact iteF ⟨_, rfl, rfl⟩
    rintro σ H1 ⟨y3, rfl, rfl⟩
    refine ⟨Nat.zero_le _, fun o no => ?_⟩
    have sO := same_upd (o := HO.lst []) no
    have s0 := sT.trans sO
    have nO : H o = none := sT.free no
    refine ⟨.ref p, rfl, p, C, dx, _, _, rfl, s0 _ _ hp, X.cl, X.nT, rflds_t _ _, .str l, rfl, .str r, rfl, tl, l, r, Rs, zs, rfl, hT.same s0, few, fun H2 q0 Ls s2 nq hLs hperm hsorted => ?_⟩
    have s02 := s0.trans s2
    have hoo := s2 _ _ (upd_same (H := upd H tp (.tup [V.str l, V.str r])) (a := o) (o := HO.lst []))
    have nqo : q0 ≠ o := fun e => by
      rw [e, upd_same] at nq
      cases nq
    obtain ⟨ts, h1, h2, h3⟩ := id hLs
    have lenL : Ls.length ≤ 100 := by
      rw [hperm.length_eq, List.length_map]
      exact few
    refine ⟨q0, rfl, ⟨_, SqL.of h1⟩, for_list (K := K) (a := q0) (xs := ts.map V.ref) (fun i σ H' => ∃ (y3 y5 y6 : Option V), σ = [some (.ref p), some (.str l), some (.str r), y3, some (.ref o), y5, y6] ∧ (∀ b u, H2 b = some u → b ≠ o → H' b = some u) ∧ StrL H' o ((Ls.take i).foldl stepR []).reverse)
      ⟨_, none, none, rfl, fun b u e _ => e, [], hoo, rfl, fun i t p a => nomatch a⟩ (fun i σ H' _ ⟨_, _, _, _, keep, _⟩ => SqL.of (keep _ _ h1 nqo)) ?_ ?_⟩
    · rintro i v σ H3 hi ⟨y3, y5, y6, rfl, keep, hacc⟩
      obtain ⟨t, rfl, ht, hit⟩ := pick_ref hi
      have hiL : i < Ls.length := by omega
      obtain ⟨pv, hpv⟩ : ∃ pv, Ls[i]? = some pv := ⟨_, List.getElem?_eq_getElem hiL⟩
      have epv : Ls[i] = pv := by
        rw [List.getElem?_eq_getElem hiL] at hpv
        exact Option.some.inj hpv
      have htat : IvAt H3 t pv := keep _ _ (h3 i t pv ht hpv) (ne_of (h3 i t pv ht hpv) hoo (by intro y; cases y))
      rw [take_fold Ls hiL, epv]
      have lenA : ((Ls.take i).foldl stepR []).length ≤ 100 := by
        have := fold_len (Ls.take i) []
        rw [List.length_take] at this
        have h0 : ([] : List Iv).length = 0 := rfl
        omega
      generalize (Ls.take i).foldl stepR [] = acc at *
      refine ⟨t, _, rfl, SqT.of htat, rfl, _, _, rfl, _, _, rfl, rfl, ?_⟩
      cases acc with
      | nil =>
        obtain ⟨us, g1, g2, g3⟩ := id hacc
        have eu : us = [] := List.length_eq_zero_iff.mp g2
        subst eu
        refine ⟨.ref o, rfl, false, .inl ⟨_, SqL.of g1, rfl⟩, iteF (iteF ?_)⟩
        refine ⟨.ref o, rfl, .inl ⟨rfl, _, SqL.of g1⟩, oV pv.1, rfl, oV pv.2, rfl, sz2, fun u nu => ?_⟩
        have sU := same_upd (o := HO.tup [oV pv.1, oV pv.2]) nu
        have g1' := sU _ _ g1
        refine ⟨o, _, _, rfl, rfl, g1', by decide, _, _, _, rfl, fun b w' e n => by rw [upd_ne n]; exact sU _ _ (keep b w' e n), ?_⟩
        exact StrL.snoc2 (ts := []) (Ls := []) g1' rfl (fun i t p a => nomatch a) upd_same
      | cons qh rest =>
        rw [List.reverse_cons] at hacc
        obtain ⟨us, ul, g1, g2, g3, g4⟩ := hacc.last
        rw [List.length_reverse] at g2
        have lenU : us.length ≤ 100 := by
          have : (qh :: rest).length = rest.length + 1 := rfl
          omega
        have ne0 : (!(us.map V.ref ++ [V.ref ul]).isEmpty) = true := by
          cases us <;> rfl
        refine ⟨.ref o, rfl, _, .inl ⟨_, SqL.of g1, rfl⟩, ?_⟩
        rw [ne0]
        refine iteT ?_
        refine ⟨.ref o, rfl, 1, rfl, o, _, -1, _, rfl, rfl, SqL.of g1, atI_last, oV pv.1, rfl, ul, qh, pv.1, rfl, g4, touchB qh pv.1, rfl, ?_⟩
        cases tb : touchB qh pv.1 with
        | true =>
          rw [stepR_yes tb]
          refine iteT ?_
          refine ⟨.ref o, rfl, 1, rfl, o, _, -1, _, rfl, rfl, SqL.of g1, atI_last, ul, _, 0, _, rfl, rfl, SqT.of g4, atI_nat (j := 0) rfl, ?_⟩
          refine ⟨.ref o, rfl, 1, rfl, o, _, -1, _, rfl, rfl, SqL.of g1, atI_last, ul, _, 1, _, rfl, rfl, SqT.of g4, atI_nat (j := 1) rfl, oV pv.2, rfl, qh.2, pv.2, rfl, sz2, fun u nu => ?_⟩
          have sU := same_upd (o := HO.tup [oV qh.1, oV (higher qh.2 pv.2)]) nu
          have g1' := sU _ _ g1
          refine ⟨.ref o, rfl, 1, rfl, o, _, -1, us.length, rfl, rfl, g1', ?_, ?_⟩
          · rw [List.length_append, List.length_map]
            exact ixN_last
          · have es : (us.map V.ref ++ [V.ref ul]).set us.length (.ref u) = us.map V.ref ++ [.ref u] := by
              rw [List.set_append_right _ _ (by rw [List.length_map]; exact Nat.le_refl _), List.length_map, Nat.sub_self]
              rfl
            rw [es]
            refine ⟨_, _, _, rfl, fun b w' e n => by rw [upd_ne n]; exact sU _ _ (keep b w' e n), ?_⟩
            rw [List.reverse_cons]
            exact StrL.snoc2 g1' (by rw [List.length_reverse]; exact g2) (fun i t p a b => sU _ _ (g3 i t p a b)) upd_same
        | false =>
          rw [stepR_no tb]
          refine iteF ?_
          refine ⟨.ref o, rfl, .inl ⟨rfl, _, SqL.of g1⟩, oV pv.1, rfl, oV pv.2, rfl, sz2, fun u nu => ?_⟩
          have sU := same_upd (o := HO.tup [oV pv.1, oV pv.2]) nu
          have g1' := sU _ _ g1
          refine ⟨o, _, _, rfl, rfl, g1', by rw [List.length_append, List.length_map]; exact small1000 (by show us.length + 1 ≤ 1000; omega), _, _, _, rfl, fun b w' e n => by rw [upd_ne n]; exact sU _ _ (keep b w' e n), ?_⟩
          rw [List.reverse_cons, List.reverse_cons]
          have e2 : us.map V.ref ++ [V.ref ul] = (us ++ [ul]).map V.ref := by rw [List.map_append]; rfl
          rw [e2] at g1' ⊢
          obtain ⟨vs', k1, k2, k3⟩ := id hacc
          have ev : vs' = us ++ [ul] := by
            rw [g1, e2] at k1
            have inj : ∀ (a b : List Addr), a.map V.ref = b.map V.ref → a = b := fun a => by
              induction a with
              | nil => intro b z; cases b with
                | nil => rfl
                | cons _ _ => exact nomatch z
              | cons x a ih => intro b z; cases b with
                | nil => exact nomatch z
                | cons y b =>
                  have z1 := List.cons.inj z
                  rw [V.ref.inj z1.1, ih b z1.2]
            exact (inj _ _ (HO.lst.inj (Option.some.inj k1))).symm
          subst ev
          exact StrL.snoc2 g1' k2 (fun i t p a b => sU _ _ (k3 i t p a b)) upd_same
    · rintro σ H3 ⟨y3, y5, y6, rfl, keep, hacc⟩
      rw [List.length_map, h2, List.take_length] at hacc
      exact ⟨.ref o, rfl, q H3 o Ls (fun b u e => keep b u (s02 _ _ e) (ne_of_none e nO)) nO hperm hsorted hacc⟩
end
end Lo
namespace Lo
open PySem L2
abbrev sRHull : Stmt := inClass sRegion 20
/-- what is asked of the class of an error -/
structure Err (K : PySem.W.Frag) (mg : Str → Option Value) (x : Str) (C : Addr) : Prop where
  g : mg x = some (.ref C)
  x : PySem.W.excIn K C [.type "ValueError", .type "Exception", .type "BaseException", .type "object"] "ValueError.__new__" = true
  k : PySem.W.keepIn K (.ref C) = true
  b : PySem.W.subIn K (.ref C) (.type "BaseException") = some true
  t : PySem.W.typeIn K (.ref C) = some (.type "type")
  e : PySem.W.exmOne K (.ref C) (.ref C) = some true
/-- the greatest of numbers -/
def maxL : List Int → Int
  | [] => 0
  | [x] => x
  | x :: y :: r => max x (maxL (y :: r))
theorem maxL_spec : ∀ l : List Int, l ≠ [] → maxL l ∈ l ∧ ∀ y ∈ l, y ≤ maxL l
  | [], h => absurd rfl h
  | [x], _ => ⟨List.mem_singleton.mpr rfl, fun y hy => by rw [List.mem_singleton.mp hy]; exact Int.le_refl _⟩
  | x :: y :: r, _ => by
    obtain ⟨h1, h2⟩ := maxL_spec (y :: r) (List.cons_ne_nil _ _)
    show max x (maxL (y :: r)) ∈ _ ∧ ∀ z ∈ _, z ≤ max x (maxL (y :: r))
    by_cases c : x ≤ maxL (y :: r)
    · rw [Int.max_eq_right c]
      refine ⟨List.mem_cons_of_mem _ h1, fun z hz => ?_⟩
      rcases List.mem_cons.mp hz with e | e
      · exact e ▸ c
      · exact h2 z e
    · rw [Int.max_eq_left (by omega)]
      refine ⟨List.mem_cons_self, fun z hz => ?_⟩
      rcases List.mem_cons.mp hz with e | e
      · exact e ▸ Int.le_refl _
      · have := h2 z e
        omega
theorem maxL_unique {l : List Int} {m : Int} (hm : m ∈ l) (h : ∀ y ∈ l, y ≤ m) : m = maxL l := by
  obtain ⟨h1, h2⟩ := maxL_spec l (fun e => by rw [e] at hm; exact absurd hm List.not_mem_nil)
  have a := h _ h1
  have b := h2 _ hm
  omega
noncomputable def limD (R : List SRow) (l r : Str) : Int := (D R l r).getD 0
noncomputable def allB (Rs : List (List SRow)) (l r : Str) : Bool := Rs.all fun R => (D R l r).isSome
theorem allB_iff {Rs : List (List SRow)} {l r : Str} : allB Rs l r = true ↔ ∀ R ∈ Rs, ∃ k, D R l r = some k := by
  unfold allB
  rw [List.all_eq_true]
  exact forall_congr' fun R => forall_congr' fun _ => Option.isSome_iff_exists
noncomputable def hullOne (Rs : List (List SRow)) (l r : Str) : List SRow := if l ≠ r ∧ allB Rs l r = true then [(l, r, maxL (Rs.map fun R => limD R l r))] else []
noncomputable def hullRow (Rs : List (List SRow)) (l : Str) (rs : List Str) : List SRow := rs.flatMap fun r => hullOne Rs l r
noncomputable def hullAll (Rs : List (List SRow)) (es : List Str) : List SRow := es.flatMap fun l => hullRow Rs l es
theorem hullOne_len {Rs : List (List SRow)} {l r : Str} : (hullOne Rs l r).length ≤ 1 := by
  unfold hullOne
  split
  · exact Nat.le_refl _
  · exact Nat.zero_le _
theorem hullRow_len {Rs : List (List SRow)} {l : Str} : ∀ rs : List Str, (hullRow Rs l rs).length ≤ rs.length
  | [] => Nat.le_refl _
  | r :: rs => by
    have h1 := hullOne_len (Rs := Rs) (l := l) (r := r)
    have h2 := hullRow_len (Rs := Rs) (l := l) rs
    unfold hullRow at *
    rw [List.flatMap_cons, List.length_append, List.length_cons]
    omega
theorem hullPart_len {Rs : List (List SRow)} {es : List Str} : ∀ ls : List Str, (ls.flatMap fun l => hullRow Rs l es).length ≤ ls.length * es.length
  | [] => Nat.zero_le _
  | l :: ls => by
    have h1 := hullRow_len (Rs := Rs) (l := l) es
    have h2 := hullPart_len (Rs := Rs) (es := es) ls
    rw [List.flatMap_cons, List.length_append, List.length_cons, Nat.succ_mul]
    omega
theorem inV_noneS : ∀ l : List (Option Int), inV .non (l.map oV) = decide (none ∈ l)
  | [] => by simp [inV]
  | x :: l => by
    have ih := inV_noneS l
    unfold inV at ih ⊢
    rw [List.map_cons, List.any_cons, ih]
    cases x with
    | none => simp [oV, eqV]
    | some k => simp [oV, eqV]
theorem flat_oVS (l : List (Option Int)) : (l.map oV).all flatV = true := by
  rw [List.all_map]
  exact List.all_eq_true.mpr fun x _ => by cases x <;> rfl
theorem Sys.snocT {H : Hp} {L t : Addr} {xs : List V} {ts : List Addr} {rows : List SRow} {r : SRow} (h1 : H L = some (.lst xs)) (h2 : ts.length = rows.length) (h3 : ∀ (i : Nat) (t : Addr) (r : SRow), ts[i]? = some t → rows[i]? = some r → RowT H t r) (ht : RowT H t r) :
    Sys RowT (upd H L (.lst (ts.map V.ref ++ [.ref t]))) L (rows ++ [r]) := by
  have tup : ∀ {b : Addr} {p' : SRow}, RowT H b p' → RowT (upd H L (.lst (ts.map V.ref ++ [.ref t]))) b p' := fun {b p'} z => by
    show upd H L _ b = _
    rw [upd_ne (ne_of z h1 (by intro y; cases y))]
    exact z
  refine ⟨ts ++ [t], by rw [upd_same, List.map_append]; rfl, by rw [List.length_append, List.length_append, h2]; rfl, fun i t' p' a b => ?_⟩
  by_cases k : i < ts.length
  · rw [List.getElem?_append_left k] at a
    rw [List.getElem?_append_left (by omega)] at b
    exact tup (h3 i t' p' a b)
  · have hi : i = ts.length := by
      have := (List.getElem?_eq_some_iff.mp a).1
      rw [List.length_append, List.length_singleton] at this
      omega
    subst hi
    rw [List.getElem?_append_right (Nat.le_refl _), Nat.sub_self] at a
    rw [h2, List.getElem?_append_right (Nat.le_refl _), Nat.sub_self] at b
    have e1 : t = t' := Option.some.inj a
    have e2 : r = p' := Option.some.inj b
    subst e1 e2
    exact tup ht
section
variable {P : Program} {w : World} {K : PySem.W.Frag} {mg : Str → Option Value} {base : Heap}
def spHull (C CN : Addr) : Sp := fun vs H Q E => ∃ (p np tl : Addr) (ns : List Str) (Rs : List (List SRow)) (zs : List Str), vs = [.ref p] ∧ RegAt C H p np tl ns Rs zs ∧ NamesR ns ∧ Rs.length ≤ 100 ∧ (Rs = [] → E (.ref CN) none H) ∧
  (Rs ≠ [] → ∀ (H' : Hp) (q : Addr), Same H H' → H q = none → Sys RowT H' q (hullAll Rs (("0" : Str) :: ns)) → Q (.ref q) H')
abbrev nHull : List Str := ["self", "sides", "found", "left", "right", "limits", "table"]
theorem scHull : FnScope nHull ["self"] (defScope sRHull) := ⟨rfl, rfl, rfl, by decide +kernel, rfl, by decide +kernel, by decide +kernel⟩
theorem ok_hull {f fL fI C CN : Addr} {fd fdL : FuncData} (F : Fun K "hull" "Region.hull" sRHull f fd) (X : RTxt K mg C fI) (N1 : Err K mg "NoSolution" CN) (hmax : mg "max" = none)
    (GL : FnOk P w K mg base CX0 1 fL fdL ["table", "left", "right"] spLimit) (kL : PySem.W.keepIn K (.ref fL) = true) (bL : Binds K fdL ["table", "left", "right"] []) (gL : mg "limit_of" = some (.ref fL)) :
    FnOk P w K mg base (L2.CX P w) 2 f fd ["self"] (spHull C CN) := by
  refine F.okX scHull (fun vs H Q E h => ?_) (fun cdv A outer s H vs Q E hr h => ?_)
  · obtain ⟨p, np, tl, ns, Rs, zs, rfl, _⟩ := h
    rfl
  · obtain ⟨p, np, tl, ns, Rs, zs, rfl, RA, N, few, q0, q1⟩ := h
    have nd := scHull.nd
    obtain ⟨⟨dx, hp⟩, hn, hT⟩ := id RA
    refine ⟨_, pss_cons (ps_if (pt_not (pt_truth (pe_fld (pv 0) rfl) (by intro _; rfl))) (pss_one (ps_raise rfl (takes_of rfl rfl rfl rfl) (pmk_own PySem.F.excBase_ValueError N1.x N1.g N1.k (raises_own N1.b N1.t) rfl))) pss_nil)
      (pss_cons (ps_set (i := 1) nd rfl (.inl rfl) (pe_lst (pa_cons pe_str (StX.pa_star (pe_fld (pv 0) rfl) pa_nil))))
      (pss_cons (ps_set (i := 2) nd rfl (.inl rfl) (pe_lst pa_nil))
      (pss_cons (ps_for (passes_of rfl) rfl (pi_list (pv 1)) (pg_name (i := 3) nd rfl (.inr rfl))
        (pss_one (ps_for (passes_of rfl) rfl (pi_list (pv 1)) (pg_name (i := 4) nd rfl (.inr rfl))
          (C8.pss_cut (ps_setLc (i := 5) (own := [("table", 6)]) (g := gName 6) (tt := tYes) rfl nd rfl rfl (sw_true rfl rfl rfl (by decide +kernel)) (pi_list (pe_fld (pv 0) rfl)) (blkOk_by (N := nHull) (sc := defScope sRHull) (by decide +kernel))
            (fun _ _ _ _ _ => pg_name (i := 6) nd rfl (.inl rfl)) (fun _ _ _ _ _ => pts_nil) (fun _ _ _ _ _ => pe_call GL hr (by rfl) gL kL bL .nil pass0 (pa_cons (pv 6) (pa_cons (pv 3) (pa_cons (pv 4) pa_nil)))))
          (pss_one (ps_if (PW.pt (pw_and (pt_cmpR op_ne (pv 3) (pv 4) (nomark _)) (pw_and1 (pt_cmpR op_notIn_seq pe_non (pv 5) (by rfl)))))
            (pss_one (ps_expr (pe_bm PySem.F.plainAttrs_list PySem.F.slot_list_append PySem.F.type_list_append mt_append (pv 2) (pa_cons (pe_tup (pa_cons (pv 3) (pa_cons (pv 4) (pa_cons (pe_callB (cr_max rfl) (by rfl) hmax PyProof.Rows.boot_max (pa_cons (pv 5) pa_nil)) pa_nil)))) pa_nil)))) pss_nil))))))
      (pss_one (ps_ret (pv 2)))))), ?_⟩
    have sz3 : 3 ≤ sizeLine := by decide
    obtain ⟨ts0, hts, htl, htat⟩ := id hT
    refine ⟨_, rfl, p, C, dx, _, _, rfl, hp, X.cl, X.nT, rflds_t _ _, !(ts0.map V.ref).isEmpty, .inl ⟨_, SqL.of hts, rfl⟩, ?_⟩
    by_cases hz : Rs = []
    · have e0 : ts0 = [] := List.length_eq_zero_iff.mp (by rw [htl, hz]; rfl)
      subst e0
      exact iteT (q0 hz)
    have e1 : (!(ts0.map V.ref).isEmpty) = true := by
      cases ts0 with
      | nil => exact absurd (List.length_eq_zero_iff.mp htl.symm) hz
      | cons a l => rfl
    rw [e1]
    refine iteF ?_
    have n4 := N.few
    refine ⟨_, rfl, p, C, dx, _, _, rfl, hp, X.cl, X.nN, rflds_n _ _, np, _, rfl, .inl (SqT.of hn), ?_, fun sl nsl => ?_⟩
    · show ((V.str "0") :: (ns.map V.str ++ [])).length ≤ sizeLine
      rw [List.append_nil, List.length_cons, List.length_map]
      exact Nat.le_of_lt (small1000 (by omega))
    have eS : (V.str "0") :: (ns.map V.str ++ []) = (("0" : Str) :: ns).map V.str := by
      rw [List.append_nil]
      rfl
    rw [eS]
    have sS := same_upd (o := HO.lst ((("0" : Str) :: ns).map V.str)) nsl
    refine ⟨Nat.zero_le _, fun o no => ?_⟩
    have sO := same_upd (o := HO.lst []) no
    have nO : H o = none := sS.free no
    have hsl : upd (upd H sl (.lst ((("0" : Str) :: ns).map V.str))) o (.lst []) sl = some (.lst ((("0" : Str) :: ns).map V.str)) := sO _ _ upd_same
    have s1 := sS.trans sO
    have ho1 := upd_same (H := upd H sl (.lst ((("0" : Str) :: ns).map V.str))) (a := o) (o := HO.lst [])
    have nso : sl ≠ o := ne_of_none (upd_same (H := H) (a := sl) (o := HO.lst ((("0" : Str) :: ns).map V.str))) no
    generalize upd (upd H sl (.lst ((("0" : Str) :: ns).map V.str))) o (.lst []) = H1 at s1 hsl ho1
    have q1' := q1 hz
    have lenE : (("0" : Str) :: ns).length ≤ 5 := by
      rw [List.length_cons]
      omega
    generalize hes : (("0" : Str) :: ns) = es at *
    have rowTake : ∀ (l : Str) (j : Nat) (hj : j < es.length), hullRow Rs l (es.take (j + 1)) = hullRow Rs l (es.take j) ++ hullOne Rs l es[j] := fun l j hj => by
      unfold hullRow
      rw [List.take_add_one, List.getElem?_eq_getElem hj, List.flatMap_append]
      show _ ++ (hullOne Rs l es[j] ++ []) = _
      rw [List.append_nil]
    have allTake : ∀ (i : Nat) (hi : i < es.length), ((es.take (i + 1)).flatMap fun l => hullRow Rs l es) = ((es.take i).flatMap fun l => hullRow Rs l es) ++ hullRow Rs es[i] es := fun i hi => by
      rw [List.take_add_one, List.getElem?_eq_getElem hi, List.flatMap_append]
      show _ ++ (hullRow Rs es[i] es ++ []) = _
      rw [List.append_nil]
    have pre : ∀ i, ((es.take i).flatMap fun l => hullRow Rs l es).length ≤ 25 := fun i => by
      have h1 := hullPart_len (Rs := Rs) (es := es) (es.take i)
      have h2 : (es.take i).length ≤ 5 := by rw [List.length_take]; omega
      exact Nat.le_trans h1 (Nat.mul_le_mul h2 lenE)
    refine ⟨.ref sl, rfl, sl, rfl, ⟨_, SqL.of hsl⟩, for_list (K := K) (a := sl) (xs := es.map V.str) (fun i σ H' => ∃ (y3 y4 y5 : Option V), σ = [some (.ref p), some (.ref sl), some (.ref o), y3, y4, y5, none] ∧ (∀ b u, H1 b = some u → b ≠ o → H' b = some u) ∧ Sys RowT H' o ((es.take i).flatMap fun l => hullRow Rs l es))
      ⟨none, none, none, rfl, fun b u e _ => e, [], ho1, rfl, fun i t r a => nomatch a⟩ (fun i σ H' _ ⟨_, _, _, _, keep, _⟩ => SqL.of (keep _ _ hsl nso)) ?_ ?_⟩
    · rintro i x σ H2 hi ⟨y3, y4, y5, rfl, keep2, hS2⟩
      have hiE : i < es.length := by
        have := (List.getElem?_eq_some_iff.mp hi).1
        rw [List.length_map] at this
        exact this
      have hx : x = .str es[i] := by
        rw [List.getElem?_map, List.getElem?_eq_getElem hiE] at hi
        exact (Option.some.inj hi).symm
      subst hx
      rw [allTake i hiE]
      have pl := pre i
      generalize ((es.take i).flatMap fun l => hullRow Rs l es) = A at *
      generalize es[i] = l at *
      refine ⟨.ref sl, rfl, sl, rfl, ⟨_, SqL.of (keep2 _ _ hsl nso)⟩, for_list (K := K) (a := sl) (xs := es.map V.str) (fun j σ H' => ∃ (y4 y5 : Option V), σ = [some (.ref p), some (.ref sl), some (.ref o), some (.str l), y4, y5, none] ∧ (∀ b u, H1 b = some u → b ≠ o → H' b = some u) ∧ Sys RowT H' o (A ++ hullRow Rs l (es.take j)))
        ⟨_, _, rfl, keep2, by
          show Sys RowT H2 o (A ++ [])
          rw [List.append_nil]
          exact hS2⟩ (fun i σ H' _ ⟨_, _, _, keep, _⟩ => SqL.of (keep _ _ hsl nso)) ?_ (fun σ H' h => by
          rw [List.length_map, List.take_length] at h
          obtain ⟨y4, y5, e, k, S⟩ := h
          exact ⟨_, _, _, e, k, S⟩)⟩
      rintro j z σ H3 hj ⟨y4, y5, rfl, keep3, hS3⟩
      have hjE : j < es.length := by
        have := (List.getElem?_eq_some_iff.mp hj).1
        rw [List.length_map] at this
        exact this
      have hz' : z = .str es[j] := by
        rw [List.getElem?_map, List.getElem?_eq_getElem hjE] at hj
        exact (Option.some.inj hj).symm
      subst hz'
      rw [rowTake l j hjE]
      have rl : (hullRow Rs l (es.take j)).length ≤ 5 := Nat.le_trans (hullRow_len _) (by rw [List.length_take]; omega)
      generalize hullRow Rs l (es.take j) = B at *
      generalize es[j] = r at *
      have same3 : Same H H3 := fun b u e => keep3 b u (s1 _ _ e) (ne_of_none e nO)
      have hts3 := same3 _ _ hts
      refine ⟨fun σ' H' => ∃ c : Addr, σ' = [some (.ref p), some (.ref sl), some (.ref o), some (.str l), some (.str r), some (.ref c), none] ∧ Same H3 H' ∧ H' c = some (.lst ((Rs.map fun R => D R l r).map oV)), ?_, ?_⟩
      · refine ⟨_, rfl, p, C, dx, _, _, rfl, same3 _ _ hp, X.cl, X.nT, rflds_t _ _, tl, rfl, ⟨_, SqL.of hts3⟩, fun c nc => ?_⟩
        refine lc_list (K := K) (a := tl) (xs := ts0.map V.ref) (fun k H' => Same H3 H' ∧ H' c = some (.lst (((Rs.take k).map fun R => D R l r).map oV))) ⟨same_upd nc, upd_same⟩ (fun k H' _ h => SqL.of (h.1 _ _ hts3)) ?_ ?_
        · rintro k v Hc hk ⟨sc, hc⟩
          obtain ⟨t, rfl, ht, hkt⟩ := pick_ref hk
          obtain ⟨R, hR⟩ : ∃ R, Rs[k]? = some R := ⟨_, List.getElem?_eq_getElem (by omega)⟩
          refine ⟨rfl, ?_⟩
          unfold tYes
          refine iteT ?_
          refine ⟨_, rfl, .str l, rfl, .str r, rfl, t, l, r, R, zs, rfl, (htat k t R ht hR).same (same3.trans sc), _, hc, ?_, sc.later nc, ?_⟩
          · rw [List.length_map, List.length_map, List.length_take]
            exact small1000 (by omega)
          · rw [upd_same, List.take_add_one, hR, List.map_append, List.map_append]
            rfl
        · rintro Hc ⟨sc, hc⟩
          rw [List.length_map, htl, List.take_length] at hc
          exact ⟨c, rfl, sc, hc⟩
      rintro σ4 H4 ⟨c, rfl, s4, hc⟩
      have S4 := hS3.sameT s4
      have keep4 : ∀ b u, H1 b = some u → b ≠ o → H4 b = some u := fun b u e n => s4 _ _ (keep3 b u e n)
      have no : hullOne Rs l r = [] → ∃ (y4 y5 : Option V), [some (V.ref p), some (.ref sl), some (.ref o), some (.str l), some (.str r), some (.ref c), none] = [some (V.ref p), some (.ref sl), some (.ref o), some (.str l), y4, y5, none] ∧ (∀ b u, H1 b = some u → b ≠ o → H4 b = some u) ∧ Sys RowT H4 o (A ++ (B ++ hullOne Rs l r)) := fun e => by
        rw [e, List.append_nil]
        exact ⟨_, _, rfl, keep4, S4⟩
      refine ⟨.str l, rfl, .str r, rfl, rfl, _, rfl, ?_⟩
      by_cases lr : l = r
      · rw [decide_eq_true (by rw [lr])]
        refine iteF (no ?_)
        unfold hullOne
        rw [if_neg (fun h => h.1 lr)]
      rw [decide_eq_false (fun h => lr (V.str.inj h))]
      refine iteT ?_
      refine ⟨.ref c, rfl, c, _, rfl, .inl (SqL.of hc), rfl, flat_oVS _, _, rfl, ?_⟩
      rw [inV_noneS]
      by_cases hall : allB Rs l r = true
      · have hk := allB_iff.mp hall
        have nn : none ∉ (Rs.map fun R => D R l r) := fun m => by
          obtain ⟨R, hR, e⟩ := List.mem_map.mp m
          obtain ⟨k, ek⟩ := hk R hR
          rw [ek] at e
          cases e
        rw [decide_eq_false nn]
        refine iteT ?_
        obtain ⟨us, g1, g2, g3⟩ := id S4
        have lenU : us.length ≤ 30 := by
          rw [g2, List.length_append]
          omega
        have hci : H4 c = some (.lst ((Rs.map fun R => limD R l r).map V.int)) := by
          rw [hc, List.map_map, List.map_map]
          congr 2
          refine List.map_congr_left fun R hR => ?_
          obtain ⟨k, ek⟩ := hk R hR
          show oV (D R l r) = V.int (limD R l r)
          unfold limD
          rw [ek]
          rfl
        refine ⟨.ref o, rfl, .inl ⟨rfl, _, SqL.of g1⟩, .str l, rfl, .str r, rfl, .ref c, rfl, c, _, rfl, SqL.of hci, ?_, fun m hm hmx => ⟨sz3, fun u nu => ?_⟩⟩
        · rw [List.length_map]
          exact List.length_pos_iff.mpr hz
        have em : m = maxL (Rs.map fun R => limD R l r) := maxL_unique hm hmx
        have sU := same_upd (o := HO.tup [V.str l, V.str r, V.int m]) nu
        have g1' := sU _ _ g1
        have eOne : hullOne Rs l r = [(l, r, m)] := by
          unfold hullOne
          rw [if_pos ⟨lr, hall⟩, em]
        refine ⟨o, _, _, rfl, rfl, g1', by rw [List.length_map]; exact small1000 (by omega), ?_⟩
        refine ⟨_, _, rfl, fun b u' e n => by rw [upd_ne n]; exact sU _ _ (keep4 b u' e n), ?_⟩
        rw [eOne, ← List.append_assoc]
        exact Sys.snocT g1' g2 (fun i t r a b => sU _ _ (g3 i t r a b)) upd_same
      · have hn' : none ∈ (Rs.map fun R => D R l r) := by
          refine Classical.byContradiction fun h => hall (allB_iff.mpr fun R hR => ?_)
          cases e : D R l r with
          | none => exact absurd (List.mem_map.mpr ⟨R, hR, e⟩) h
          | some k => exact ⟨k, rfl⟩
        rw [decide_eq_true hn']
        refine iteF (no ?_)
        unfold hullOne
        rw [if_neg (fun h => hall h.2)]
    · rintro σ H2 ⟨y3, y4, y5, rfl, keep2, hS2⟩
      rw [List.length_map, List.take_length] at hS2
      exact ⟨.ref o, rfl, q1' H2 o (fun b u e => keep2 b u (s1 _ _ e) (ne_of_none e nO)) nO hS2⟩
end
end Lo
namespace Lo
open PySem L2
abbrev sLHas : Stmt := top 64
theorem OkS.two {ns : List Str} (N : NamesR ns) {m : Nat} {R : List SRow} (h : OkS ns m R) {l r : Str} (hl : SideR ns l) (hr : SideR ns r) (ne : l ≠ r) (w : Int) : OkS ns (m + 2) (R ++ [(l, r, w)] ++ [(r, l, -w)]) := by
  have ok : ∀ {x : Str}, SideR ns x → PyData.strOk x = true := fun {x} hx => by
    rcases List.mem_cons.mp hx with e | e
    · rw [e]
      decide +kernel
    · exact (N.ok x e).2.2
  refine ⟨fun q hq => ?_, ?_⟩
  · rcases List.mem_append.mp hq with h1 | h1
    · rcases List.mem_append.mp h1 with h2 | h2
      · exact h.1 q h2
      · rw [List.mem_singleton] at h2
        subst h2
        exact ⟨⟨ne, N.side hl, N.side hr⟩, ⟨ok hl, ok hr⟩, hl, hr⟩
    · rw [List.mem_singleton] at h1
      subst h1
      exact ⟨⟨ne.symm, N.side hr, N.side hl⟩, ⟨ok hr, ok hl⟩, hr, hl⟩
  · have := h.2
    rw [List.length_append, List.length_append]
    show R.length + 1 + 1 ≤ m + 2
    omega
section
variable {P : Program} {w : World} {K : PySem.W.Frag} {mg : Str → Option Value} {base : Heap}
def spHas : Sp := fun vs H Q _ => ∃ (np L : Addr) (ns : List Str) (Ss : List (List SRow)) (l r : Str) (x : Int), vs = [.ref np, .ref L, .str l, .str r, .int x] ∧ H np = some (.tup (ns.map V.str)) ∧ NamesR ns ∧ SideR ns l ∧ SideR ns r ∧ Syss H L Ss ∧ (∀ R ∈ Ss, OkS ns 40 R) ∧
  ∀ H' b, Same H H' → (b = true ↔ ∃ R ∈ Ss, hasV R l r x) → Q (.bl b) H'
abbrev nHas : List Str := ["names", "systems", "left", "right", "worth", "system", "more"]
theorem scHas : FnScope nHas ["names", "systems", "left", "right", "worth"] (defScope sLHas) := ⟨rfl, rfl, rfl, by decide +kernel, rfl, by decide +kernel, by decide +kernel⟩
theorem ok_has {f fT : Addr} {fd fdT : FuncData} (F : Fun K "_law_has" "_law_has" sLHas f fd)
    (GT : FnOk P w K mg base CX0 1 fT fdT ["names", "system"] spLTable) (kT : PySem.W.keepIn K (.ref fT) = true) (bT : Binds K fdT ["names", "system"] []) (gT : mg "_law_table" = some (.ref fT)) :
    FnOk P w K mg base CX0 2 f fd ["names", "systems", "left", "right", "worth"] spHas := by
  refine F.ok scHas (fun vs H Q E h => ?_) (fun cdv A outer s H vs Q E hr h => ?_)
  · obtain ⟨np, L, ns, Ss, l, r, x, rfl, _⟩ := h
    rfl
  · obtain ⟨np, L, ns, Ss, l, r, x, rfl, hN, N, hl, hrt, ⟨ls, h1, h2, h3⟩, ok, q⟩ := h
    have nd := scHas.nd
    refine ⟨_, pss_cons (ps_for PassesOwn.never rfl (pi_list (pv 1)) (pg_name (i := 5) nd rfl (.inl rfl))
        (pss_cons (ps_set (i := 6) nd rfl (.inl rfl) (pe_ifExp (pt_cmpR op_ne (pv 2) (pv 3) (nomark _)) (pe_lst (pa_cons (pe_tup (pa_cons (pv 2) (pa_cons (pv 3) (pa_cons (pv 4) pa_nil)))) (pa_cons (pe_tup (pa_cons (pv 3) (pa_cons (pv 2) (pa_cons (pe_op op_sub pe_int (pv 4)) pa_nil)))) pa_nil))) (pe_lst pa_nil)))
        (pss_one (ps_if (PW.pt (pw_and (PW.pt (pw_or (pt_cmpR op_ne (pv 2) (pv 3) (nomark _)) (pw_or1 (pt_cmpR op_eq (pv 4) pe_int (nomark _))))) (pw_and1 (pt_cmpR op_notN (pe_call GT hr (by rfl) gT kT bT .nil pass0 (pa_cons (pv 0) (pa_cons (pe_op op_cat (pv 5) (pv 6)) pa_nil))) pe_non (nomark _))))) (pss_one (ps_ret pe_bl)) pss_nil))))
      (pss_one (ps_ret pe_bl)), ?_⟩
    have sz2 : 2 ≤ sizeLine := by decide
    have sz3 : 3 ≤ sizeLine := by decide
    have n20 : ns.length ≤ 20 := by
      have := N.few
      omega
    refine ⟨.ref L, rfl, L, rfl, ⟨_, SqL.of h1⟩, for_list (K := K) (a := L) (xs := ls.map V.ref) (fun i σ H' => ∃ (y5 y6 : Option V), σ = [some (.ref np), some (.ref L), some (.str l), some (.str r), some (.int x), y5, y6] ∧ Same H H' ∧ ∀ (j : Nat) (R : List SRow), j < i → Ss[j]? = some R → ¬ hasV R l r x)
      ⟨none, none, rfl, Same.refl _, fun j R h => absurd h (Nat.not_lt_zero _)⟩ (fun i σ H' _ ⟨_, _, _, sm, _⟩ => SqL.of (sm _ _ h1)) ?_ ?_⟩
    · rintro i v σ H1 hi ⟨y5, y6, rfl, s1, prev⟩
      obtain ⟨a, rfl, ha, hit⟩ := pick_ref hi
      obtain ⟨R, hR⟩ : ∃ R, Ss[i]? = some R := ⟨_, List.getElem?_eq_getElem (by omega)⟩
      have hmR := List.mem_of_getElem? hR
      have okR := ok R hmR
      obtain ⟨ps, g1, g2, g3⟩ := (h3 i a R ha hR).sameT s1
      have lenR := okR.2
      have no : ¬ hasV R l r x → ∀ (y6 : Option V) (He : Hp), Same H He → ∃ (y5' y6' : Option V), [some (V.ref np), some (.ref L), some (.str l), some (.str r), some (.int x), some (.ref a), y6] = [some (V.ref np), some (.ref L), some (.str l), some (.str r), some (.int x), y5', y6'] ∧ Same H He ∧ ∀ (j : Nat) (R : List SRow), j < i + 1 → Ss[j]? = some R → ¬ hasV R l r x := fun hn y6 He se =>
        ⟨_, _, rfl, se, fun j R' hj hR' => by
          by_cases e : j = i
          · subst e
            rw [hR] at hR'
            exact Option.some.inj hR' ▸ hn
          · exact prev j R' (by omega) hR'⟩
      by_cases lr : l = r
      · refine ⟨.str l, rfl, .str r, rfl, rfl, _, rfl, ?_⟩
        rw [decide_eq_true (by rw [lr])]
        refine iteF ⟨Nat.zero_le _, fun m nm => ?_⟩
        have sM := same_upd (o := HO.lst []) nm
        refine ⟨.str l, rfl, .str r, rfl, rfl, _, rfl, ?_⟩
        rw [decide_eq_true (by rw [lr])]
        refine iteF ?_
        refine ⟨.int x, rfl, rfl, _, rfl, ite2 (fun c => ?_) (fun c => ?_)⟩
        · have x0 : x = 0 := V.int.inj (of_decide_eq_true c)
          refine ⟨.ref np, rfl, .ref a, rfl, .ref m, rfl, a, m, _, _, rfl, rfl, sM _ _ g1, upd_same, ?_, fun p np' => ?_⟩
          · rw [List.length_map, g2]
            exact Nat.le_of_lt (small1000 (by show R.length + 0 ≤ 1000; omega))
          have sP := same_upd (o := HO.lst (ps.map V.ref ++ [])) np'
          have s12 := (s1.trans sM).trans sP
          refine ⟨np, p, ns, R, rfl, s12 _ _ hN, ⟨ps, by rw [upd_same, List.append_nil], g2, fun i q r a b => (g3 i q r a b).same (sM.trans sP)⟩, okR.good (by omega), N.nd0, n20, okR.named, fun H4 y s4 hy => ⟨rfl, _, rfl, ?_⟩⟩
          rcases hy with ⟨rfl, hno⟩ | ⟨d, ps', f', rfl, _, hv, _⟩
          · exact iteF (no (fun ⟨u, hu, _⟩ => hno u hu) _ _ (s12.trans s4))
          · refine iteT (q H4 true (s12.trans s4) ⟨fun _ => ⟨R, hmR, ?_⟩, fun _ => rfl⟩)
            obtain ⟨u, hu⟩ := hv
            exact ⟨u, hu, by rw [lr, x0]; omega⟩
        · have x0 : x ≠ 0 := fun e => c (decide_eq_true (by rw [e]))
          exact iteF (no (fun ⟨u, _, e⟩ => x0 (by rw [lr] at e; omega)) _ _ (s1.trans sM))
      · refine ⟨.str l, rfl, .str r, rfl, rfl, _, rfl, ?_⟩
        rw [decide_eq_false (fun h => lr (V.str.inj h))]
        refine iteT ?_
        refine ⟨.str l, rfl, .str r, rfl, .int x, rfl, sz3, fun p1 np1 => ⟨.str r, rfl, .str l, rfl, .int x, rfl, _, _, rfl, rfl, sz3, fun p2 np2 => ⟨sz2, fun m nm => ?_⟩⟩⟩
        have sA := same_upd (o := HO.tup [V.str l, V.str r, V.int x]) np1
        have sB := same_upd (o := HO.tup [V.str r, V.str l, V.int (0 - x)]) np2
        have sM := same_upd (o := HO.lst [V.ref p1, V.ref p2]) nm
        have sAM := (sA.trans sB).trans sM
        refine ⟨.str l, rfl, .str r, rfl, rfl, _, rfl, ?_⟩
        rw [decide_eq_false (fun h => lr (V.str.inj h))]
        refine iteT (iteT ?_)
        refine ⟨.ref np, rfl, .ref a, rfl, .ref m, rfl, a, m, _, _, rfl, rfl, sAM _ _ g1, upd_same, ?_, fun p np' => ?_⟩
        · rw [List.length_map, g2]
          exact Nat.le_of_lt (small1000 (by show R.length + 2 ≤ 1000; omega))
        have sP := same_upd (o := HO.lst (ps.map V.ref ++ [V.ref p1, V.ref p2])) np'
        have sAP := sAM.trans sP
        have s12 := s1.trans sAP
        have e1 : RowT (upd (upd (upd (upd H1 p1 (.tup [V.str l, V.str r, V.int x])) p2 (.tup [V.str r, V.str l, V.int (0 - x)])) m (.lst [V.ref p1, V.ref p2])) p (.lst (ps.map V.ref ++ [V.ref p1, V.ref p2]))) p1 (l, r, x) := ((sB.trans sM).trans sP) _ _ upd_same
        have e2 : RowT (upd (upd (upd (upd H1 p1 (.tup [V.str l, V.str r, V.int x])) p2 (.tup [V.str r, V.str l, V.int (0 - x)])) m (.lst [V.ref p1, V.ref p2])) p (.lst (ps.map V.ref ++ [V.ref p1, V.ref p2]))) p2 (r, l, -x) := by
          have := (sM.trans sP) _ _ (upd_same (H := upd H1 p1 (.tup [V.str l, V.str r, V.int x])) (a := p2) (o := HO.tup [V.str r, V.str l, V.int (0 - x)]))
          have ez : (0 : Int) - x = -x := by omega
          rw [ez] at this
          exact ez ▸ this
        have hsys := Sys.cat2 (p := p) g2 (fun k q r a b => (g3 k q r a b).same sAP) e1 e2 upd_same
        have ok2 := okR.two N hl hrt lr x
        refine ⟨np, p, ns, _, rfl, s12 _ _ hN, hsys, ok2.good (by omega), N.nd0, n20, ok2.named, fun H4 y s4 hy => ⟨rfl, _, rfl, ?_⟩⟩
        rcases hy with ⟨rfl, hno⟩ | ⟨d, ps', f', rfl, _, hv, _⟩
        · exact iteF (no (fun h => by
            obtain ⟨u, hu⟩ := has_two.mpr h
            exact hno u hu) _ _ (s12.trans s4))
        · exact iteT (q H4 true (s12.trans s4) ⟨fun _ => ⟨R, hmR, has_two.mp hv⟩, fun _ => rfl⟩)
    · rintro σ H1 ⟨y5, y6, rfl, s1, prev⟩
      rw [List.length_map, h2] at prev
      refine q H1 false s1 ⟨(fun z => nomatch z), fun ⟨R, hR, hs⟩ => ?_⟩
      obtain ⟨j, hj, e⟩ := List.getElem_of_mem hR
      exact absurd hs (prev j R hj (by rw [List.getElem?_eq_getElem hj, e]))
end
end Lo
namespace Lo
open PySem PySem.Spec L2 PyProof.Rows
/-- l == [], whatever stands in l -/
def rEqNil (K : PySem.W.Frag) : R2 := fun x y H Q => ∃ a b xs, x = .ref a ∧ y = .ref b ∧ SqL K H a xs ∧ SqL K H b [] ∧ Q (.bl xs.isEmpty) H
theorem op_eqNil {X : Cx} (hu : X.A.units < cLine) : OpR X (compareOp .Eq) (rEqNil X.K) := by
  intro pins s σ H x y v u Q I rx ry h
  obtain ⟨a, b, xs, rfl, rfl, hx, hy, q⟩ := h
  cases rx
  cases ry
  obtain ⟨its, r1, p1, _⟩ := I.list hx
  obtain ⟨its2, r2, p2, _⟩ := I.list hy
  cases r2
  cases xs with
  | nil =>
    cases r1
    refine SeqAt.eq_listAt (e := fun _ => true) p1.isList p2.isList rfl hu ?_ ?_
    · intro i
      simp
    · exact ⟨.bl true, H, I, rfl, q⟩
  | cons x xs =>
    cases r1 with
    | cons rx rt =>
      exact SeqAt.eq_list_lengthsAt p1.isList p2.isList (by simp) hu ⟨.bl false, H, I, rfl, q⟩
end Lo
/-! Ends of stretches, and the one stretch that a smaller one lies in. -/
namespace Lo
theorem pair_or : ∀ {L : List Iv}, L.Pairwise apartI → ∀ p ∈ L, ∀ q ∈ L, p = q ∨ apartI p q ∨ apartI q p
  | [], _, p, hp, _, _ => absurd hp List.not_mem_nil
  | a :: L, h, p, hp, q, hq => by
    obtain ⟨h1, h2⟩ := List.pairwise_cons.mp h
    rcases List.mem_cons.mp hp with e | e
    · rcases List.mem_cons.mp hq with f | f
      · exact .inl (e.trans f.symm)
      · exact .inr (.inl (e ▸ h1 q f))
    · rcases List.mem_cons.mp hq with f | f
      · exact .inr (.inr (f ▸ h1 p e))
      · exact pair_or h2 p e q f
/-- what is next to a number of a stretch, and in the whole, is in the same stretch -/
theorem edge {L : List Iv} (h : CanonA L) {p : Iv} (hp : p ∈ L) {a x : Int} (ha : inI p a) (hx : inU L x) (h1 : x ≤ a + 1) (h2 : a ≤ x + 1) : inI p x := by
  obtain ⟨q, hq, hqx⟩ := hx
  rcases pair_or h.2 p hp q hq with e | e | e
  · exact e ▸ hqx
  · have := apart_lt e ha hqx
    omega
  · have := apart_lt e hqx ha
    omega
theorem edge_lo {L : List Iv} (h : CanonA L) {p : Iv} (hp : p ∈ L) {a : Int} (e : p.1 = some a) : inU L a ∧ ¬ inU L (a - 1) := by
  have ia := inI_lo (h.1 p hp) e
  refine ⟨⟨p, hp, ia⟩, fun hx => ?_⟩
  have := (edge h hp ia hx (by omega) (by omega)).1 a e
  omega
theorem edge_hi {L : List Iv} (h : CanonA L) {p : Iv} (hp : p ∈ L) {b : Int} (e : p.2 = some b) : inU L b ∧ ¬ inU L (b + 1) := by
  have ib := inI_hi (h.1 p hp) e
  refine ⟨⟨p, hp, ib⟩, fun hx => ?_⟩
  have := (edge h hp ib hx (by omega) (by omega)).2 b e
  omega
theorem canon_nodup {L : List Iv} (h : CanonA L) : L.Nodup := by
  refine List.Pairwise.imp_of_mem (fun {p q} hp hq k e => ?_) h.2
  subst e
  obtain ⟨x, hx⟩ := okI_some (h.1 p hp)
  have := apart_lt k hx hx
  omega
/-- does the row hold the low end -/
def holdsB (low : Option Int) (q : Iv) : Bool := match low with
  | none => q.1.isNone
  | some a => (match q.1 with | none => true | some k => decide (k ≤ a)) && (match q.2 with | none => true | some k => decide (a ≤ k))
theorem holds_some {a : Int} {q : Iv} : holdsB (some a) q = true ↔ inI q a := by
  obtain ⟨x, y⟩ := q
  unfold holdsB inI
  cases x <;> cases y <;> simp
theorem holds_none {q : Iv} : holdsB none q = true ↔ q.1 = none := by
  obtain ⟨x, y⟩ := q
  cases x <;> simp [holdsB]
theorem filter_one_of {α : Type} [DecidableEq α] {c : α → Bool} {p : α} : ∀ {L : List α}, L.Nodup → p ∈ L → c p = true → (∀ q ∈ L, c q = true → q = p) → L.filter c = [p]
  | [], _, hp, _, _ => absurd hp List.not_mem_nil
  | a :: L, nd, hp, hc, hu => by
    obtain ⟨n1, n2⟩ := List.nodup_cons.mp nd
    rcases List.mem_cons.mp hp with e | e
    · subst e
      rw [List.filter_cons, if_pos hc]
      congr 1
      refine List.filter_eq_nil_iff.mpr fun q hq h => n1 ?_
      exact hu q (List.mem_cons_of_mem _ hq) h ▸ hq
    · have ca : ¬ c a = true := fun h => n1 (hu a List.mem_cons_self h ▸ e)
      rw [List.filter_cons, if_neg ca]
      exact filter_one_of n2 e hc fun q hq h => hu q (List.mem_cons_of_mem _ hq) h
/-- a stretch whose numbers are all in the whole lies in one stretch of it -/
theorem lies_one {L : List Iv} (h : CanonA L) {v : Iv} (hv : okI v) (hin : ∀ x, inI v x → inU L x) :
    ∃ p ∈ L, L.filter (holdsB v.1) = [p] ∧ (v.2 = none → p.2 = none) ∧ ∀ b k, v.2 = some b → p.2 = some k → b ≤ k := by
  have nd := canon_nodup h
  -- the high end, once a number of v in p is known
  have high : ∀ (p : Iv), p ∈ L → ∀ x, inI v x → inI p x → (v.2 = none → p.2 = none) ∧ ∀ b k, v.2 = some b → p.2 = some k → b ≤ k := fun p hp x hx hpx => by
    constructor
    · intro e
      cases f : p.2 with
      | none => rfl
      | some k =>
        exfalso
        have hk := edge_hi h hp f
        refine hk.2 (hin _ ⟨fun a ea => ?_, fun b eb => by rw [e] at eb; cases eb⟩)
        have h1 := hx.1 a ea
        have h2 := hpx.2 k f
        omega
    · intro b k e f
      by_cases l : b ≤ k
      · exact l
      · exfalso
        have hk := edge_hi h hp f
        refine hk.2 (hin _ ⟨fun a ea => ?_, fun b' eb => by rw [e] at eb; injection eb with eb; omega⟩)
        have h1 := hx.1 a ea
        have h2 := hpx.2 k f
        omega
  cases e : v.1 with
  | some a =>
    have ha : inI v a := inI_lo hv e
    obtain ⟨p, hp, hpa⟩ := hin a ha
    refine ⟨p, hp, ?_, high p hp a ha hpa⟩
    refine filter_one_of nd hp (holds_some.mpr hpa) fun q hq hc => ?_
    have hqa := holds_some.mp hc
    rcases pair_or h.2 p hp q hq with z | z | z
    · exact z.symm
    · have := apart_lt z hpa hqa
      omega
    · have := apart_lt z hqa hpa
      omega
  | none =>
    obtain ⟨x, hx⟩ := okI_some hv
    obtain ⟨p, hp, hpx⟩ := hin x hx
    have p1 : p.1 = none := by
      cases f : p.1 with
      | none => rfl
      | some a =>
        exfalso
        have hk := edge_lo h hp f
        refine hk.2 (hin _ ⟨fun a' ea => (by rw [e] at ea; cases ea), fun b eb => ?_⟩)
        have h1 := hx.2 b eb
        have h2 := hpx.1 a f
        omega
    refine ⟨p, hp, ?_, high p hp x hx hpx⟩
    refine filter_one_of nd hp (holds_none.mpr p1) fun q hq hc => ?_
    have q1 := holds_none.mp hc
    rcases pair_or h.2 p hp q hq with z | z | z
    · exact z.symm
    · obtain ⟨_, k, _, e2, _⟩ := z
      rw [q1] at e2
      cases e2
    · obtain ⟨_, k, _, e2, _⟩ := z
      rw [p1] at e2
      cases e2
end Lo
namespace Lo
open PySem L2
abbrev sLRight : Stmt := top 65
section
variable {P : Program} {w : World} {K : PySem.W.Frag} {mg : Str → Option Value} {base : Heap}
abbrev nRight : List Str := ["names", "systems", "left", "right", "found", "tables", "table", "ends", "at", "row", "low", "high", "end", "step", "worth", "due", "rows", "system"]
theorem scRight : FnScope nRight ["names", "systems", "left", "right", "found"] (defScope sLRight) := ⟨rfl, rfl, rfl, by decide +kernel, rfl, by decide +kernel, by decide +kernel⟩
def TbV (ns : List Str) (H : Hp) (R : List SRow) (d : Addr) : Prop := ∃ (ps : List (Str × Str)) (f : Str × Str → Int), TbAt H d (("0" : Str) :: ns) ps f ∧ ∀ a ∈ (("0" : Str) :: ns), ∀ b ∈ (("0" : Str) :: ns), D R a b = tbF ps f a b
theorem TbV.same {ns : List Str} {H H' : Hp} {R : List SRow} {d : Addr} (s : Same H H') (h : TbV ns H R d) : TbV ns H' R d := by
  obtain ⟨ps, f, a, b⟩ := h
  exact ⟨ps, f, a.same s, b⟩
theorem TbV.off {ns : List Str} {H : Hp} {R : List SRow} {d c : Addr} {xs ys : List V} (hc : H c = some (.lst xs)) (h : TbV ns H R d) : TbV ns (upd H c (.lst ys)) R d := by
  obtain ⟨ps, f, a, b⟩ := h
  refine ⟨ps, f, ⟨?_, a.nd, a.sub⟩, b⟩
  show upd H c _ d = _
  rw [upd_ne (ne_of a.at_ hc (by intro z; cases z))]
  exact a.at_
def TbsV (ns : List Str) (H : Hp) (t : Addr) (Rz : List (List SRow)) : Prop := ∃ ds : List Addr, H t = some (.lst (ds.map V.ref)) ∧ ds.length = Rz.length ∧ ∀ (i : Nat) (d : Addr) (R : List SRow), ds[i]? = some d → Rz[i]? = some R → TbV ns H R d
theorem TbsV.same {ns : List Str} {H H' : Hp} {t : Addr} {Rz : List (List SRow)} (s : Same H H') (h : TbsV ns H t Rz) : TbsV ns H' t Rz := by
  obtain ⟨ds, a, b, c⟩ := h
  exact ⟨ds, s _ _ a, b, fun i d R e f => (c i d R e f).same s⟩
theorem seq_if_no {t : TT} {a c : TS} {D : L2.Ends} {σ : St} {H : Hp} (h : ∀ Q : Bool → Hp → Prop, Q false H → t σ H Q) (k : c D σ H) : tSeq (tIfS t a tNext) c D σ H := h _ (iteF k)
theorem if_no {t : TT} {a : TS} {D : L2.Ends} {σ : St} {H : Hp} (h : ∀ Q : Bool → Hp → Prop, Q false H → t σ H Q) (k : D.nx σ H) : tIfS t a tNext D σ H := h _ (iteF k)
theorem seq_asg {t : TE} {g : TG} {c : TS} {D : L2.Ends} {σ : St} {H : Hp} (h : t σ H (fun x H1 => g x σ H1 fun σ2 H2 => c D σ2 H2)) : tSeq (tAsg t g) c D σ H := h
theorem lim_E {a b c : Nat} {σ : St} {H : Hp} {Q : VK} {ns : List Str} {d : Addr} {R : List SRow} {u v : Str} (ha : σ[a]? = some (some (.str u))) (hb : σ[b]? = some (some (.str v))) (hc : σ[c]? = some (some (.ref d))) (hT : TbV ns H R d)
    (hu : SideR ns u) (hv : SideR ns v) (q : ∀ H', Same H H' → Q (oV (D R u v)) H') :
    tIf (tB (tDIn (tTup (tCons (tVar a) (tCons (tVar b) tNil))) (tVar c))) (tDGet (tVar c) (tTup (tCons (tVar a) (tCons (tVar b) tNil)))) (tC .non) σ H Q := by
  obtain ⟨ps, f, T, e⟩ := hT
  have sz2 : 2 ≤ sizeLine := by decide
  have hD := e u hu v hv
  refine ⟨_, ha, _, hb, sz2, fun tp ntp => ?_⟩
  have sT := same_upd (o := HO.tup [V.str u, V.str v]) ntp
  have T1 := T.same sT
  by_cases m : (u, v) ∈ ps
  · rw [tbF_in m] at hD
    refine ⟨_, hc, d, _, rfl, T1.get (p := (u, v)) upd_same m, _, rfl, iteT ?_⟩
    refine ⟨_, hc, _, ha, _, hb, sz2, fun tq ntq => ?_⟩
    have sQ := same_upd (o := HO.tup [V.str u, V.str v]) ntq
    refine ⟨d, _, rfl, (T1.same sQ).get (p := (u, v)) upd_same m, ?_⟩
    rw [hD] at q
    exact q _ (sT.trans sQ)
  · rw [tbF_out m] at hD
    refine ⟨_, hc, d, _, rfl, T1.get0 (p := (u, v)) upd_same m, _, rfl, iteF ?_⟩
    rw [hD] at q
    exact q _ sT
theorem lim_E0 {a b c : Nat} {σ : St} {H : Hp} {Q : VK} {ns : List Str} {d : Addr} {R : List SRow} {u v : Str} (ha : σ[a]? = some (some (.str u))) (hb : σ[b]? = some (some (.str v))) (hc : σ[c]? = some (some (.ref d))) (hT : TbV ns H R d)
    (hu : SideR ns u) (hv : SideR ns v) (q : ∀ H', Same H H' → Q (oV ((D R u v).map fun k => -k)) H') :
    tIf (tB (tDIn (tTup (tCons (tVar a) (tCons (tVar b) tNil))) (tVar c))) (tOp (rI0 fun i j => V.int (i - j)) (tC (V.int 0)) (tDGet (tVar c) (tTup (tCons (tVar a) (tCons (tVar b) tNil))))) (tC .non) σ H Q := by
  obtain ⟨ps, f, T, e⟩ := hT
  have sz2 : 2 ≤ sizeLine := by decide
  have hD := e u hu v hv
  refine ⟨_, ha, _, hb, sz2, fun tp ntp => ?_⟩
  have sT := same_upd (o := HO.tup [V.str u, V.str v]) ntp
  have T1 := T.same sT
  by_cases m : (u, v) ∈ ps
  · rw [tbF_in m] at hD
    refine ⟨_, hc, d, _, rfl, T1.get (p := (u, v)) upd_same m, _, rfl, iteT ?_⟩
    refine ⟨_, hc, _, ha, _, hb, sz2, fun tq ntq => ?_⟩
    have sQ := same_upd (o := HO.tup [V.str u, V.str v]) ntq
    refine ⟨d, _, rfl, (T1.same sQ).get (p := (u, v)) upd_same m, _, _, rfl, rfl, ?_⟩
    rw [hD] at q
    have z := q _ (sT.trans sQ)
    show Q (V.int (0 - f (u, v))) _
    rw [show (0 : Int) - f (u, v) = -f (u, v) by omega]
    exact z
  · rw [tbF_out m] at hD
    refine ⟨_, hc, d, _, rfl, T1.get0 (p := (u, v)) upd_same m, _, rfl, iteF ?_⟩
    rw [hD] at q
    exact q _ sT
/-- ends that are told: a number, and whether it is in the whole -/
def EndsL (Ls : List Iv) (H : Hp) (e : Addr) (n : Nat) : Prop := ∃ ts : List Addr, H e = some (.lst (ts.map V.ref)) ∧ ts.length ≤ n ∧ ∀ t ∈ ts, ∃ (x : Int) (b : Bool), H t = some (.tup [.int x, .bl b]) ∧ (b = true ↔ inU Ls x)
theorem EndsL.same {Ls : List Iv} {H H' : Hp} {e : Addr} {n : Nat} (s : Same H H') (h : EndsL Ls H e n) : EndsL Ls H' e n := by
  obtain ⟨ts, a, b, c⟩ := h
  exact ⟨ts, s _ _ a, b, fun t ht => by
    obtain ⟨x, y, e1, e2⟩ := c t ht
    exact ⟨x, y, s _ _ e1, e2⟩⟩
theorem EndsL.mono {Ls : List Iv} {H : Hp} {e : Addr} {n m : Nat} (le : n ≤ m) (h : EndsL Ls H e n) : EndsL Ls H e m := by
  obtain ⟨ts, a, b, c⟩ := h
  exact ⟨ts, a, Nat.le_trans b le, c⟩
def spRight : Sp := fun vs H Q _ => ∃ (np L fo : Addr) (ns : List Str) (Ss : List (List SRow)) (l r : Str) (Ls : List Iv), vs = [.ref np, .ref L, .str l, .str r, .ref fo] ∧ H np = some (.tup (ns.map V.str)) ∧ NamesR ns ∧ SideR ns l ∧ SideR ns r ∧ Syss H L Ss ∧ (∀ R ∈ Ss, OkS ns 40 R) ∧ Ss.length ≤ 100 ∧
  StrL H fo Ls ∧ Ls.length ≤ 100 ∧ CanonA Ls ∧ (∀ x, inU Ls x ↔ ∃ R ∈ Ss, hasV R l r x) ∧ ∀ H', Same H H' → Q (.bl true) H'
theorem ok_right {f fT fH : Addr} {fd fdT fdH : FuncData} (F : Fun K "_law_right" "_law_right" sLRight f fd) (T : Blt mg)
    (GT : FnOk P w K mg base CX0 1 fT fdT ["names", "system"] spLTable) (kT : PySem.W.keepIn K (.ref fT) = true) (bT : Binds K fdT ["names", "system"] []) (gT : mg "_law_table" = some (.ref fT))
    (GH : FnOk P w K mg base CX0 2 fH fdH ["names", "systems", "left", "right", "worth"] spHas) (kH : PySem.W.keepIn K (.ref fH) = true) (bH : Binds K fdH ["names", "systems", "left", "right", "worth"] []) (gH : mg "_law_has" = some (.ref fH)) :
    FnOk P w K mg base CX0 3 f fd ["names", "systems", "left", "right", "found"] spRight := by
  refine F.ok scRight (fun vs H Q E h => ?_) (fun cdv A outer s H vs Q E hr h => ?_)
  · obtain ⟨np, L, fo, ns, Ss, l, r, Ls, rfl, _⟩ := h
    rfl
  · obtain ⟨np, L, fo, ns, Ss, l, r, Ls, rfl, hN, N, hl, hrt, hL, ok, few, hF, fewL, can, told, q⟩ := h
    have nd := scRight.nd
    have r1 := hr.mono (show 1 ≤ 2 by decide)
    have hu := hu_of hr
    refine ⟨_, pss_cons (ps_if (pt_not (pt_val (pe_callB call_isi (by rfl) T.isi PyProof.Rows.boot_isinstance (pa_cons (pv 4) (pa_cons (pe_bltn (v := .ty "list") (by rfl) T.list PyProof.Rows.boot_list rfl) pa_nil))))) (pss_one (ps_ret pe_bl)) pss_nil)
      (C8.pss_cut (ps_setLc (i := 5) (own := [("system", 17)]) (g := gName 17) (tt := tYes) rfl nd rfl rfl (sw_true rfl rfl rfl (by decide +kernel)) (pi_list (pv 1)) (blkOk_by (N := nRight) (sc := defScope sLRight) (by decide +kernel))
          (fun _ _ _ _ _ => pg_name (i := 17) nd rfl (.inl rfl)) (fun _ _ _ _ _ => pts_nil) (fun _ _ _ _ _ => pe_call GT r1 (by rfl) gT kT bT .nil pass0 (pa_cons (pv 0) (pa_cons (pv 17) pa_nil))))
      (C8.pss_cut (ps_setLc (i := 5) (own := [("table", 6)]) (g := gName 6) rfl nd rfl rfl (sw_true rfl rfl rfl (by decide +kernel)) (pi_list (pv 5)) (blkOk_by (N := nRight) (sc := defScope sLRight) (by decide +kernel))
          (fun _ _ _ _ _ => pg_name (i := 6) nd rfl (.inl rfl)) (fun _ _ _ _ _ => pts_one (pt_cmpR op_notN (pv 6) pe_non (nomark _))) (fun _ _ _ _ _ => pv 6))
      (pss_cons (ps_set (i := 7) nd rfl (.inl rfl) (pe_lst pa_nil))
      (pss_cons (ps_for PassesOwn.never rfl (pi_enum (by rfl) T.enum (pa_cons (pv 4) pa_nil)) (pg_tup rfl (pgs_cons (pg_name (i := 8) nd rfl (.inl rfl)) (pgs_cons (pg_name (i := 9) nd rfl (.inl rfl)) pgs_nil)))
        (pss_cons (ps_if (PW.pt (pw_or (pt_not (pt_val (pe_callB call_isi (by rfl) T.isi PyProof.Rows.boot_isinstance (pa_cons (pv 9) (pa_cons (pe_bltn (v := .ty "tuple") (by rfl) T.tuple PyProof.Rows.boot_tuple rfl) pa_nil)))))
            (pw_or1 (pt_cmpR op_ne (pe_callB call_len_seq (by rfl) T.len PySem.boot_len (pa_cons (pv 9) pa_nil)) pe_int (nomark _))))) (pss_one (ps_ret pe_bl)) pss_nil)
        (pss_cons (ps_asg (pv 9) (pg_tup rfl (pgs_cons (pg_name (i := 10) nd rfl (.inr rfl)) (pgs_cons (pg_name (i := 11) nd rfl (.inl rfl)) pgs_nil))))
        (pss_cons (ps_if (PW.pt (pw_or (PW.pt (pw_and (pt_cmpR op_isN (pv 10) pe_non (nomark _)) (pw_and1 (pt_cmpR op_gt (pv 8) pe_int (nomark _)))))
            (pw_or1 (PW.pt (pw_and (pt_cmpR op_isN (pv 11) pe_non (nomark _)) (pw_and1 (pt_cmpR op_lt (pv 8) (pe_op op_sub (pe_callB call_len_seq (by rfl) T.len PySem.boot_len (pa_cons (pv 4) pa_nil)) pe_int) (nomark _)))))))) (pss_one (ps_ret pe_bl)) pss_nil)
        (pss_cons (ps_if (PW.pt (pw_and (pt_cmpR op_notN (pv 10) pe_non (nomark _)) (pw_and (pt_cmpR op_notN (pv 11) pe_non (nomark _)) (pw_and1 (pt_cmpR op_gt (pv 10) (pv 11) (nomark _)))))) (pss_one (ps_ret pe_bl)) pss_nil)
        (pss_cons (ps_if (PW.pt (pw_and (pt_cmpR op_gt (pv 8) pe_int (nomark _)) (pw_and1 (PW.pt (pw_or (pt_cmpR op_isN (pv 10) pe_non (nomark _)) (pw_or (pt_cmpR op_isN (pe_ix ix_tup (pe_ix ix_list (pv 4) (pe_op op_sub (pv 8) pe_int) (fun _ _ => rfl)) pe_int (fun _ _ => rfl)) pe_non (nomark _))
            (pw_or1 (pt_cmpR op_lt (pv 10) (pe_op op_add (pe_ix ix_tup (pe_ix ix_list (pv 4) (pe_op op_sub (pv 8) pe_int) (fun _ _ => rfl)) pe_int (fun _ _ => rfl)) pe_int) (nomark _))))))))) (pss_one (ps_ret pe_bl)) pss_nil)
        (pss_one (ps_for PassesOwn.never rfl (pi_tup (pe_tup (pa_cons (pe_tup (pa_cons (pv 10) (pa_cons (pe_un un_neg pe_int) pa_nil))) (pa_cons (pe_tup (pa_cons (pv 11) (pa_cons pe_int pa_nil))) pa_nil)))) (pg_tup rfl (pgs_cons (pg_name (i := 12) nd rfl (.inl rfl)) (pgs_cons (pg_name (i := 13) nd rfl (.inl rfl)) pgs_nil)))
          (pss_one (ps_if (pt_cmpR op_notN (pv 12) pe_non (nomark _))
            (pss_one (ps_set (i := 7) nd rfl (.inl rfl) (pe_op op_cat (pv 7) (pe_lst (pa_cons (pe_tup (pa_cons (pv 12) (pa_cons pe_bl pa_nil))) (pa_cons (pe_tup (pa_cons (pe_op op_add (pv 12) (pv 13)) (pa_cons pe_bl pa_nil))) pa_nil)))))) pss_nil))))))))))
      (pss_cons (ps_for PassesOwn.never rfl (pi_list (pv 7)) (pg_tup rfl (pgs_cons (pg_name (i := 14) nd rfl (.inl rfl)) (pgs_cons (pg_name (i := 15) nd rfl (.inl rfl)) pgs_nil)))
        (pss_one (ps_if (pt_cmpR op_ne (pe_call GH hr (by rfl) gH kH bH .nil pass0 (pa_cons (pv 0) (pa_cons (pv 1) (pa_cons (pv 2) (pa_cons (pv 3) (pa_cons (pv 14) pa_nil)))))) (pv 15) (nomark _)) (pss_one (ps_ret pe_bl)) pss_nil)))
      (pss_cons (ps_for PassesOwn.never rfl (pi_list (pv 5)) (pg_name (i := 6) nd rfl (.inl rfl))
        (pss_cons (ps_set (i := 11) nd rfl (.inl rfl) (pe_ifExp (pt_cmp (pc_din hu (pe_tup (pa_cons (pv 2) (pa_cons (pv 3) pa_nil))) (pv 6))) (pe_dget hu (pv 6) (pe_tup (pa_cons (pv 2) (pa_cons (pv 3) pa_nil))) (fun _ _ => rfl)) pe_non))
        (pss_cons (ps_set (i := 10) nd rfl (.inr rfl) (pe_ifExp (pt_cmp (pc_din hu (pe_tup (pa_cons (pv 3) (pa_cons (pv 2) pa_nil))) (pv 6))) (pe_op op_sub pe_int (pe_dget hu (pv 6) (pe_tup (pa_cons (pv 3) (pa_cons (pv 2) pa_nil))) (fun _ _ => rfl))) pe_non))
        (C8.pss_cut (ps_setLc (i := 16) (own := [("row", 9)]) (g := gName 9) rfl nd rfl rfl (sw_true rfl rfl rfl (by decide +kernel)) (pi_list (pv 4)) (blkOk_by (N := nRight) (sc := defScope sLRight) (by decide +kernel))
            (fun _ _ _ _ _ => pg_name (i := 9) nd rfl (.inl rfl))
            (fun _ _ _ _ _ => pts_one (PW.pt (pw_or (PW.pt (pw_and (pt_cmpR op_isN (pv 10) pe_non (nomark _)) (pw_and1 (pt_cmpR op_isN (pe_ix (show IxR _ (rIxT K) from ix_tup) (pv 9) pe_int (fun _ _ => rfl)) pe_non (nomark _)))))
              (pw_or1 (PW.pt (pw_and (pt_cmpR op_notN (pv 10) pe_non (nomark _)) (pw_and (PW.pt (pw_or (pt_cmpR op_isN (pe_ix (show IxR _ (rIxT K) from ix_tup) (pv 9) pe_int (fun _ _ => rfl)) pe_non (nomark _)) (pw_or1 (pt_cmpR op_le (pe_ix (show IxR _ (rIxT K) from ix_tup) (pv 9) pe_int (fun _ _ => rfl)) (pv 10) (nomark _)))))
                (pw_and1 (PW.pt (pw_or (pt_cmpR op_isN (pe_ix (show IxR _ (rIxT K) from ix_tup) (pv 9) pe_int (fun _ _ => rfl)) pe_non (nomark _)) (pw_or1 (pt_cmpR op_le (pv 10) (pe_ix (show IxR _ (rIxT K) from ix_tup) (pv 9) pe_int (fun _ _ => rfl)) (nomark _)))))))))))))
            (fun _ _ _ _ _ => pv 9))
        (pss_cons (ps_if (PW.pt (pw_or (pt_cmpR op_ne (pe_callB call_len_seq (by rfl) T.len PySem.boot_len (pa_cons (pv 16) pa_nil)) pe_int (nomark _)) (pw_or1 (PW.pt (pw_and (pt_cmpR op_isN (pv 11) pe_non (nomark _)) (pw_and1 (pt_cmpR op_notN (pe_ix ix_tup (pe_ix ix_list (pv 16) pe_int (fun _ _ => rfl)) pe_int (fun _ _ => rfl)) pe_non (nomark _)))))))) (pss_one (ps_ret pe_bl)) pss_nil)
        (pss_one (ps_if (PW.pt (pw_and (pt_cmpR op_notN (pv 11) pe_non (nomark _)) (pw_and (pt_cmpR op_notN (pe_ix ix_tup (pe_ix ix_list (pv 16) pe_int (fun _ _ => rfl)) pe_int (fun _ _ => rfl)) pe_non (nomark _)) (pw_and1 (pt_cmpR op_lt (pe_ix ix_tup (pe_ix ix_list (pv 16) pe_int (fun _ _ => rfl)) pe_int (fun _ _ => rfl)) (pv 11) (nomark _)))))) (pss_one (ps_ret pe_bl)) pss_nil)))))))
      (pss_one (ps_ret (pe_cmpR op_eq (pe_cmpR (op_eqNil (Nat.lt_of_succ_lt hu)) (pv 4) (pe_lst pa_nil) (nomark _)) (pe_cmpR (op_eqNil (Nat.lt_of_succ_lt hu)) (pv 5) (pe_lst pa_nil) (nomark _)) (nomark _)))))))))), ?_⟩
    have n20 : ns.length ≤ 20 := by
      have := N.few
      omega
    have sz2 : 2 ≤ sizeLine := by decide
    obtain ⟨ls0, hL0, hll0, hat0⟩ := id hL
    obtain ⟨ts, hf1, hf2, hf3⟩ := id hF
    refine ⟨_, rfl, _, _, _, _, true, rfl, .ty _, .base (.lst hf1), kit_ty (by decide +kernel), true, rfl, iteF ?_⟩
    -- a table of each system, or None
    refine ⟨fun σ' H' => ∃ (c : Addr) (ys : List V), σ' = [some (.ref np), some (.ref L), some (.str l), some (.str r), some (.ref fo), some (.ref c), none, none, none, none, none, none, none, none, none, none, none, none] ∧ Same H H' ∧ H' c = some (.lst ys) ∧ ys.length = Ss.length ∧
        ∀ (i : Nat) (y : V) (R : List SRow), ys[i]? = some y → Ss[i]? = some R → (y = .non ∧ satB R = false) ∨ ∃ d, y = .ref d ∧ satB R = true ∧ TbV ns H' R d, ?_, ?_⟩
    · refine ⟨.ref L, rfl, L, rfl, ⟨_, SqL.of hL0⟩, fun c nc => ?_⟩
      refine lc_list (K := K) (a := L) (xs := ls0.map V.ref) (fun j H' => Same H H' ∧ ∃ ys : List V, H' c = some (.lst ys) ∧ ys.length = j ∧
        ∀ (i : Nat) (y : V) (R : List SRow), ys[i]? = some y → Ss[i]? = some R → (y = .non ∧ satB R = false) ∨ ∃ d, y = .ref d ∧ satB R = true ∧ TbV ns H' R d) ⟨same_upd nc, [], upd_same, rfl, fun i y R e => nomatch e⟩ (fun j H' _ h => SqL.of (h.1 _ _ hL0)) ?_ ?_
      · rintro j v Hc hj ⟨sc, ys, hc, hyl, hyr⟩
        obtain ⟨a, rfl, ha, hlt⟩ := pick_ref hj
        obtain ⟨R, hR⟩ : ∃ R, Ss[j]? = some R := ⟨_, List.getElem?_eq_getElem (by omega)⟩
        have okR := ok R (List.mem_of_getElem? hR)
        refine ⟨rfl, ?_⟩
        unfold tYes
        refine iteT ?_
        refine ⟨.ref np, rfl, .ref a, rfl, np, a, ns, R, rfl, sc _ _ hN, (hat0 j a R ha hR).sameT sc, okR.good (by omega), N.nd0, n20, okR.named, fun H2 x s2 hx => ?_⟩
        have hc2 := s2 _ _ hc
        refine ⟨_, hc2, by rw [hyl]; exact small1000 (by omega), (sc.trans s2).later nc, ys ++ [x], upd_same, by rw [List.length_append, hyl]; rfl, fun i y R' hy hR' => ?_⟩
        by_cases k : i < j
        · rw [List.getElem?_append_left (by omega)] at hy
          rcases hyr i y R' hy hR' with z | ⟨d, z1, z2, z3⟩
          · exact .inl z
          · exact .inr ⟨d, z1, z2, (z3.same s2).off hc2⟩
        · have hi2 : i = j := by
            have := (List.getElem?_eq_some_iff.mp hy).1
            rw [List.length_append, List.length_singleton] at this
            omega
          subst hi2
          rw [List.getElem?_append_right (by omega), hyl, Nat.sub_self] at hy
          have e1 : x = y := Option.some.inj hy
          rw [hR] at hR'
          have e2 := Option.some.inj hR'
          subst e1 e2
          rcases hx with ⟨rfl, no⟩ | ⟨d, ps, f', rfl, hT, hv, hD⟩
          · exact .inl ⟨rfl, satB_not no⟩
          · exact .inr ⟨d, rfl, satB_iff.mpr hv, (show TbV ns H2 R d from ⟨ps, f', hT, hD⟩).off hc2⟩
      · rintro Hc ⟨sc, ys, hc, hyl, hyr⟩
        exact ⟨c, ys, rfl, sc, hc, by rw [hyl, List.length_map, hll0], hyr⟩
    rintro σ1 H1 ⟨t0, ys, rfl, s1, hY, hyl, hyr⟩
    -- those of the systems that have a solution
    refine ⟨fun σ' H' => ∃ c : Addr, σ' = [some (.ref np), some (.ref L), some (.str l), some (.str r), some (.ref fo), some (.ref c), none, none, none, none, none, none, none, none, none, none, none, none] ∧ Same H H' ∧ TbsV ns H' c (Ss.filter satB), ?_, ?_⟩
    · refine ⟨.ref t0, rfl, t0, rfl, ⟨_, SqL.of hY⟩, fun c nc => ?_⟩
      refine lc_list (K := K) (a := t0) (xs := ys) (fun j H' => Same H1 H' ∧ TbsV ns H' c ((Ss.take j).filter satB)) ⟨same_upd nc, [], upd_same, rfl, fun i y R e => nomatch e⟩ (fun j H' _ h => SqL.of (h.1 _ _ hY)) ?_ ?_
      · rintro j v Hc hj ⟨sc, ds, hc, hdl, hdr⟩
        have hjl := (List.getElem?_eq_some_iff.mp hj).1
        obtain ⟨R, hR⟩ : ∃ R, Ss[j]? = some R := ⟨_, List.getElem?_eq_getElem (by omega)⟩
        have etake : Ss.take (j + 1) = Ss.take j ++ [R] := by rw [List.take_add_one, hR]; rfl
        rcases hyr j v R hj hR with ⟨rfl, no⟩ | ⟨d, rfl, yes, hT⟩
        · refine ⟨rfl, _, rfl, rfl, _, rfl, iteF ⟨sc, ds, hc, ?_, fun i d' R' a b => ?_⟩⟩
          · rw [etake, List.filter_append, List.filter_cons, if_neg (by rw [no]; exact Bool.false_ne_true), List.filter_nil, List.append_nil]
            exact hdl
          · rw [etake, List.filter_append, List.filter_cons, if_neg (by rw [no]; exact Bool.false_ne_true), List.filter_nil, List.append_nil] at b
            exact hdr i d' R' a b
        · have ef : (Ss.take (j + 1)).filter satB = (Ss.take j).filter satB ++ [R] := by
            rw [etake, List.filter_append, List.filter_cons, if_pos yes, List.filter_nil]
          refine ⟨rfl, _, rfl, rfl, _, rfl, iteT ⟨_, rfl, _, hc, ?_, sc.later nc, ds ++ [d], by rw [upd_same, List.map_append]; rfl, by rw [ef, List.length_append, List.length_append, hdl]; rfl, fun i d' R' hd' hR' => ?_⟩⟩
          · rw [List.length_map, hdl]
            exact small1000 (Nat.le_trans (List.length_filter_le _ _) (by rw [List.length_take]; omega))
          · rw [ef] at hR'
            by_cases k : i < ds.length
            · rw [List.getElem?_append_left k] at hd'
              rw [List.getElem?_append_left (by omega)] at hR'
              exact (hdr i d' R' hd' hR').off hc
            · have hi2 : i = ds.length := by
                have := (List.getElem?_eq_some_iff.mp hd').1
                rw [List.length_append, List.length_singleton] at this
                omega
              subst hi2
              rw [List.getElem?_append_right (Nat.le_refl _), Nat.sub_self] at hd'
              rw [hdl, List.getElem?_append_right (Nat.le_refl _), Nat.sub_self] at hR'
              have e1 : d = d' := Option.some.inj hd'
              have e2 : R = R' := Option.some.inj hR'
              subst e1 e2
              exact (hT.same sc).off hc
      · rintro Hc ⟨sc, hc⟩
        rw [hyl, List.take_length] at hc
        exact ⟨c, rfl, s1.trans sc, hc⟩
    rintro σ2 H2 ⟨tc, rfl, s2, hT⟩
    have sat : ∀ R ∈ Ss.filter satB, R ∈ Ss ∧ satB R = true := fun R hR => ⟨(List.mem_filter.mp hR).1, (List.mem_filter.mp hR).2⟩
    have none_of : Ss.filter satB = [] ↔ Ls = [] := by
      constructor
      · intro e
        cases Ls with
        | nil => rfl
        | cons p Ls =>
          exfalso
          obtain ⟨x, hx⟩ := okI_some (can.1 p List.mem_cons_self)
          obtain ⟨R, hR, u, hu', _⟩ := (told x).mp ⟨p, List.mem_cons_self, hx⟩
          have : R ∈ Ss.filter satB := List.mem_filter.mpr ⟨hR, satB_iff.mpr ⟨u, hu'⟩⟩
          rw [e] at this
          exact absurd this List.not_mem_nil
      · intro e
        refine List.filter_eq_nil_iff.mpr fun R hR h => ?_
        obtain ⟨u, hu'⟩ := satB_iff.mp h
        obtain ⟨p, hp, _⟩ := (told (u l - u r)).mpr ⟨R, hR, u, hu', rfl⟩
        rw [e] at hp
        exact absurd hp List.not_mem_nil
    generalize Ss.filter satB = Rz at *
    refine ⟨Nat.zero_le _, fun e ne => ?_⟩
    have sE := same_upd (o := HO.lst []) ne
    have keep := fun {H' : Hp} (sm : Same H2 H') => (show H' fo = some (.lst (ts.map V.ref)) from sm _ _ (s2 _ _ hf1))
    have adj : ∀ (i : Nat) (a b : Iv), Ls[i]? = some a → Ls[i + 1]? = some b → apartI a b := fun i a b ea eb => by
      obtain ⟨ha, ea⟩ := List.getElem?_eq_some_iff.mp ea
      obtain ⟨hb, eb⟩ := List.getElem?_eq_some_iff.mp eb
      have := List.pairwise_iff_getElem.mp can.2 i (i + 1) ha hb (Nat.lt_succ_self _)
      rw [ea, eb] at this
      exact this
    refine ⟨.ref fo, rfl, fo, ts.map V.ref, rfl, SqL.of (keep sE), for_it walk_enum (fun i σ H' => ∃ (e : Addr) (y8 y9 y10 y11 y12 y13 : Option V), σ = [some (.ref np), some (.ref L), some (.str l), some (.str r), some (.ref fo), some (.ref tc), none, some (.ref e), y8, y9, y10, y11, y12, y13, none, none, none, none] ∧ Same H2 H' ∧ EndsL Ls H' e (4 * i))
      ⟨e, none, none, none, none, none, none, rfl, sE, [], upd_same, Nat.zero_le _, fun t h => absurd h List.not_mem_nil⟩ (fun i σ H' _ ⟨_, _, _, _, _, _, _, _, sm, _⟩ => SqL.of (keep sm)) ?_ ?_⟩
    · rintro i x σ H3 H4 hi ⟨e, y8, y9, y10, y11, y12, y13, rfl, s3, hE⟩ ⟨tp, x1, x2, rfl, ntp, rfl, e1, e2⟩
      obtain ⟨t, rfl, ht, hit⟩ := pick_ref e2
      cases (Option.some.inj e1)
      obtain ⟨p, hp⟩ : ∃ p, Ls[i]? = some p := ⟨_, List.getElem?_eq_getElem (by omega)⟩
      have smT : Same H3 (upd H3 tp (.tup [V.int i, .ref t])) := same_upd ntp
      have s4 := s3.trans smT
      have hI : IvAt (upd H3 tp (.tup [V.int i, .ref t])) t p := s4 _ _ (s2 _ _ (hf3 i t p ht hp))
      have hE4 := hE.same smT
      have hfo := keep s4
      refine ⟨tp, _, rfl, SqT.of upd_same, rfl, _, _, rfl, _, _, rfl, rfl, ?_⟩
      generalize upd H3 tp (.tup [V.int i, .ref t]) = H4 at *
      refine ⟨_, rfl, _, _, _, _, true, rfl, .ty _, .base (.tup hI), kit_ty (by decide +kernel), true, rfl, iteF ?_⟩
      refine ⟨.ref t, rfl, t, _, rfl, .inr (SqT.of hI), rfl, _, rfl, iteF ?_⟩
      refine ⟨_, rfl, t, _, rfl, SqT.of hI, rfl, _, _, rfl, _, _, rfl, rfl, ?_⟩
      have ok_p := can.1 p (List.mem_of_getElem? hp)
      have hmp := List.mem_of_getElem? hp
      have hfirst : p.1 = none → i = 0 := fun e0 => by
        cases i with
        | zero => rfl
        | succ k =>
          obtain ⟨_, a, _, e2, _⟩ := adj k _ p (List.getElem?_eq_getElem (by omega)) hp
          rw [e0] at e2
          cases e2
      have hlast : p.2 = none → ¬ i + 1 < Ls.length := fun e0 k => by
        obtain ⟨a, _, e2, _, _⟩ := adj i p _ hp (List.getElem?_eq_getElem k)
        rw [e0] at e2
        cases e2
      have hlenT : ((ts.map V.ref).length : Int) = (Ls.length : Int) := by rw [List.length_map, hf2]
      -- no stretch but the first has no low end, none but the last no high end
      dsimp only
      refine seq_if_no (fun Q q => ?_) ?_
      · have second : ∀ (b : Bool), (b = true → p.2 = none) → True := fun _ _ => trivial
        refine ⟨_, rfl, rfl, _, rfl, ?_⟩
        cases elo : p.1 with
        | none =>
          refine iteT ⟨_, rfl, _, _, rfl, rfl, _, rfl, ?_⟩
          rw [decide_eq_false (by have := hfirst elo; omega)]
          refine iteF ⟨_, rfl, rfl, _, rfl, ?_⟩
          cases ehi : p.2 with
          | none =>
            refine iteT ⟨_, rfl, .ref fo, rfl, fo, _, rfl, .inl (SqL.of hfo), _, _, rfl, rfl, _, _, rfl, rfl, _, rfl, ?_⟩
            rw [decide_eq_false (by have := hlast ehi; omega)]
            exact q
          | some b => exact iteF q
        | some a =>
          refine iteF (iteF ⟨_, rfl, rfl, _, rfl, ?_⟩)
          cases ehi : p.2 with
          | none =>
            refine iteT ⟨_, rfl, .ref fo, rfl, fo, _, rfl, .inl (SqL.of hfo), _, _, rfl, rfl, _, _, rfl, rfl, _, rfl, ?_⟩
            rw [decide_eq_false (by have := hlast ehi; omega)]
            exact q
          | some b => exact iteF q
      -- no low end is over its high end
      refine seq_if_no (fun Q q => ?_) ?_
      · refine ⟨_, rfl, rfl, _, rfl, ?_⟩
        cases elo : p.1 with
        | none => exact iteF q
        | some a =>
          refine iteT ⟨_, rfl, rfl, _, rfl, ?_⟩
          cases ehi : p.2 with
          | none => exact iteF q
          | some b =>
            refine iteT ⟨_, rfl, _, rfl, _, _, rfl, rfl, _, rfl, ?_⟩
            rw [decide_eq_false (by have := ok_p a b elo ehi; omega)]
            exact q
      -- room between
      refine seq_if_no (fun Q q => ?_) ?_
      · refine ⟨_, rfl, _, _, rfl, rfl, _, rfl, ite2 (fun c => ?_) (fun c => q)⟩
        have hpos : 0 < i := by
          have := of_decide_eq_true c
          omega
        obtain ⟨k, rfl⟩ : ∃ k, i = k + 1 := ⟨i - 1, by omega⟩
        obtain ⟨q0, hq0⟩ : ∃ q0, Ls[k]? = some q0 := ⟨_, List.getElem?_eq_getElem (by omega)⟩
        obtain ⟨t', ht'⟩ : ∃ t', ts[k]? = some t' := ⟨_, List.getElem?_eq_getElem (by omega)⟩
        obtain ⟨h0, a, e2, e3, le⟩ := adj k q0 p hq0 hp
        have hI' := s4 _ _ (s2 _ _ (hf3 k t' q0 ht' hq0))
        have hat : atI (ts.map V.ref) (((k + 1 : Nat) : Int) - 1) = some (.ref t') := by
          rw [show (((k + 1 : Nat) : Int) - 1) = (k : Int) by omega]
          exact atI_nat (by rw [List.getElem?_map, ht']; rfl)
        rw [e2] at hI'
        refine ⟨_, rfl, rfl, _, rfl, ?_⟩
        rw [e3]
        refine iteF ⟨_, rfl, _, rfl, _, _, rfl, rfl, fo, _, _, .ref t', rfl, rfl, SqL.of hfo, hat, t', _, _, .int h0, rfl, rfl, SqT.of hI', rfl, rfl, _, rfl, iteF ?_⟩
        refine ⟨_, rfl, _, rfl, _, rfl, _, _, rfl, rfl, fo, _, _, .ref t', rfl, rfl, SqL.of hfo, hat, t', _, _, .int h0, rfl, rfl, SqT.of hI', rfl, _, _, rfl, rfl, _, _, rfl, rfl, _, rfl, ?_⟩
        rw [decide_eq_false (by omega)]
        exact q
      -- its ends, and what is beside them
      refine ⟨_, rfl, _, rfl, sz2, fun t1 n1 => ⟨_, rfl, sz2, fun t2 n2 => ⟨sz2, fun tt ntt => ?_⟩⟩⟩
      have sA := same_upd (o := HO.tup [oV p.1, V.int (-1)]) n1
      have sB := same_upd (o := HO.tup [oV p.2, V.int 1]) n2
      have sC := same_upd (o := HO.tup [V.ref t1, V.ref t2]) ntt
      have h1 := (sB.trans sC) _ _ (upd_same (H := H4) (a := t1) (o := HO.tup [oV p.1, V.int (-1)]))
      have h2 := sC _ _ (upd_same (H := upd H4 t1 (.tup [oV p.1, V.int (-1)])) (a := t2) (o := HO.tup [oV p.2, V.int 1]))
      have h3 := upd_same (H := upd (upd H4 t1 (.tup [oV p.1, V.int (-1)])) t2 (.tup [oV p.2, V.int 1])) (a := tt) (o := HO.tup [V.ref t1, V.ref t2])
      have s5 := s4.trans ((sA.trans sB).trans sC)
      have hE5 := hE4.same ((sA.trans sB).trans sC)
      generalize upd (upd (upd H4 t1 (.tup [oV p.1, V.int (-1)])) t2 (.tup [oV p.2, V.int 1])) tt (.tup [V.ref t1, V.ref t2]) = H5 at *
      refine ⟨tt, rfl, ⟨_, SqT.of h3⟩, for_tup (K := K) (a := tt) (xs := [V.ref t1, V.ref t2]) (fun k σ H' => ∃ (e : Addr) (y12 y13 : Option V), σ = [some (.ref np), some (.ref L), some (.str l), some (.str r), some (.ref fo), some (.ref tc), none, some (.ref e), some (.int i), some (.ref t), some (oV p.1), some (oV p.2), y12, y13, none, none, none, none] ∧ Same H5 H' ∧ EndsL Ls H' e (4 * i + 2 * k))
        ⟨e, _, _, rfl, Same.refl _, hE5⟩ (fun k σ H' _ ⟨_, _, _, _, sm, _⟩ => SqT.of (sm _ _ h3)) ?_ (fun σ H' ⟨e, y12, y13, eσ, sm, hE⟩ => ⟨e, _, _, _, _, y12, y13, eσ, s5.trans sm, hE.mono (by show 4 * i + 2 * 2 ≤ 4 * (i + 1); omega)⟩)⟩
      rintro k v σ H6 hk ⟨e', y12, y13, rfl, s6, hE6⟩
      obtain ⟨t', x, st, rfl, hst, hx⟩ : ∃ (t' : Addr) (x : Option Int) (st : Int), v = .ref t' ∧ H5 t' = some (.tup [oV x, .int st]) ∧ ∀ a, x = some a → inU Ls a ∧ ¬ inU Ls (a + st) := by
        match k, hk with
        | 0, hk => exact ⟨t1, p.1, -1, (Option.some.inj hk).symm, h1, fun a ea => edge_lo can hmp ea⟩
        | 1, hk => exact ⟨t2, p.2, 1, (Option.some.inj hk).symm, h2, fun a ea => edge_hi can hmp ea⟩
        | k + 2, hk => cases hk
      have hk2 := (List.getElem?_eq_some_iff.mp hk).1
      have hk2 : k < 2 := hk2
      refine ⟨t', _, rfl, SqT.of (s6 _ _ hst), rfl, _, _, rfl, _, _, rfl, rfl, ?_⟩
      cases x with
      | none => exact ⟨_, rfl, rfl, _, rfl, iteF ⟨e', _, _, rfl, s6, hE6.mono (by omega)⟩⟩
      | some a =>
        obtain ⟨in1, in2⟩ := hx a rfl
        obtain ⟨us, he, hel, hec⟩ := hE6
        refine ⟨_, rfl, rfl, _, rfl, iteT ⟨_, rfl, _, rfl, sz2, fun u1 nu1 => ⟨_, rfl, _, rfl, _, _, rfl, rfl, sz2, fun u2 nu2 => ⟨sz2, fun m nm => ?_⟩⟩⟩⟩
        have sP := same_upd (o := HO.tup [V.int a, V.bl true]) nu1
        have sQ := same_upd (o := HO.tup [V.int (a + st), V.bl false]) nu2
        have sM := same_upd (o := HO.lst [V.ref u1, V.ref u2]) nm
        have sPM := (sP.trans sQ).trans sM
        refine ⟨e', m, _, _, rfl, rfl, sPM _ _ he, upd_same, ?_, fun e2 ne2 => ?_⟩
        · rw [List.length_map]
          exact Nat.le_of_lt (small1000 (by show us.length + 2 ≤ 1000; omega))
        have sN := same_upd (o := HO.lst (us.map V.ref ++ [V.ref u1, V.ref u2])) ne2
        refine ⟨e2, _, _, rfl, s6.trans (sPM.trans sN), us ++ [u1, u2], by rw [upd_same, List.map_append]; rfl, by rw [List.length_append]; show us.length + 2 ≤ 4 * i + 2 * (k + 1); omega, fun u hu => ?_⟩
        rcases List.mem_append.mp hu with m1 | m1
        · obtain ⟨x, b, z1, z2⟩ := hec u m1
          exact ⟨x, b, (sPM.trans sN) _ _ z1, z2⟩
        · rcases List.mem_cons.mp m1 with rfl | m2
          · exact ⟨a, true, ((sQ.trans sM).trans sN) _ _ upd_same, ⟨fun _ => in1, fun _ => rfl⟩⟩
          · have := List.mem_singleton.mp m2
            subst this
            exact ⟨a + st, false, (sM.trans sN) _ _ upd_same, ⟨(fun z => nomatch z), fun z => absurd z in2⟩⟩
    · rintro σ H3 ⟨e, y8, y9, y10, y11, y12, y13, rfl, s3, hE⟩
      obtain ⟨us, he, hel, hec⟩ := hE
      have hN3 := s3 _ _ (s2 _ _ hN)
      have hL3 := (hL.same s2).same s3
      refine ⟨.ref e, rfl, e, rfl, ⟨_, SqL.of he⟩, for_list (K := K) (a := e) (xs := us.map V.ref) (fun i σ H' => ∃ (y14 y15 : Option V), σ = [some (.ref np), some (.ref L), some (.str l), some (.str r), some (.ref fo), some (.ref tc), none, some (.ref e), y8, y9, y10, y11, y12, y13, y14, y15, none, none] ∧ Same H3 H')
        ⟨none, none, rfl, Same.refl _⟩ (fun i σ H' _ ⟨_, _, _, sm⟩ => SqL.of (sm _ _ he)) ?_ ?_⟩
      · rintro i v σ H4 hi ⟨y14, y15, rfl, s4⟩
        obtain ⟨t, rfl, ht, hit⟩ := pick_ref hi
        obtain ⟨x, b, z1, z2⟩ := hec t (List.mem_of_getElem? ht)
        refine ⟨t, _, rfl, SqT.of (s4 _ _ z1), rfl, _, _, rfl, _, _, rfl, rfl, ?_⟩
        refine ⟨.ref np, rfl, .ref L, rfl, .str l, rfl, .str r, rfl, .int x, rfl, np, L, ns, Ss, l, r, x, rfl, s4 _ _ hN3, N, hl, hrt, hL3.same s4, ok, fun H5 b' s5 hb => ⟨.bl b, rfl, rfl, _, rfl, ?_⟩⟩
        have eb : b' = b := Bool.eq_iff_iff.mpr (hb.trans ((told x).symm.trans z2.symm))
        rw [eb, decide_eq_true rfl]
        exact iteF ⟨_, _, rfl, s4.trans s5⟩
      rintro σ H4 ⟨y14, y15, rfl, s4⟩
      have hT4 := (hT.same s3).same s4
      have hF4 := ((hF.same s2).same s3).same s4
      obtain ⟨ds, hd1, hd2, hd3⟩ := hT4
      obtain ⟨tf, g1, g2, g3⟩ := id hF4
      refine ⟨.ref tc, rfl, tc, rfl, ⟨_, SqL.of hd1⟩, for_list (K := K) (a := tc) (xs := ds.map V.ref) (fun i σ H' => ∃ (y6 y10 y11 y16 : Option V), σ = [some (.ref np), some (.ref L), some (.str l), some (.str r), some (.ref fo), some (.ref tc), y6, some (.ref e), y8, y9, y10, y11, y12, y13, y14, y15, y16, none] ∧ Same H4 H')
        ⟨_, _, _, _, rfl, Same.refl _⟩ (fun i σ H' _ ⟨_, _, _, _, _, sm⟩ => SqL.of (sm _ _ hd1)) ?_ ?_⟩
      · rintro i v σ H5 hi ⟨y6, y10, y11, y16, rfl, s5⟩
        obtain ⟨d, rfl, hd, hit⟩ := pick_ref hi
        obtain ⟨R, hR⟩ : ∃ R, Rz[i]? = some R := ⟨_, List.getElem?_eq_getElem (by omega)⟩
        have hmR := List.mem_of_getElem? hR
        obtain ⟨inS, yes⟩ := sat R hmR
        obtain ⟨pt, hv⟩ := satB_iff.mp yes
        have hTd := (hd3 i d R hd hR).same s5
        refine seq_asg (lim_E rfl rfl rfl hTd hl hrt fun H6 s6 => ?_)
        refine seq_asg (lim_E0 rfl rfl rfl (hTd.same s6) hrt hl fun H7 s7 => ?_)
        have s57 := (s5.trans s6).trans s7
        obtain ⟨pp, hpp, hone, hi1, hi2⟩ := lies_one can (iv_ok hv l r) (fun x hx => (told x).mpr ⟨R, inS, iv_has hv hx⟩)
        have hi1 : D R l r = none → pp.2 = none := hi1
        have hi2 : ∀ b k, D R l r = some b → pp.2 = some k → b ≤ k := hi2
        have hone : Ls.filter (holdsB ((D R r l).map fun k => -k)) = [pp] := hone
        generalize ((D R r l).map fun k => -k) = low at *
        refine ⟨fun σ' H' => ∃ (c t' : Addr), σ' = [some (.ref np), some (.ref L), some (.str l), some (.str r), some (.ref fo), some (.ref tc), some (.ref d), some (.ref e), y8, y9, some (oV low), some (oV (D R l r)), y12, y13, y14, y15, some (.ref c), none] ∧ Same H4 H' ∧ H' c = some (.lst [.ref t']) ∧ IvAt H' t' pp, ?_, ?_⟩
        · refine ⟨.ref fo, rfl, fo, rfl, ⟨_, SqL.of (s57 _ _ g1)⟩, fun c nc => ?_⟩
          refine lc_list (K := K) (a := fo) (xs := tf.map V.ref) (fun j H' => Same H7 H' ∧ StrL H' c ((Ls.take j).filter (holdsB low))) ⟨same_upd nc, [], upd_same, rfl, fun i y R e => nomatch e⟩ (fun j H' _ h => SqL.of (h.1 _ _ (s57 _ _ g1))) ?_ ?_
          · rintro j v Hc hj ⟨sc, us, hc, hul, hur⟩
            obtain ⟨t, rfl, ht, hjt⟩ := pick_ref hj
            obtain ⟨p, hp⟩ : ∃ p, Ls[j]? = some p := ⟨_, List.getElem?_eq_getElem (by omega)⟩
            have hI := sc _ _ (s57 _ _ (g3 j t p ht hp))
            have etake : Ls.take (j + 1) = Ls.take j ++ [p] := by rw [List.take_add_one, hp]; rfl
            have no : holdsB low p = false → Same H7 Hc ∧ StrL Hc c ((Ls.take (j + 1)).filter (holdsB low)) := fun h => by
              rw [etake, List.filter_append, List.filter_cons, if_neg (by rw [h]; exact Bool.false_ne_true), List.filter_nil, List.append_nil]
              exact ⟨sc, us, hc, hul, hur⟩
            have yes : holdsB low p = true → ∃ acc, Hc c = some (.lst acc) ∧ acc.length < sizeLine ∧ Same H7 (upd Hc c (.lst (acc ++ [.ref t]))) ∧ StrL (upd Hc c (.lst (acc ++ [.ref t]))) c ((Ls.take (j + 1)).filter (holdsB low)) := fun h => by
              rw [etake, List.filter_append, List.filter_cons, if_pos h, List.filter_nil]
              refine ⟨_, hc, ?_, sc.later nc, StrL.snoc hc hul hur hI⟩
              rw [List.length_map, hul]
              exact small1000 (Nat.le_trans (List.length_filter_le _ _) (by rw [List.length_take]; omega))
            refine ⟨rfl, ?_⟩
            obtain ⟨p1, p2⟩ := p
            cases low with
            | none =>
              refine ⟨_, rfl, rfl, _, rfl, iteT ⟨_, rfl, t, _, _, _, rfl, rfl, SqT.of hI, rfl, rfl, _, rfl, ?_⟩⟩
              cases p1 with
              | none => exact iteT (iteT ⟨_, rfl, yes rfl⟩)
              | some a => exact iteF ⟨_, rfl, rfl, _, rfl, iteF (iteF (no rfl))⟩
            | some a =>
              refine ⟨_, rfl, rfl, _, rfl, iteF (iteF ⟨_, rfl, rfl, _, rfl, iteT ⟨_, rfl, t, _, _, _, rfl, rfl, SqT.of hI, rfl, rfl, _, rfl, ?_⟩⟩)⟩
              cases p1 with
              | none =>
                refine iteT (iteT ⟨_, rfl, t, _, _, _, rfl, rfl, SqT.of hI, rfl, rfl, _, rfl, ?_⟩)
                cases p2 with
                | none => exact iteT (iteT ⟨_, rfl, yes rfl⟩)
                | some b => exact iteF ⟨_, rfl, _, rfl, t, _, _, _, rfl, rfl, SqT.of hI, rfl, _, _, rfl, rfl, _, rfl, ite2 (fun h => ⟨_, rfl, yes (by simpa [holdsB] using h)⟩) (fun h => no (by simpa [holdsB] using h))⟩
              | some k =>
                refine iteF ⟨_, rfl, t, _, _, _, rfl, rfl, SqT.of hI, rfl, _, rfl, _, _, rfl, rfl, _, rfl, ite2 (fun h1 => ?_) (fun h1 => iteF (no (by simp [holdsB]; simp at h1; omega)))⟩
                refine ⟨_, rfl, t, _, _, _, rfl, rfl, SqT.of hI, rfl, rfl, _, rfl, ?_⟩
                cases p2 with
                | none => exact iteT (iteT ⟨_, rfl, yes (by simpa [holdsB] using h1)⟩)
                | some b => exact iteF ⟨_, rfl, _, rfl, t, _, _, _, rfl, rfl, SqT.of hI, rfl, _, _, rfl, rfl, _, rfl, ite2 (fun h => ⟨_, rfl, yes (by simp at h h1; simp [holdsB]; omega)⟩) (fun h => no (by simp at h h1; simp [holdsB]; omega))⟩
          · rintro Hc ⟨sc, hc⟩
            rw [List.length_map, g2, List.take_length, hone] at hc
            obtain ⟨us, u1, u2, u3⟩ := hc
            obtain ⟨t', rfl⟩ : ∃ t', us = [t'] := List.length_eq_one_iff.mp u2
            exact ⟨c, t', rfl, s57.trans sc, u1, u3 0 t' pp rfl rfl⟩
        rintro σ8 H8 ⟨c, t', rfl, s8, hc, hI⟩
        dsimp only
        refine seq_if_no (fun Q q => ?_) (if_no (fun Q q => ?_) ⟨_, _, _, _, rfl, s8⟩)
        · refine ⟨.ref c, rfl, c, _, rfl, .inl (SqL.of hc), rfl, _, rfl, iteF ⟨_, rfl, rfl, _, rfl, ?_⟩⟩
          cases eD : D R l r with
          | some b => exact iteF q
          | none =>
            have hI' : H8 t' = some (.tup [oV pp.1, oV pp.2]) := hI
            rw [hi1 eD] at hI'
            exact iteT ⟨.ref c, rfl, c, _, _, .ref t', rfl, rfl, SqL.of hc, rfl, t', _, _, _, rfl, rfl, SqT.of hI', rfl, rfl, _, rfl, q⟩
        · refine ⟨_, rfl, rfl, _, rfl, ?_⟩
          cases eD : D R l r with
          | none => exact iteF q
          | some b =>
            have hI' : H8 t' = some (.tup [oV pp.1, oV pp.2]) := hI
            refine iteT ⟨.ref c, rfl, c, _, _, .ref t', rfl, rfl, SqL.of hc, rfl, t', _, _, _, rfl, rfl, SqT.of hI', rfl, rfl, _, rfl, ?_⟩
            cases ep : pp.2 with
            | none => exact iteF q
            | some k =>
              rw [ep] at hI'
              refine iteT ⟨.ref c, rfl, c, _, _, .ref t', rfl, rfl, SqL.of hc, rfl, t', _, _, _, rfl, rfl, SqT.of hI', rfl, _, rfl, _, _, rfl, rfl, _, rfl, ?_⟩
              rw [decide_eq_false (by have := hi2 b k eD ep; omega)]
              exact q
      rintro σ H5 ⟨y6, y10, y11, y16, rfl, s5⟩
      refine ⟨.ref fo, rfl, Nat.zero_le _, fun m1 nm1 => ?_⟩
      have sM := same_upd (o := HO.lst []) nm1
      refine ⟨fo, m1, _, rfl, rfl, SqL.of (sM _ _ (s5 _ _ g1)), SqL.of upd_same, .ref tc, rfl, Nat.zero_le _, fun m2 nm2 => ?_⟩
      have sN := same_upd (o := HO.lst []) nm2
      refine ⟨tc, m2, _, rfl, rfl, SqL.of (sN _ _ (sM _ _ (s5 _ _ hd1))), SqL.of upd_same, rfl, ?_⟩
      have eb : (ds.map V.ref).isEmpty = (tf.map V.ref).isEmpty := by
        cases tf with
        | nil =>
          have : Rz = [] := none_of.mpr (List.length_eq_zero_iff.mp g2.symm)
          rw [this] at hd2
          rw [List.length_eq_zero_iff.mp hd2]
        | cons a tf =>
          cases ds with
          | nil =>
            have : Ls = [] := none_of.mp (List.length_eq_zero_iff.mp hd2.symm)
            rw [this] at g2
            cases g2
          | cons b ds => rfl
      rw [eb, decide_eq_true rfl]
      exact q _ (s2.trans (s3.trans (s4.trans (s5.trans (sM.trans sN)))))
end
end Lo
/-! Stretches told by a walk over the numbers: a start is kept while the numbers go on. -/
namespace Lo
def ivs (due : List (Int × Int)) : List Iv := due.map fun p => (some p.1, some p.2)
structure DueI (seen : Int → Prop) (w : Int) (due : List (Int × Int)) (start : Option Int) : Prop where
  can : CanonA (ivs due)
  in_ : ∀ x, inU (ivs due) x ↔ seen x ∧ x < start.getD w
  run : ∀ s, start = some s → s < w ∧ ¬ seen (s - 1) ∧ ∀ x, s ≤ x → x < w → seen x
  off : start = none → ¬ seen (w - 1)
variable {seen : Int → Prop} {w s : Int} {due : List (Int × Int)}
theorem DueI.init (h : ∀ x, seen x → w ≤ x) : DueI seen w [] none where
  can := ⟨fun p hp => absurd hp List.not_mem_nil, List.Pairwise.nil⟩
  in_ := fun x => ⟨fun ⟨p, hp, _⟩ => absurd hp List.not_mem_nil, fun ⟨hx, l⟩ => by
    have := h x hx
    have l : x < w := l
    omega⟩
  run := fun s e => nomatch e
  off := fun _ hx => by
    have := h _ hx
    omega
theorem DueI.opens (h : DueI seen w due none) (hs : seen w) : DueI seen (w + 1) due (some w) where
  can := h.can
  in_ := h.in_
  run := fun s e => by
    cases e
    exact ⟨by omega, h.off rfl, fun x h1 h2 => by
      have : x = w := by omega
      exact this ▸ hs⟩
  off := fun e => nomatch e
theorem DueI.skip (h : DueI seen w due none) (hs : ¬ seen w) : DueI seen (w + 1) due none where
  can := h.can
  in_ := fun x => (h.in_ x).trans ⟨fun ⟨a, b⟩ => ⟨a, (show x < w + 1 from by have b : x < w := b; omega)⟩, fun ⟨a, b⟩ => ⟨a, (show x < w from by
    have b : x < w + 1 := b
    have : x ≠ w := fun e => hs (e ▸ a)
    omega)⟩⟩
  run := fun s e => nomatch e
  off := fun _ hx => hs (by
    have : w + 1 - 1 = w := by omega
    exact this ▸ hx)
theorem DueI.go (h : DueI seen w due (some s)) (hs : seen w) : DueI seen (w + 1) due (some s) where
  can := h.can
  in_ := h.in_
  run := fun s' e => by
    obtain ⟨a, b, c⟩ := h.run s' e
    refine ⟨by omega, b, fun x h1 h2 => ?_⟩
    by_cases k : x < w
    · exact c x h1 k
    · have : x = w := by omega
      exact this ▸ hs
  off := fun e => nomatch e
theorem DueI.close (h : DueI seen w due (some s)) (hs : ¬ seen w) : DueI seen (w + 1) (due ++ [(s, w - 1)]) none := by
  obtain ⟨a, b, c⟩ := h.run s rfl
  have ev : ivs (due ++ [(s, w - 1)]) = ivs due ++ [(some s, some (w - 1))] := List.map_append
  have inn : ∀ x, inI (some s, some (w - 1)) x ↔ s ≤ x ∧ x < w := fun x => by
    unfold inI
    constructor
    · rintro ⟨h1, h2⟩
      have := h1 s rfl
      have := h2 (w - 1) rfl
      exact ⟨by omega, by omega⟩
    · rintro ⟨h1, h2⟩
      exact ⟨fun k e => by cases e; exact h1, fun k e => by cases e; omega⟩
  refine ⟨?_, fun x => ?_, (fun s e => nomatch e), fun _ hx => hs (by
    have : w + 1 - 1 = w := by omega
    exact this ▸ hx)⟩
  · rw [ev]
    refine ⟨fun p hp => ?_, List.pairwise_append.mpr ⟨h.can.2, List.pairwise_singleton _ _, fun p hp q hq => ?_⟩⟩
    · rcases List.mem_append.mp hp with m | m
      · exact h.can.1 p m
      · rw [List.mem_singleton.mp m]
        intro x y e1 e2
        cases e1
        cases e2
        omega
    · rw [List.mem_singleton.mp hq]
      obtain ⟨d, hd, rfl⟩ := List.mem_map.mp hp
      refine ⟨d.2, s, rfl, rfl, ?_⟩
      have ih := inI_hi (h.can.1 _ hp) (show ((some d.1, some d.2) : Iv).2 = some d.2 from rfl)
      obtain ⟨z1, z2⟩ := (h.in_ d.2).mp ⟨_, hp, ih⟩
      have z2 : d.2 < s := z2
      have : d.2 ≠ s - 1 := fun e => b (e ▸ z1)
      omega
  · rw [ev]
    constructor
    · rintro ⟨p, hp, hx⟩
      rcases List.mem_append.mp hp with m | m
      · obtain ⟨z1, z2⟩ := (h.in_ x).mp ⟨p, m, hx⟩
        have z2 : x < s := z2
        exact ⟨z1, show x < w + 1 by omega⟩
      · rw [List.mem_singleton.mp m] at hx
        obtain ⟨z1, z2⟩ := (inn x).mp hx
        exact ⟨c x z1 z2, show x < w + 1 by omega⟩
    · rintro ⟨z1, z2⟩
      have z2 : x < w + 1 := z2
      have nw : x ≠ w := fun e => hs (e ▸ z1)
      by_cases k : x < s
      · obtain ⟨p, hp, hx⟩ := (h.in_ x).mpr ⟨z1, k⟩
        exact ⟨p, List.mem_append_left _ hp, hx⟩
      · exact ⟨_, List.mem_append_right _ (List.mem_singleton.mpr rfl), (inn x).mpr ⟨by omega, by omega⟩⟩
/-- at the end the walk has told all of the numbers -/
theorem DueI.fin {start : Option Int} (h : DueI seen w due start) (hw : ∀ x, seen x → x < w - 1) : ∀ x, inU (ivs due) x ↔ seen x := fun x => by
  cases start with
  | some s =>
    obtain ⟨a, _, c⟩ := h.run s rfl
    have := hw (w - 1) (c (w - 1) (by omega) (by omega))
    omega
  | none => exact (h.in_ x).trans ⟨fun z => z.1, fun z => ⟨z, (show x < w from by have := hw x z; omega)⟩⟩
/-- the least of the numbers is where the first stretch starts -/
theorem DueI.first {start : Option Int} {d : Int × Int} {ds : List (Int × Int)} (h : DueI seen w (d :: ds) start) (hw : ∀ x, seen x → x < w - 1) : seen d.1 ∧ ∀ x, seen x → d.1 ≤ x := by
  have told := h.fin hw
  have hd : ((some d.1, some d.2) : Iv) ∈ ivs (d :: ds) := List.mem_cons_self
  refine ⟨(told d.1).mp ⟨_, hd, inI_lo (h.can.1 _ hd) rfl⟩, fun x hx => ?_⟩
  obtain ⟨p, hp, hpx⟩ := (told x).mpr hx
  rcases List.mem_cons.mp hp with e | e
  · subst e
    exact hpx.1 d.1 rfl
  · have z := (List.pairwise_cons.mp h.can.2).1 p e
    have := apart_lt z (inI_lo (h.can.1 _ hd) rfl) hpx
    omega
end Lo
namespace Lo
open PySem L2
/-- stretches as data -/
def oD : Option Int → PyData
  | none => .none
  | some k => .int k
def ivData (p : Iv) : PyData := .tuple [oD p.1, oD p.2]
def strD (Ls : List Iv) : PyData := .list (Ls.map ivData)
theorem dp_oV {K : PySem.W.Frag} {H : Hp} (x : Option Int) : Dp K H (oV x) (oD x) := by
  cases x with
  | none => exact .non
  | some k => exact .int k
theorem dp_iv {K : PySem.W.Frag} {H : Hp} {t : Addr} {p : Iv} (h : IvAt H t p) : Dp K H (.ref t) (ivData p) := .tup (SqT.of h) (.cons (dp_oV _) (.cons (dp_oV _) .nil))
theorem dp_ivs {K : PySem.W.Frag} {H : Hp} : ∀ (ts : List Addr) (Ls : List Iv), ts.length = Ls.length → (∀ (i : Nat) (t : Addr) (p : Iv), ts[i]? = some t → Ls[i]? = some p → IvAt H t p) → DpAll K H (ts.map V.ref) (Ls.map ivData)
  | [], [], _, _ => .nil
  | t :: ts, p :: Ls, hl, h => .cons (dp_iv (h 0 t p rfl rfl)) (dp_ivs ts Ls (Nat.succ.inj hl) fun i t' p' h1 h2 => h (i + 1) t' p' h1 h2)
  | [], _ :: _, hl, _ => absurd hl (by simp)
  | _ :: _, [], hl, _ => absurd hl (by simp)
theorem dp_strL {K : PySem.W.Frag} {H : Hp} {L : Addr} {Ls : List Iv} (h : StrL H L Ls) : Dp K H (.ref L) (strD Ls) := by
  obtain ⟨ts, h1, h2, h3⟩ := h
  exact .lst (SqL.of h1) (dp_ivs ts Ls h2 h3)
theorem lay_ivs : ∀ Ls : List Iv, PyData.canLayAll0 (Ls.map ivData) = true
  | [] => by simp [PyData.canLayAll0]
  | p :: Ls => by
    have h2 := lay_ivs Ls
    obtain ⟨a, b⟩ := p
    cases a <;> cases b <;> simp [PyData.canLayAll0, ivData, oD, PyData.canLay0, h2]
theorem deep_ivs : ∀ Ls : List Iv, PyData.depthAll (Ls.map ivData) ≤ 2
  | [] => by simp [PyData.depthAll]
  | p :: Ls => by
    have ih := deep_ivs Ls
    obtain ⟨a, b⟩ := p
    cases a <;> cases b <;> simp [PyData.depthAll, ivData, oD, PyData.depth] <;> omega
theorem shaped_str (Ls : List Iv) : SeqAt.shaped (strD Ls) = true := by
  have d := deep_ivs Ls
  unfold strD
  simp [SeqAt.shaped, PyData.canLay0, PyData.depth, lay_ivs]
  omega
theorem eqv_oD (x : Option Int) : PyData.eqv (oD x) (oD x) = true := by cases x <;> simp [oD, PyData.eqv]
theorem eqv_ivs : ∀ Ls : List Iv, PyData.eqvAll (Ls.map ivData) (Ls.map ivData) = true
  | [] => by simp [PyData.eqvAll]
  | p :: Ls => by
    have ih := eqv_ivs Ls
    simp [PyData.eqvAll, ivData, PyData.eqv, eqv_oD, ih]
theorem eqv_str (Ls : List Iv) : PyData.eqv (strD Ls) (strD Ls) = true := by
  unfold strD
  simp [PyData.eqv, eqv_ivs]
/-- what spread answers is ascending and apart, and has the numbers of the stretches it is made of -/
theorem sprd_ok {Ls : List Iv} (ok : ∀ p ∈ Ls, okI p) (srt : Ls.Pairwise fun p q => lowLe p.1 q.1) : CanonA (sprd Ls) ∧ ∀ x, inU (sprd Ls) x ↔ inU Ls x := by
  obtain ⟨h1, h2⟩ := fold_ok Ls [] ⟨fun p hp => absurd hp List.not_mem_nil, List.Pairwise.nil⟩ ok srt (fun q e => nomatch e)
  refine ⟨canonR_rev.mp h1, fun x => ?_⟩
  have e : inU (sprd Ls) x ↔ inU (Ls.foldl stepR []) x := by
    unfold sprd inU
    exact ⟨fun ⟨p, hp, h⟩ => ⟨p, List.mem_reverse.mp hp, h⟩, fun ⟨p, hp, h⟩ => ⟨p, List.mem_reverse.mpr hp, h⟩⟩
  exact e.trans ((h2 x).trans ⟨fun z => z.elim (fun ⟨p, hp, _⟩ => absurd hp List.not_mem_nil) id, .inr⟩)
/-- and these are the values of the difference over the systems -/
theorem sprd_told {Rs : List (List SRow)} {l r : Str} {Ls : List Iv} (sat : ∀ R ∈ Rs, ∃ v, Sat R v) (pm : Ls.Perm (Rs.map fun R => ivD R l r)) (srt : Ls.Pairwise fun p q => lowLe p.1 q.1) :
    CanonA (sprd Ls) ∧ ∀ x, inU (sprd Ls) x ↔ ∃ R ∈ Rs, hasV R l r x := by
  have ok : ∀ p ∈ Ls, okI p := fun p hp => by
    obtain ⟨R, hR, rfl⟩ := List.mem_map.mp (pm.mem_iff.mp hp)
    obtain ⟨v, hv⟩ := sat R hR
    exact iv_ok hv l r
  obtain ⟨h1, h2⟩ := sprd_ok ok srt
  refine ⟨h1, fun x => (h2 x).trans ⟨fun ⟨p, hp, hx⟩ => ?_, fun ⟨R, hR, hx⟩ => ?_⟩⟩
  · obtain ⟨R, hR, rfl⟩ := List.mem_map.mp (pm.mem_iff.mp hp)
    obtain ⟨v, hv⟩ := sat R hR
    exact ⟨R, hR, iv_has hv hx⟩
  · obtain ⟨v, hv⟩ := sat R hR
    exact ⟨_, pm.mem_iff.mpr (List.mem_map.mpr ⟨R, hR, rfl⟩), has_iv hv hx⟩
/-- two rows that hold a difference between two numbers -/
theorem two_has {l r : Str} (ne : l ≠ r) {lo hi : Int} {x : Int} : hasV [(l, r, hi), (r, l, 0 - lo)] l r x ↔ lo ≤ x ∧ x ≤ hi := by
  constructor
  · rintro ⟨u, hu, e⟩
    have h1 := hu (l, r, hi) List.mem_cons_self
    have h2 := hu (r, l, 0 - lo) (List.mem_cons_of_mem _ List.mem_cons_self)
    dsimp only at h1 h2
    exact ⟨by omega, by omega⟩
  · rintro ⟨h1, h2⟩
    have e1 : (if l = l then x else 0) = x := if_pos rfl
    have e2 : (if r = l then x else 0) = 0 := if_neg ne.symm
    refine ⟨fun y => if y = l then x else 0, fun q hq => ?_, ?_⟩
    · rcases List.mem_cons.mp hq with rfl | h
      · show (if l = l then x else 0) - (if r = l then x else 0) ≤ hi
        omega
      · rw [List.mem_singleton] at h
        subst h
        show (if r = l then x else 0) - (if l = l then x else 0) ≤ 0 - lo
        omega
    · show (if l = l then x else 0) - (if r = l then x else 0) = x
      omega
/-- one row that holds a difference from below -/
theorem one_has {l r : Str} (ne : l ≠ r) {lo : Int} {x : Int} : hasV [(r, l, 0 - lo)] l r x ↔ lo ≤ x := by
  constructor
  · rintro ⟨u, hu, e⟩
    have h2 := hu (r, l, 0 - lo) List.mem_cons_self
    dsimp only at h2
    omega
  · intro h1
    have e1 : (if l = l then x else 0) = x := if_pos rfl
    have e2 : (if r = l then x else 0) = 0 := if_neg ne.symm
    refine ⟨fun y => if y = l then x else 0, fun q hq => ?_, ?_⟩
    · rw [List.mem_singleton] at hq
      subst hq
      show (if r = l then x else 0) - (if l = l then x else 0) ≤ 0 - lo
      omega
    · show (if l = l then x else 0) - (if r = l then x else 0) = x
      omega
end Lo
namespace Lo
open PySem L2
/-- systems of their own in a list, and the list is none of them -/
def SysO (H : Hp) (o : Addr) (Ss : List (List SRow)) : Prop := ∃ ls : List Addr, H o = some (.lst (ls.map V.ref)) ∧ ls.length = Ss.length ∧ (∀ l ∈ ls, l ≠ o) ∧ ∀ (i : Nat) (l : Addr) (R : List SRow), ls[i]? = some l → Ss[i]? = some R → Sys RowT H l R
theorem SysO.syss {H : Hp} {o : Addr} {Ss : List (List SRow)} (h : SysO H o Ss) : Syss H o Ss := by
  obtain ⟨ls, a, b, _, c⟩ := h
  exact ⟨ls, a, b, c⟩
theorem SysO.same {H H' : Hp} {o : Addr} {Ss : List (List SRow)} (s : Same H H') (h : SysO H o Ss) : SysO H' o Ss := by
  obtain ⟨ls, a, b, c, d⟩ := h
  exact ⟨ls, s _ _ a, b, c, fun i l R e f => (d i l R e f).sameT s⟩
theorem Sys.offT {H : Hp} {o l : Addr} {xs ys : List V} {R : List SRow} (ho : H o = some (.lst xs)) (ne : l ≠ o) (h : Sys RowT H l R) : Sys RowT (upd H o (.lst ys)) l R := by
  obtain ⟨ps, h1, h2, h3⟩ := h
  refine ⟨ps, by rw [upd_ne ne]; exact h1, h2, fun i q r a b => ?_⟩
  have z := h3 i q r a b
  show upd H o _ q = _
  rw [upd_ne (ne_of z ho (by intro z; cases z))]
  exact z
/-- one system more, at the end of the list -/
theorem SysO.snoc {H : Hp} {o l : Addr} {Ss : List (List SRow)} {R : List SRow} (h : SysO H o Ss) (ne : l ≠ o) (hl : Sys RowT H l R) :
    ∃ ls : List Addr, H o = some (.lst (ls.map V.ref)) ∧ ls.length = Ss.length ∧ SysO (upd H o (.lst (ls.map V.ref ++ [.ref l]))) o (Ss ++ [R]) := by
  obtain ⟨ls, a, b, c, d⟩ := h
  refine ⟨ls, a, b, ls ++ [l], by rw [upd_same, List.map_append]; rfl, by rw [List.length_append, List.length_append, b]; rfl, fun q hq => ?_, fun i q R' e f => ?_⟩
  · rcases List.mem_append.mp hq with m | m
    · exact c q m
    · exact List.mem_singleton.mp m ▸ ne
  · by_cases k : i < ls.length
    · rw [List.getElem?_append_left k] at e
      rw [List.getElem?_append_left (by omega)] at f
      exact (d i q R' e f).offT a (c q (List.mem_of_getElem? e))
    · have hi : i = ls.length := by
        have := (List.getElem?_eq_some_iff.mp e).1
        rw [List.length_append, List.length_singleton] at this
        omega
      subst hi
      rw [List.getElem?_append_right (Nat.le_refl _), Nat.sub_self] at e
      rw [b, List.getElem?_append_right (Nat.le_refl _), Nat.sub_self] at f
      have e1 : l = q := Option.some.inj e
      have e2 : R = R' := Option.some.inj f
      subst e1 e2
      exact hl.offT a ne
/-- a change of a dict leaves the systems -/
theorem SysO.offD {H : Hp} {o sd : Addr} {Ss : List (List SRow)} {kvs kvs' : List (Key × V)} (hs : H sd = some (.dK kvs)) (h : SysO H o Ss) : SysO (upd H sd (.dK kvs')) o Ss := by
  obtain ⟨ls, a, b, c, d⟩ := h
  refine ⟨ls, by rw [upd_ne (ne_of a hs (by intro z; cases z))]; exact a, b, c, fun i l R e f => ?_⟩
  obtain ⟨ps, h1, h2, h3⟩ := d i l R e f
  refine ⟨ps, by rw [upd_ne (ne_of h1 hs (by intro z; cases z))]; exact h1, h2, fun j q r e f => ?_⟩
  have z := h3 j q r e f
  show upd H sd _ q = _
  rw [upd_ne (ne_of z hs (by intro z; cases z))]
  exact z
/-- the numbers that are keys of a dict -/
def Seen (H : Hp) (sd : Addr) (n : Nat) (p : Int → Prop) : Prop := ∃ kvs : List (Key × V), H sd = some (.dK kvs) ∧ kvs.length ≤ n ∧ ∀ x : Int, (valV kvs (.inl x : Key)).isSome = true ↔ p x
theorem Seen.same {H H' : Hp} {sd : Addr} {n : Nat} {p : Int → Prop} (s : Same H H') (h : Seen H sd n p) : Seen H' sd n p := by
  obtain ⟨kvs, a, b, c⟩ := h
  exact ⟨kvs, s _ _ a, b, c⟩
theorem Seen.iff {H : Hp} {sd : Addr} {n : Nat} {p q : Int → Prop} (e : ∀ x, p x ↔ q x) (h : Seen H sd n p) : Seen H sd n q := by
  obtain ⟨kvs, a, b, c⟩ := h
  exact ⟨kvs, a, b, fun x => (c x).trans (e x)⟩
theorem Seen.off {H : Hp} {sd o : Addr} {n : Nat} {p : Int → Prop} {xs ys : List V} (ho : H o = some (.lst xs)) (h : Seen H sd n p) : Seen (upd H o (.lst ys)) sd n p := by
  obtain ⟨kvs, a, b, c⟩ := h
  exact ⟨kvs, by rw [upd_ne (ne_of a ho (by intro z; cases z))]; exact a, b, c⟩
theorem Seen.get {H : Hp} {sd : Addr} {n : Nat} {p : Int → Prop} (h : Seen H sd n p) (x : Int) : ∃ o, DGet H sd (.int x) o ∧ (o.isSome = true ↔ p x) := by
  obtain ⟨kvs, a, b, c⟩ := h
  exact ⟨_, DGet.k (k := .inl x) a, c x⟩
theorem Seen.put {H : Hp} {sd : Addr} {n : Nat} {p : Int → Prop} (h : Seen H sd n p) (hn : n < sizeLine) (k : Int) (v : V) :
    ∃ kvs kvs' : List (Key × V), H sd = some (.dK kvs) ∧ DPut H sd (.int k) v (upd H sd (.dK kvs')) ∧ Seen (upd H sd (.dK kvs')) sd (n + 1) fun x => p x ∨ x = k := by
  obtain ⟨kvs, a, b, c⟩ := h
  refine ⟨kvs, putK kvs (.inl k) v, a, DPut.k (k := .inl k) a (Nat.lt_of_le_of_lt b hn), putK kvs (.inl k) v, upd_same, Nat.le_trans (DSub.putK_len _ _ _) (Nat.succ_le_succ b), fun x => ?_⟩
  rw [valV_put]
  by_cases e : x = k
  · rw [if_pos (by rw [e])]
    exact ⟨fun _ => .inr e, fun _ => rfl⟩
  · rw [if_neg (fun z => e (Sum.inl.inj z))]
    exact (c x).trans ⟨.inl, fun z => z.elim id fun z => absurd z e⟩
theorem Seen.len0 {H : Hp} {sd : Addr} {n : Nat} {p : Int → Prop} (h : Seen H sd n p) {x : Int} (hx : p x) : ∃ kvs : List (Key × V), H sd = some (.dK kvs) ∧ 0 < kvs.length := by
  obtain ⟨kvs, a, b, c⟩ := h
  refine ⟨kvs, a, ?_⟩
  cases kvs with
  | nil =>
    have := (c x).mpr hx
    cases this
  | cons _ _ => exact Nat.succ_pos _
end Lo
namespace Lo
open PySem L2
abbrev sLJoins : Stmt := top 66
section
variable {P : Program} {w : World} {K : PySem.W.Frag} {mg : Str → Option Value} {base : Heap}
abbrev nJoins : List Str := ["script", "names", "left", "right", "rows", "seen", "turn", "low", "high", "worth", "due", "start", "region"]
theorem scJoins : FnScope nJoins ["script", "names"] (defScope sLJoins) := ⟨rfl, rfl, rfl, by decide +kernel, rfl, by decide +kernel, by decide +kernel⟩
def spJoins (K : PySem.W.Frag) : Sp := fun vs H Q _ => ∃ (s np : Addr) (ns : List Str), vs = [.ref s, .ref np] ∧ Scr K H s ∧ H np = some (.tup (ns.map V.str)) ∧ NamesR ns ∧ 2 ≤ ns.length ∧ ∀ H', Same H H' → Q (.bl true) H'
theorem strL_cat {H : Hp} {e u : Addr} {ts : List Addr} {Ls : List Iv} {p : Iv} (he : H e = some (.lst (ts.map V.ref ++ [.ref u]))) (h2 : ts.length = Ls.length) (h3 : ∀ (i : Nat) (t : Addr) (p : Iv), ts[i]? = some t → Ls[i]? = some p → IvAt H t p) (hu : IvAt H u p) : StrL H e (Ls ++ [p]) := by
  refine ⟨ts ++ [u], by rw [he, List.map_append]; rfl, by rw [List.length_append, List.length_append, h2]; rfl, fun i t' p' a b => ?_⟩
  by_cases k : i < ts.length
  · rw [List.getElem?_append_left k] at a
    rw [List.getElem?_append_left (by omega)] at b
    exact h3 i t' p' a b
  · have hi : i = ts.length := by
      have := (List.getElem?_eq_some_iff.mp a).1
      rw [List.length_append, List.length_singleton] at this
      omega
    subst hi
    rw [List.getElem?_append_right (Nat.le_refl _), Nat.sub_self] at a
    rw [h2, List.getElem?_append_right (Nat.le_refl _), Nat.sub_self] at b
    have e1 : u = t' := Option.some.inj a
    have e2 : p = p' := Option.some.inj b
    subst e1 e2
    exact hu
theorem ok_joins {C f fD fI fP : Addr} {fd fdD fdI fdP : FuncData} (F : Fun K "_law_joins" "_law_joins" sLJoins f fd) (T : Blt mg) (X : RTxt K mg C fI) (mS : Meth K C "spread" fP)
    (GD : FnOk P w K mg base CX0 1 fD fdD ["script", "at", "many"] (spDraw K)) (kD : PySem.W.keepIn K (.ref fD) = true) (bD : Binds K fdD ["script", "at", "many"] []) (gD : mg "_law_draw" = some (.ref fD))
    (GI : FnOk P w K mg base CX0 6 fI fdI ["self", "names", "systems"] (spRInit K C)) (bI : Binds K fdI ["self", "names", "systems"] [])
    (GP : FnOk P w K mg base CX0 5 fP fdP ["self", "left", "right"] (spSpread C)) (bP : Binds K fdP ["self", "left", "right"] []) :
    FnOk P w K mg base CX0 8 f fd ["script", "names"] (spJoins K) := by
  refine F.ok scJoins (fun vs H Q E h => ?_) (fun cdv A outer s0 H vs Q E hr h => ?_)
  · obtain ⟨s, np, ns, rfl, _⟩ := h
    rfl
  obtain ⟨s, np, ns, rfl, hS, hN, N, two, q⟩ := h
  have nd := scJoins.nd
  have r1 := hr.mono (show 1 ≤ 7 by decide)
  have r5 := hr.mono (show 5 ≤ 7 by decide)
  have hu := hu_of hr
  refine ⟨_, pss_cons (ps_asg (pe_tup (pa_cons (pe_ix ix_tup (pv 1) pe_int (fun _ _ => rfl)) (pa_cons (pe_op op_catT (pe_tup (pa_cons pe_str pa_nil)) (pe_slice sl_tupA (pv 1) (po_some pe_int) (po_some pe_int))) (pa_cons (pe_lst pa_nil) (pa_cons pe_dnewK pa_nil)))))
      (pg_tup rfl (pgs_cons (pg_name (i := 2) nd rfl (.inl rfl)) (pgs_cons (pg_name (i := 3) nd rfl (.inl rfl)) (pgs_cons (pg_name (i := 4) nd rfl (.inl rfl)) (pgs_cons (pg_name (i := 5) nd rfl (.inl rfl)) pgs_nil))))))
    (pss_cons (ps_set (i := 3) nd rfl (.inl rfl) (pe_ix ix_tup (pv 3) (pe_call GD r1 (by rfl) gD kD bD .nil pass0 (pa_cons (pv 0) (pa_cons pe_int (pa_cons pe_int pa_nil)))) (fun _ _ => rfl)))
    (pss_cons (ps_for PassesOwn.never rfl (pi_range1 (by rfl) T.range (pa_cons (pe_op op_add pe_int (pe_call GD r1 (by rfl) gD kD bD .nil pass0 (pa_cons (pv 0) (pa_cons pe_int (pa_cons pe_int pa_nil))))) pa_nil)) (pg_name (i := 6) nd rfl (.inl rfl))
      (pss_cons (ps_set (i := 7) nd rfl (.inl rfl) (pe_op op_sub (pe_call GD r1 (by rfl) gD kD bD .nil pass0 (pa_cons (pv 0) (pa_cons (pe_op op_add pe_int (pe_op op_mul pe_int (pv 6))) (pa_cons pe_int pa_nil)))) pe_int))
      (pss_cons (ps_set (i := 8) nd rfl (.inl rfl) (pe_op op_add (pv 7) (pe_call GD r1 (by rfl) gD kD bD .nil pass0 (pa_cons (pv 0) (pa_cons (pe_op op_add pe_int (pe_op op_mul pe_int (pv 6))) (pa_cons pe_int pa_nil))))))
      (pss_cons (ps_expr (pe_bm PySem.F.plainAttrs_list PySem.F.slot_list_append PySem.F.type_list_append mt_append (pv 4) (pa_cons (pe_lst (pa_cons (pe_tup (pa_cons (pv 2) (pa_cons (pv 3) (pa_cons (pv 8) pa_nil)))) (pa_cons (pe_tup (pa_cons (pv 3) (pa_cons (pv 2) (pa_cons (pe_op op_sub pe_int (pv 7)) pa_nil)))) pa_nil))) pa_nil)))
      (pss_one (ps_for PassesOwn.never rfl (pi_range2 (by rfl) T.range (pa_cons (pv 7) (pa_cons (pe_op op_add (pv 8) pe_int) pa_nil))) (pg_name (i := 9) nd rfl (.inl rfl))
        (pss_one (ps_dput hu (pv 5) (pv 9) pe_bl rfl))))))))
    (pss_cons (ps_par (i := 10) (j := 11) rfl nd rfl rfl (by decide) rfl rfl (pa_cons (pe_lst pa_nil) (pa_cons pe_non pa_nil)) (by rfl))
    (pss_cons (ps_for PassesOwn.never rfl (pi_range2 (by rfl) T.range (pa_cons (pe_un un_neg pe_int) (pa_cons pe_int pa_nil))) (pg_name (i := 9) nd rfl (.inl rfl))
      (pss_cons (ps_if (PW.pt (pw_and (pt_cmp (pc_din hu (pv 9) (pv 5))) (pw_and1 (pt_cmpR op_isN (pv 11) pe_non (nomark _))))) (pss_one (ps_set (i := 11) nd rfl (.inl rfl) (pv 9))) pss_nil)
      (pss_one (ps_if (PW.pt (pw_and (pt_cmp (pc_dnotin hu (pv 9) (pv 5))) (pw_and1 (pt_cmpR op_notN (pv 11) pe_non (nomark _)))))
        (pss_one (ps_par (i := 10) (j := 11) rfl nd rfl rfl (by decide) rfl rfl (pa_cons (pe_op op_cat (pv 10) (pe_lst (pa_cons (pe_tup (pa_cons (pv 11) (pa_cons (pe_op op_sub (pv 9) pe_int) pa_nil))) pa_nil))) (pa_cons pe_non pa_nil)) (by rfl))) pss_nil))))
    (pss_cons (ps_set (i := 12) nd rfl (.inl rfl) (pe_make X.make GI hr (by rfl) X.mg bI .nil pass0 (pa_cons (pv 1) (pa_cons (pv 4) pa_nil))))
    (pss_cons (ps_if (pt_cmpR (op_neD hr.units) (pe_meth (pv 12) X.cl mS GP r5 bP .nil pass0 (pa_cons (pv 2) (pa_cons (pv 3) pa_nil))) (pv 10) (nomark _)) (pss_one (ps_ret pe_bl)) pss_nil)
    (pss_cons (ps_expr (pe_bm PySem.F.plainAttrs_list PySem.F.slot_list_append PySem.F.type_list_append mt_append (pv 4) (pa_cons (pe_lst (pa_cons (pe_tup (pa_cons (pv 3) (pa_cons (pv 2) (pa_cons (pe_op op_sub (pe_op op_sub pe_int (pe_ix ix_tup (pe_ix ix_list (pv 10) pe_int (fun _ _ => rfl)) pe_int (fun _ _ => rfl))) pe_int) pa_nil)))) pa_nil)) pa_nil)))
    (pss_one (ps_ret (pe_cmpR (op_eqD hr.units) (pe_meth (pe_make X.make GI hr (by rfl) X.mg bI .nil pass0 (pa_cons (pv 1) (pa_cons (pv 4) pa_nil))) X.cl mS GP r5 bP .nil pass0 (pa_cons (pv 2) (pa_cons (pv 3) pa_nil)))
      (pe_ifExp (pt_cmpR op_gt (pe_callB call_lenD (by rfl) T.len PySem.boot_len (pa_cons (pv 5) pa_nil)) pe_int (nomark _)) (pe_lst (pa_cons (pe_tup (pa_cons (pe_ix ix_tup (pe_ix ix_list (pv 10) pe_int (fun _ _ => rfl)) pe_int (fun _ _ => rfl)) (pa_cons pe_non pa_nil))) pa_nil)) (pe_lst pa_nil)) (nomark _))))))))))), ?_⟩
  obtain ⟨n0, n1, rest, rfl⟩ : ∃ n0 n1 rest, ns = n0 :: n1 :: rest := by
    match ns, two with
    | n0 :: n1 :: rest, _ => exact ⟨n0, n1, rest, rfl⟩
  have sz1 : 1 ≤ sizeLine := by decide
  have sz2 : 2 ≤ sizeLine := by decide
  have sz3 : 3 ≤ sizeLine := by decide
  have sz4 : 4 ≤ sizeLine := by decide
  refine ⟨_, rfl, np, _, _, .str n0, rfl, rfl, SqT.of hN, atI_nat (j := 0) rfl, sz1, fun p1 np1 => ?_⟩
  have sA := same_upd (o := HO.tup [V.str "0"]) np1
  have ec : cutV ((n0 :: n1 :: rest).map V.str) (some (1 : Int)) (some (2 : Int)) = [.str n1] := by
    unfold cutV
    rw [show (1 : Int) = ((1 : Nat) : Int) from rfl, show (2 : Int) = ((2 : Nat) : Int) from rfl, HT.sIx_nat, HT.sIx_nat]
    simp
  refine ⟨_, rfl, (1 : Int), rfl, (2 : Int), rfl, np, _, rfl, SqT.of (sA _ _ hN), fun hc => ?_, fun hc p2 np2 => ?_⟩
  · exfalso
    have := hc.1
    rw [show (1 : Int) = ((1 : Nat) : Int) from rfl, HT.sIx_nat] at this
    simp at this
  rw [ec]
  have sB := same_upd (o := HO.tup [V.str n1]) np2
  refine ⟨p1, p2, _, _, rfl, rfl, SqT.of (sB _ _ upd_same), SqT.of upd_same, List.cons_ne_nil _ _, sz2, (fun e => nomatch e), fun _ p3 np3 => ?_⟩
  have sC := same_upd (o := HO.tup [V.str "0", V.str n1]) np3
  refine ⟨Nat.zero_le _, fun o no => fun sd nsd => ⟨sz4, fun tp ntp => ?_⟩⟩
  have sD := same_upd (o := HO.lst []) no
  have sE := same_upd (o := HO.dK []) nsd
  have sF := same_upd (o := HO.tup [V.str n0, V.ref p3, V.ref o, V.ref sd]) ntp
  refine ⟨tp, _, rfl, SqT.of upd_same, rfl, _, _, rfl, _, _, rfl, _, _, rfl, _, _, rfl, rfl, ?_⟩
  have sAll := ((((sA.trans sB).trans sC).trans sD).trans sE).trans sF
  have hp3 := ((sD.trans sE).trans sF) _ _ (upd_same (a := p3) (o := HO.tup [V.str "0", V.str n1]) (H := upd (upd H p1 (.tup [V.str "0"])) p2 (.tup [V.str n1])))
  have ho := (sE.trans sF) _ _ (upd_same (a := o) (o := HO.lst []) (H := upd (upd (upd H p1 (.tup [V.str "0"])) p2 (.tup [V.str n1])) p3 (.tup [V.str "0", V.str n1])))
  have hsd := sF _ _ (upd_same (a := sd) (o := HO.dK []) (H := upd (upd (upd (upd H p1 (.tup [V.str "0"])) p2 (.tup [V.str n1])) p3 (.tup [V.str "0", V.str n1])) o (.lst [])))
  have no0 : H o = none := ((sA.trans sB).trans sC).free no
  have nsd0 : H sd = none := (((sA.trans sB).trans sC).trans sD).free nsd
  generalize upd (upd (upd (upd (upd (upd H p1 (.tup [V.str "0"])) p2 (.tup [V.str n1])) p3 (.tup [V.str "0", V.str n1])) o (.lst [])) sd (.dK [])) tp (.tup [V.str n0, V.ref p3, V.ref o, V.ref sd]) = H1 at *
  dsimp only
  refine seq_asg ⟨_, rfl, .ref s, rfl, s, _, _, rfl, hS.same sAll, by decide, fun H2 k s2 k0 k1 => ?_⟩
  obtain ⟨r, hat, hr0⟩ : ∃ r : Str, atI [V.str ("0" : Str), V.str n1] k = some (.str r) ∧ (r = "0" ∨ r = n1) := by
    have : k = 0 ∨ k = 1 := by omega
    rcases this with rfl | rfl
    · exact ⟨"0", atI_nat (j := 0) rfl, .inl rfl⟩
    · exact ⟨n1, atI_nat (j := 1) rfl, .inr rfl⟩
  have ne : n0 ≠ r := by
    rcases hr0 with e | e
    · rw [e]
      exact (N.ok n0 List.mem_cons_self).2.1
    · rw [e]
      have := (List.nodup_cons.mp N.nd).1
      exact fun z => this (z ▸ List.mem_cons_self)
  refine ⟨p3, _, _, .str r, rfl, rfl, SqT.of (s2 _ _ hp3), hat, ?_⟩
  refine ⟨.ref s, rfl, s, _, _, rfl, (hS.same sAll).same s2, by decide, fun H3 turns s3 t0 t1 => ?_⟩
  have s13 := s2.trans s3
  refine ⟨_, _, rfl, rfl, _, rfl, by omega, by omega, for_range (lo := 0) (fun i σ H' => ∃ (y6 y7 y8 y9 : Option V) (lh : List (Int × Int)), σ = [some (.ref s), some (.ref np), some (.str n0), some (.str r), some (.ref o), some (.ref sd), y6, y7, y8, y9, none, none, none] ∧ Same H H' ∧ lh.length = i ∧
      (∀ p ∈ lh, -6 ≤ p.1 ∧ p.1 ≤ p.2 ∧ p.2 ≤ 10) ∧ SysO H' o (lh.map fun p => [(n0, r, p.2), (r, n0, 0 - p.1)]) ∧ Seen H' sd (20 * i) fun x => ∃ p ∈ lh, p.1 ≤ x ∧ x ≤ p.2)
    ⟨none, none, none, none, [], rfl, sAll.trans s13, rfl, fun p hp => absurd hp List.not_mem_nil, ⟨[], s13 _ _ ho, rfl, fun l h => absurd h List.not_mem_nil, fun i l R e => nomatch e⟩, ⟨[], s13 _ _ hsd, Nat.zero_le _, fun x => ⟨fun z => (nomatch z), fun ⟨p, hp, _⟩ => absurd hp List.not_mem_nil⟩⟩⟩ ?_ ?_⟩
  · rintro i σ H4 hi ⟨y6, y7, y8, y9, lh, rfl, s4, hlh, hb, hO, hSn⟩
    refine seq_asg ⟨.ref s, rfl, _, rfl, _, _, rfl, rfl, .inl ⟨by decide, by decide⟩, _, _, rfl, rfl, s, _, _, rfl, hS.same s4, by decide, fun H5 k5 s5 a0 a1 => ⟨_, _, rfl, rfl, ?_⟩⟩
    refine seq_asg ⟨_, rfl, .ref s, rfl, _, rfl, _, _, rfl, rfl, .inl ⟨by decide, by decide⟩, _, _, rfl, rfl, s, _, _, rfl, (hS.same s4).same s5, by decide, fun H6 k6 s6 b0 b1 => ⟨_, _, rfl, rfl, ?_⟩⟩
    have hO6 := (hO.same s5).same s6
    have hS6 := (hSn.same s5).same s6
    obtain ⟨ls, o1, o2, _⟩ := id hO6
    refine ⟨.ref o, rfl, .inl ⟨rfl, _, SqL.of o1⟩, _, rfl, _, rfl, _, rfl, sz3, fun u1 nu1 => ⟨_, rfl, _, rfl, _, rfl, _, _, rfl, rfl, sz3, fun u2 nu2 => ⟨sz2, fun u3 nu3 => ?_⟩⟩⟩
    have w1 := same_upd (o := HO.tup [V.str n0, V.str r, V.int (k5 - 6 + k6)]) nu1
    have w2 := same_upd (o := HO.tup [V.str r, V.str n0, V.int (0 - (k5 - 6))]) nu2
    have w3 := same_upd (o := HO.lst [V.ref u1, V.ref u2]) nu3
    have hsys : Sys RowT (upd (upd (upd H6 u1 (.tup [V.str n0, V.str r, V.int (k5 - 6 + k6)])) u2 (.tup [V.str r, V.str n0, V.int (0 - (k5 - 6))])) u3 (.lst [V.ref u1, V.ref u2])) u3 [(n0, r, k5 - 6 + k6), (r, n0, 0 - (k5 - 6))] := by
      refine ⟨[u1, u2], upd_same, rfl, fun i q r' a b => ?_⟩
      match i, a, b with
      | 0, a, b =>
        cases a
        cases b
        exact (w2.trans w3) _ _ upd_same
      | 1, a, b =>
        cases a
        cases b
        exact w3 _ _ upd_same
      | i + 2, a, b => cases a
    have neo : u3 ≠ o := (ne_of_none ((w1.trans w2) _ _ o1) nu3).symm
    have hO7 := hO6.same ((w1.trans w2).trans w3)
    have hS7 := hS6.same ((w1.trans w2).trans w3)
    have s47 := (s4.trans (s5.trans s6)).trans ((w1.trans w2).trans w3)
    generalize upd (upd (upd H6 u1 (.tup [V.str n0, V.str r, V.int (k5 - 6 + k6)])) u2 (.tup [V.str r, V.str n0, V.int (0 - (k5 - 6))])) u3 (.lst [V.ref u1, V.ref u2]) = H7 at *
    obtain ⟨lz, z1, z2, z3⟩ := hO7.snoc neo hsys
    rw [List.length_map] at z2
    refine ⟨o, _, _, rfl, rfl, z1, by rw [List.length_map, z2]; exact small1000 (by omega), ?_⟩
    have hS8 := hS7.off (ys := lz.map V.ref ++ [.ref u3]) z1
    have s48 : Same H (upd H7 o (.lst (lz.map V.ref ++ [.ref u3]))) := s47.later no0
    generalize upd H7 o (.lst (lz.map V.ref ++ [.ref u3])) = H8 at *
    refine ⟨_, rfl, _, rfl, _, _, rfl, rfl, _, _, rfl, by omega, for_range (lo := k5 - 6) (fun j σ H' => ∃ (y9 : Option V), σ = [some (.ref s), some (.ref np), some (.str n0), some (.str r), some (.ref o), some (.ref sd), some (.int (0 + (i : Int))), some (.int (k5 - 6)), some (.int (k5 - 6 + k6)), y9, none, none, none] ∧ Same H H' ∧
        SysO H' o ((lh ++ [(k5 - 6, k5 - 6 + k6)]).map fun p => [(n0, r, p.2), (r, n0, 0 - p.1)]) ∧ Seen H' sd (20 * i + j) fun x => (∃ p ∈ lh, p.1 ≤ x ∧ x ≤ p.2) ∨ (k5 - 6 ≤ x ∧ x < k5 - 6 + j))
      ⟨_, rfl, s48, by rw [List.map_append]; exact z3, hS8.iff fun x => ⟨.inl, fun z => z.elim id fun ⟨a, b⟩ => by omega⟩⟩ ?_ ?_⟩
    · rintro j σ H9 hj ⟨y9, rfl, s9, hO9, hS9⟩
      obtain ⟨kvs, kvs', v1, v2, v3⟩ := hS9.put (Nat.lt_of_lt_of_le (show 20 * i + j < 1000 by omega) (by decide)) (k5 - 6 + (j : Int)) (.bl true)
      refine ⟨.ref sd, rfl, _, rfl, sd, _, rfl, v2, _, rfl, s9.later nsd0, hO9.offD v1, ?_⟩
      refine (show Seen _ sd (20 * i + (j + 1)) _ from v3).iff fun x => ?_
      constructor
      · rintro ((z | z) | z)
        · exact .inl z
        · exact .inr ⟨z.1, by omega⟩
        · exact .inr ⟨by omega, by omega⟩
      · rintro (z | z)
        · exact .inl (.inl z)
        · by_cases e : x = k5 - 6 + j
          · exact .inr e
          · exact .inl (.inr ⟨z.1, by omega⟩)
    · rintro σ H9 ⟨y9, rfl, s9, hO9, ⟨kvs, v1, v2, v3⟩⟩
      refine ⟨_, _, _, _, lh ++ [(k5 - 6, k5 - 6 + k6)], rfl, s9, by rw [List.length_append, hlh]; rfl, fun p hp => ?_, hO9, kvs, v1, by omega, fun x => (v3 x).trans ?_⟩
      · rcases List.mem_append.mp hp with m | m
        · exact hb p m
        · rw [List.mem_singleton.mp m]
          exact ⟨by show -6 ≤ k5 - 6; omega, by show k5 - 6 ≤ k5 - 6 + k6; omega, by show k5 - 6 + k6 ≤ 10; omega⟩
      · constructor
        · rintro (⟨p, hp, z⟩ | z)
          · exact ⟨p, List.mem_append_left _ hp, z⟩
          · exact ⟨_, List.mem_append_right _ (List.mem_singleton.mpr rfl), z.1, by show x ≤ k5 - 6 + k6; omega⟩
        · rintro ⟨p, hp, z⟩
          rcases List.mem_append.mp hp with m | m
          · exact .inl ⟨p, m, z⟩
          · rw [List.mem_singleton.mp m] at z
            exact .inr ⟨z.1, by have := z.2; dsimp only at this; omega⟩
  · rintro σ H4 ⟨y6, y7, y8, y9, lh, rfl, s4, hlh, hb, hO, hSn⟩
    have bound : ∀ x, (∃ p ∈ lh, p.1 ≤ x ∧ x ≤ p.2) → -6 ≤ x ∧ x ≤ 10 := fun x ⟨p, hp, h1, h2⟩ => by
      obtain ⟨b1, b2, b3⟩ := hb p hp
      omega
    have lh2 : lh.length ≤ 5 := by omega
    have lh1 : 2 ≤ lh.length := by omega
    refine ⟨Nat.zero_le _, fun dl0 ndl0 => ⟨_, _, rfl, ?_⟩⟩
    have sD0 := same_upd (o := HO.lst []) ndl0
    refine ⟨_, rfl, _, _, rfl, by decide, for_range (lo := -7) (fun i σ H' => ∃ (y9 : Option V) (due : List (Int × Int)) (start : Option Int) (dl : Addr), σ = [some (.ref s), some (.ref np), some (.str n0), some (.str r), some (.ref o), some (.ref sd), y6, y7, y8, y9, some (.ref dl), some (oV start), none] ∧ Same H H' ∧
        SysO H' o (lh.map fun p => [(n0, r, p.2), (r, n0, 0 - p.1)]) ∧ Seen H' sd (20 * (2 + turns).toNat) (fun x => ∃ p ∈ lh, p.1 ≤ x ∧ x ≤ p.2) ∧ StrL H' dl (ivs due) ∧ DueI (fun x => ∃ p ∈ lh, p.1 ≤ x ∧ x ≤ p.2) (-7 + (i : Int)) due start ∧ due.length ≤ i)
      ⟨_, [], none, dl0, rfl, s4.trans sD0, hO.same sD0, hSn.same sD0, ⟨[], upd_same, rfl, fun i t p a => nomatch a⟩, DueI.init (fun x hx => by have := bound x hx; omega), Nat.zero_le _⟩ ?_ ?_⟩
    · rintro i σ H5 hi ⟨y9, due, start, dl, rfl, s5, hO5, hS5, hD5, hI, hlen⟩
      obtain ⟨od, dg, hod⟩ := hS5.get (-7 + (i : Int))
      have enx : (-7 : Int) + ((i + 1 : Nat) : Int) = -7 + (i : Int) + 1 := by omega
      rw [enx]
      cases od with
      | some v =>
        have hs := hod.mp rfl
        cases start with
        | none =>
          refine ⟨_, rfl, _, rfl, sd, _, rfl, dg, _, rfl, iteT ⟨_, rfl, rfl, _, rfl, iteT ⟨_, rfl, ?_⟩⟩⟩
          exact ⟨_, rfl, _, rfl, sd, _, rfl, dg, _, rfl, iteF (iteF ⟨_, due, some (-7 + (i : Int)), dl, rfl, s5, hO5, hS5, hD5, hI.opens hs, by omega⟩)⟩
        | some st =>
          refine ⟨_, rfl, _, rfl, sd, _, rfl, dg, _, rfl, iteT ⟨_, rfl, rfl, _, rfl, iteF ?_⟩⟩
          exact ⟨_, rfl, _, rfl, sd, _, rfl, dg, _, rfl, iteF (iteF ⟨_, due, some st, dl, rfl, s5, hO5, hS5, hD5, hI.go hs, by omega⟩)⟩
      | none =>
        have hs : ¬ ∃ p ∈ lh, p.1 ≤ -7 + (i : Int) ∧ -7 + (i : Int) ≤ p.2 := fun z => by
          have := hod.mpr z
          cases this
        cases start with
        | none =>
          refine ⟨_, rfl, _, rfl, sd, _, rfl, dg, _, rfl, iteF (iteF ?_)⟩
          exact ⟨_, rfl, _, rfl, sd, _, rfl, dg, _, rfl, iteT ⟨_, rfl, rfl, _, rfl, iteF ⟨_, due, none, dl, rfl, s5, hO5, hS5, hD5, hI.skip hs, by omega⟩⟩⟩
        | some st =>
          refine ⟨_, rfl, _, rfl, sd, _, rfl, dg, _, rfl, iteF (iteF ?_)⟩
          obtain ⟨ds, d1, d2, d3⟩ := hD5
          refine ⟨_, rfl, _, rfl, sd, _, rfl, dg, _, rfl, iteT ⟨_, rfl, rfl, _, rfl, iteT ⟨_, rfl, _, rfl, _, rfl, _, _, rfl, rfl, sz2, fun u1 nu1 => ⟨sz1, fun m nm => ?_⟩⟩⟩⟩
          have sU := same_upd (o := HO.tup [V.int st, V.int (-7 + (i : Int) - 1)]) nu1
          have sM := same_upd (o := HO.lst [V.ref u1]) nm
          have dlen : ds.length = due.length := by rw [d2]; exact List.length_map _
          refine ⟨dl, m, _, _, rfl, rfl, (sU.trans sM) _ _ d1, upd_same, ?_, fun e2 ne2 => ⟨_, _, rfl, ?_⟩⟩
          · rw [List.length_map, dlen]
            exact Nat.le_of_lt (small1000 (by show due.length + 1 ≤ 1000; omega))
          have sN := same_upd (o := HO.lst (ds.map V.ref ++ [V.ref u1])) ne2
          have sUN := (sU.trans sM).trans sN
          refine ⟨_, due ++ [(st, -7 + (i : Int) - 1)], none, e2, rfl, s5.trans sUN, hO5.same sUN, hS5.same sUN, ?_, hI.close hs, by rw [List.length_append]; show due.length + 1 ≤ i + 1; omega⟩
          rw [show ivs (due ++ [(st, -7 + (i : Int) - 1)]) = ivs due ++ [(some st, some (-7 + (i : Int) - 1))] from List.map_append]
          exact strL_cat upd_same d2 (fun i t p a b => sUN _ _ (d3 i t p a b)) ((sM.trans sN) _ _ upd_same)
    · rintro σ H5 ⟨y9, due, start, dl, rfl, s5, hO5, hS5, hD5, hI, hlen⟩
      have tells := hI.fin (fun x hx => by have := bound x hx; show x < -7 + ((20 : Nat) : Int) - 1; omega)
      have sideN : SideR (n0 :: n1 :: rest) n0 := List.mem_cons_of_mem _ List.mem_cons_self
      have sideR : SideR (n0 :: n1 :: rest) r := by
        rcases hr0 with e | e
        · exact e ▸ List.mem_cons_self
        · exact e ▸ List.mem_cons_of_mem _ (List.mem_cons_of_mem _ List.mem_cons_self)
      have good : ∀ R ∈ (lh.map fun p => [(n0, r, p.2), (r, n0, 0 - p.1)]), Good R ∧ ∀ q ∈ R, In2 (n0 :: n1 :: rest) q := fun R hR => by
        obtain ⟨p, hp, rfl⟩ := List.mem_map.mp hR
        refine ⟨⟨fun q hq => ?_, by show 2 ≤ 100; omega⟩, fun q hq => ?_⟩
        · rcases List.mem_cons.mp hq with e | e
          · rw [e]
            exact ⟨ne, N.side sideN, N.side sideR⟩
          · rw [List.mem_singleton.mp e]
            exact ⟨ne.symm, N.side sideR, N.side sideN⟩
        · rcases List.mem_cons.mp hq with e | e
          · rw [e]
            exact ⟨sideN, sideR⟩
          · rw [List.mem_singleton.mp e]
            exact ⟨sideR, sideN⟩
      have sat : ∀ R ∈ (lh.map fun p => [(n0, r, p.2), (r, n0, 0 - p.1)]), ∃ v, Sat R v := fun R hR => by
        obtain ⟨p, hp, rfl⟩ := List.mem_map.mp hR
        obtain ⟨b1, b2, b3⟩ := hb p hp
        obtain ⟨u, hu', _⟩ := (two_has ne (lo := p.1) (hi := p.2) (x := p.1)).mpr ⟨Int.le_refl _, b2⟩
        exact ⟨u, hu'⟩
      have all : (lh.map fun p => [(n0, r, p.2), (r, n0, 0 - p.1)]).filter satB = lh.map fun p => [(n0, r, p.2), (r, n0, 0 - p.1)] := List.filter_eq_self.mpr fun R hR => satB_iff.mpr (sat R hR)
      refine ⟨_, rfl, _, rfl, fun x dx nx ndx nex => ?_⟩
      have sX1 := same_upd (o := HO.own x) ndx
      have nx1 : upd H5 dx (.own x) x = none := by
        rw [upd_ne (Ne.symm nex)]
        exact nx
      have sX := sX1.trans (same_upd (o := HO.ins C dx []) nx1)
      refine ⟨x, np, o, dx, n0 :: n1 :: rest, _, rfl, upd_same, SqT.of (sX _ _ (s5 _ _ hN)), N, (hO5.same sX).syss, by rw [List.length_map]; omega, good, fun H7 np' tl keep RA => ⟨rfl, ?_⟩⟩
      rw [all] at RA
      have s7 : Same H5 H7 := sX1.trans (same_new nx1 fun b u e nb => keep b u (by rw [upd_ne nb]; exact e) nb)
      obtain ⟨⟨dx', hx⟩, hn, hT⟩ := id RA
      refine ⟨_, rfl, x, dx', _, rfl, hx, rfl, _, rfl, _, rfl, x, np', tl, n0 :: n1 :: rest, _, _, n0, r, rfl, RA, N, sideN, sideR, by rw [List.length_map]; omega, fun H8 q8 Ls s8 nq8 pm srt hL8 => ?_⟩
      obtain ⟨can8, told8⟩ := sprd_told sat pm srt
      have eL : sprd Ls = ivs due := canon_one _ _ can8 hI.can fun x => by
        refine (told8 x).trans (Iff.trans ?_ (tells x).symm)
        constructor
        · rintro ⟨R, hR, hx⟩
          obtain ⟨p, hp, rfl⟩ := List.mem_map.mp hR
          exact ⟨p, hp, (two_has ne).mp hx⟩
        · rintro ⟨p, hp, hx⟩
          exact ⟨_, List.mem_map.mpr ⟨p, hp, rfl⟩, (two_has ne).mpr hx⟩
      rw [eL] at hL8
      have s58 := s7.trans s8
      refine ⟨_, rfl, _, _, dp_strL hL8, dp_strL (hD5.same s58), shaped_str _, shaped_str _, _, rfl, ?_⟩
      rw [eqv_str]
      refine iteF ?_
      -- the first of the stretches
      obtain ⟨p0, hp0⟩ : ∃ p0, p0 ∈ lh := by
        cases lh with
        | nil => cases lh1
        | cons a _ => exact ⟨a, List.mem_cons_self⟩
      have seen0 : ∃ p ∈ lh, p.1 ≤ p0.1 ∧ p0.1 ≤ p.2 := ⟨p0, hp0, Int.le_refl _, (hb p0 hp0).2.1⟩
      obtain ⟨d, due', rfl⟩ : ∃ d due', due = d :: due' := by
        cases due with
        | nil =>
          obtain ⟨p, hp, _⟩ := (tells p0.1).mpr seen0
          exact absurd hp List.not_mem_nil
        | cons d due' => exact ⟨d, due', rfl⟩
      obtain ⟨fst, least⟩ := hI.first (fun x hx => by have := bound x hx; show x < -7 + ((20 : Nat) : Int) - 1; omega)
      have hD8 := hD5.same s58
      have hO8 := hO5.same s58
      have hS8 := hS5.same s58
      obtain ⟨ds, d1, d2, d3⟩ := id hD8
      obtain ⟨t0', ds', rfl⟩ : ∃ t0' ds', ds = t0' :: ds' := by
        cases ds with
        | nil => cases d2
        | cons a b => exact ⟨a, b, rfl⟩
      have ht0 : H8 t0' = some (.tup [.int d.1, .int d.2]) := d3 0 t0' (some d.1, some d.2) rfl rfl
      obtain ⟨ls, o1, o2, _⟩ := id hO8
      refine ⟨.ref o, rfl, .inl ⟨rfl, _, SqL.of o1⟩, _, rfl, _, rfl, _, rfl, dl, _, _, .ref t0', rfl, rfl, SqL.of d1, atI_nat (j := 0) rfl, t0', _, _, .int d.1, rfl, rfl, SqT.of ht0, atI_nat (j := 0) rfl, _, _, rfl, rfl, _, _, rfl, rfl, sz3, fun u1 nu1 => ⟨sz1, fun u2 nu2 => ?_⟩⟩
      have w1 := same_upd (o := HO.tup [V.str r, V.str n0, V.int (0 - d.1 - 1)]) nu1
      have w2 := same_upd (o := HO.lst [V.ref u1]) nu2
      have hsys : Sys RowT (upd (upd H8 u1 (.tup [V.str r, V.str n0, V.int (0 - d.1 - 1)])) u2 (.lst [V.ref u1])) u2 [(r, n0, 0 - (d.1 + 1))] := by
        refine ⟨[u1], upd_same, rfl, fun i q r' a b => ?_⟩
        match i, a, b with
        | 0, a, b =>
          cases a
          cases b
          show _ = some (HO.tup [V.str r, V.str n0, V.int (0 - (d.1 + 1))])
          rw [show 0 - (d.1 + 1) = 0 - d.1 - 1 by omega]
          exact w2 _ _ upd_same
        | i + 1, a, b => cases a
      have neo : u2 ≠ o := (ne_of_none (w1 _ _ o1) nu2).symm
      have w12 := w1.trans w2
      have hO9 := hO8.same w12
      have hS9 := hS8.same w12
      have hD9 := hD8.same w12
      have s9 := (s5.trans s58).trans w12
      have d1' := w12 _ _ d1
      have ht9 := w12 _ _ ht0
      generalize upd (upd H8 u1 (.tup [V.str r, V.str n0, V.int (0 - d.1 - 1)])) u2 (.lst [V.ref u1]) = H9 at *
      obtain ⟨lz, z1, z2, z3⟩ := hO9.snoc neo hsys
      rw [List.length_map] at z2
      refine ⟨o, _, _, rfl, rfl, z1, by rw [List.length_map, z2]; exact small1000 (by omega), ?_⟩
      have hS10 := hS9.off (ys := lz.map V.ref ++ [.ref u2]) z1
      have s10 : Same H (upd H9 o (.lst (lz.map V.ref ++ [.ref u2]))) := s9.later no0
      have dne : dl ≠ o := by
        intro e
        obtain ⟨lq, q1, q2, q3, q4⟩ := id hO9
        rw [← e, d1'] at q1
        cases lh with
        | nil => cases hp0
        | cons pz lh' =>
          cases lq with
          | nil => cases q2
          | cons a b =>
            have e1 : HO.lst ((t0' :: ds').map V.ref) = HO.lst ((a :: b).map V.ref) := Option.some.inj q1
            injection e1 with e2
            injection e2 with e3 e4
            injection e3 with e5
            obtain ⟨ps, g1, _⟩ := q4 0 a _ rfl rfl
            rw [← e5, ht9] at g1
            cases g1
      have d10 : upd H9 o (.lst (lz.map V.ref ++ [.ref u2])) dl = some (.lst ((t0' :: ds').map V.ref)) := by
        rw [upd_ne dne]
        exact d1'
      have ht10 : upd H9 o (.lst (lz.map V.ref ++ [.ref u2])) t0' = some (.tup [.int d.1, .int d.2]) := by
        rw [upd_ne (ne_of ht9 z1 (by intro y; cases y))]
        exact ht9
      obtain ⟨kvs, l1, l2⟩ := hS10.len0 seen0
      generalize upd H9 o (.lst (lz.map V.ref ++ [.ref u2])) = H10 at *
      have good2 : ∀ R ∈ (lh.map fun p => [(n0, r, p.2), (r, n0, 0 - p.1)]) ++ [[(r, n0, 0 - (d.1 + 1))]], Good R ∧ ∀ q ∈ R, In2 (n0 :: n1 :: rest) q := fun R hR => by
        rcases List.mem_append.mp hR with m | m
        · exact good R m
        · rw [List.mem_singleton.mp m]
          refine ⟨⟨fun q hq => ?_, by show 1 ≤ 100; omega⟩, fun q hq => ?_⟩
          · rw [List.mem_singleton.mp hq]
            exact ⟨ne.symm, N.side sideR, N.side sideN⟩
          · rw [List.mem_singleton.mp hq]
            exact ⟨sideR, sideN⟩
      have sat2 : ∀ R ∈ (lh.map fun p => [(n0, r, p.2), (r, n0, 0 - p.1)]) ++ [[(r, n0, 0 - (d.1 + 1))]], ∃ v, Sat R v := fun R hR => by
        rcases List.mem_append.mp hR with m | m
        · exact sat R m
        · rw [List.mem_singleton.mp m]
          obtain ⟨u, hu', _⟩ := (one_has ne (lo := d.1 + 1) (x := d.1 + 1)).mpr (Int.le_refl _)
          exact ⟨u, hu'⟩
      have all2 : ((lh.map fun p => [(n0, r, p.2), (r, n0, 0 - p.1)]) ++ [[(r, n0, 0 - (d.1 + 1))]]).filter satB = (lh.map fun p => [(n0, r, p.2), (r, n0, 0 - p.1)]) ++ [[(r, n0, 0 - (d.1 + 1))]] := List.filter_eq_self.mpr fun R hR => satB_iff.mpr (sat2 R hR)
      have len2 : ((lh.map fun p => [(n0, r, p.2), (r, n0, 0 - p.1)]) ++ [[(r, n0, 0 - (d.1 + 1))]]).length ≤ 100 := by
        rw [List.length_append, List.length_map]
        show lh.length + 1 ≤ 100
        omega
      refine ⟨_, rfl, _, rfl, fun x2 dx2 nx2 ndx2 nex2 => ?_⟩
      have sY1 := same_upd (o := HO.own x2) ndx2
      have ny1 : upd H10 dx2 (.own x2) x2 = none := by
        rw [upd_ne (Ne.symm nex2)]
        exact nx2
      have sY := sY1.trans (same_upd (o := HO.ins C dx2 []) ny1)
      refine ⟨x2, np, o, dx2, n0 :: n1 :: rest, _, rfl, upd_same, SqT.of (sY _ _ (s10 _ _ hN)), N, (z3.same sY).syss, len2, good2, fun H11 np2 tl2 keep2 RA2 => ?_⟩
      rw [all2] at RA2
      have s11 : Same H10 H11 := sY1.trans (same_new ny1 fun b u e nb => keep2 b u (by rw [upd_ne nb]; exact e) nb)
      obtain ⟨⟨dx3, hx2⟩, _, _⟩ := id RA2
      refine ⟨rfl, x2, dx3, _, rfl, hx2, rfl, _, rfl, _, rfl, x2, np2, tl2, n0 :: n1 :: rest, _, _, n0, r, rfl, RA2, N, sideN, sideR, len2, fun H12 q12 L2s s12 nq12 pm2 srt2 hL12 => ?_⟩
      obtain ⟨can12, told12⟩ := sprd_told sat2 pm2 srt2
      have canH : CanonA [((some d.1, none) : Iv)] := ⟨fun p hp => by
        rw [List.mem_singleton.mp hp]
        intro a b e1 e2
        exact (nomatch e2), List.pairwise_singleton _ _⟩
      have eL2 : sprd L2s = [((some d.1, none) : Iv)] := canon_one _ _ can12 canH fun x => by
        refine (told12 x).trans ?_
        constructor
        · rintro ⟨R, hR, hx⟩
          refine ⟨_, List.mem_singleton.mpr rfl, fun k e => ?_, fun k e => nomatch e⟩
          cases e
          rcases List.mem_append.mp hR with m | m
          · obtain ⟨p, hp, rfl⟩ := List.mem_map.mp m
            exact least x ⟨p, hp, (two_has ne).mp hx⟩
          · rw [List.mem_singleton.mp m] at hx
            have := (one_has ne).mp hx
            omega
        · rintro ⟨p, hp, hx⟩
          rw [List.mem_singleton.mp hp] at hx
          have h0 : d.1 ≤ x := hx.1 d.1 rfl
          by_cases e : x = d.1
          · subst e
            obtain ⟨p, hp, hx⟩ := fst
            exact ⟨_, List.mem_append_left _ (List.mem_map.mpr ⟨p, hp, rfl⟩), (two_has ne).mpr hx⟩
          · exact ⟨_, List.mem_append_right _ (List.mem_singleton.mpr rfl), (one_has ne).mpr (by omega)⟩
      rw [eL2] at hL12
      have s1012 := s11.trans s12
      refine ⟨.ref sd, rfl, sd, kvs, rfl, s1012 _ _ l1, _, _, rfl, rfl, _, rfl, ?_⟩
      have pos : decide ((0 : Int) < (kvs.length : Int)) = true := decide_eq_true (by omega)
      rw [pos]
      refine iteT ⟨_, rfl, dl, _, _, .ref t0', rfl, rfl, SqL.of (s1012 _ _ d10), atI_nat (j := 0) rfl, t0', _, _, .int d.1, rfl, rfl, SqT.of (s1012 _ _ ht10), atI_nat (j := 0) rfl, sz2, fun v1 nv1 => ⟨sz1, fun v2 nv2 => ?_⟩⟩
      have y1 := same_upd (o := HO.tup [V.int d.1, V.non]) nv1
      have y2 := same_upd (o := HO.lst [V.ref v1]) nv2
      have hN1 : StrL (upd (upd H12 v1 (.tup [V.int d.1, V.non])) v2 (.lst [V.ref v1])) v2 [((some d.1, none) : Iv)] :=
        ⟨[v1], upd_same, rfl, fun i t p a b => by
          match i, a, b with
          | 0, a, b =>
            cases a
            cases b
            exact y2 _ _ upd_same
          | i + 1, a, b => cases a⟩
      refine ⟨_, _, dp_strL (hL12.same (y1.trans y2)), dp_strL hN1, shaped_str _, shaped_str _, ?_⟩
      rw [eqv_str]
      exact q _ ((s10.trans s1012).trans (y1.trans y2))
end
end Lo
namespace Lo
open PySem L2
/-- a comprehension over reversed(l) -/
theorem lc_rev {K : PySem.W.Frag} {a : Addr} {xs : List V} {g : TG} {tt : TT} {te : TE} {vs : List Nat} {σ : St} {H1 : Hp} {D : Addr} {Qd : Hp → Prop} (Pv : Nat → Hp → Prop) (h0 : Pv 0 (upd H1 D (.lst []))) (hl : ∀ i H, i ≤ xs.length → Pv i H → SqL K H a xs)
    (hs : ∀ i x H, i < xs.length → xs[xs.length - 1 - i]? = some x → Pv i H → g x (wipe σ vs) H fun σ2 H2 => wipe σ2 vs = wipe σ vs ∧ tt σ2 H2 fun b H3 =>
      if b = true then te σ2 H3 fun y H4 => ∃ acc, H4 D = some (.lst acc) ∧ acc.length < sizeLine ∧ Pv (i + 1) (upd H4 D (.lst (acc ++ [y]))) else Pv (i + 1) H3) (hd : ∀ H, Pv xs.length H → Qd H) :
    ∃ W : Nat → Nat → Hp → Prop, (∃ m, W 0 m (upd H1 D (.lst []))) ∧ ∀ i m H, W i m H →
      ((Itv K a xs.length).stop i H ∧ Qd H) ∨ ((Itv K a xs.length).go i H ∧ ∃ Nx : Hp → Prop, (∀ H', Nx H' → ∃ m', m' < m ∧ W (i + 1) m' H') ∧ ∀ x H', (Itv K a xs.length).yld i H x H' → g x (wipe σ vs) H' fun σ2 H2 => wipe σ2 vs = wipe σ vs ∧ tt σ2 H2 fun b H3 =>
        if b = true then te σ2 H3 fun y H4 => ∃ acc, H4 D = some (.lst acc) ∧ acc.length < sizeLine ∧ Nx (upd H4 D (.lst (acc ++ [y]))) else Nx H3) := by
  refine ⟨fun i m H => m = xs.length - i ∧ i ≤ xs.length ∧ Pv i H, ⟨xs.length, by simp, Nat.zero_le _, h0⟩, ?_⟩
  rintro i m H ⟨rfl, hi, p⟩
  have q := hl i H hi p
  by_cases hlt : i < xs.length
  · refine .inr ⟨⟨hlt, xs, xs[xs.length - 1 - i]'(by omega), q, List.getElem?_eq_getElem (by omega)⟩, Pv (i + 1), fun H' p' => ⟨xs.length - (i + 1), by omega, rfl, hlt, p'⟩, fun x H' y => ?_⟩
    obtain ⟨e, y⟩ := y
    subst e
    exact hs i x _ hlt (y xs q) p
  · have e : i = xs.length := by omega
    subst e
    exact .inl ⟨Nat.le_refl _, hd H p⟩
/-! ### the pairs that a hull tells of -/
noncomputable def prOne (Rs : List (List SRow)) (l r : Str) : List (Str × Str) := if l ≠ r ∧ allB Rs l r = true then [(l, r)] else []
noncomputable def prRow (Rs : List (List SRow)) (l : Str) (rs : List Str) : List (Str × Str) := rs.flatMap fun r => prOne Rs l r
noncomputable def prAll (Rs : List (List SRow)) (ls es : List Str) : List (Str × Str) := ls.flatMap fun l => prRow Rs l es
noncomputable def hv (Rs : List (List SRow)) (p : Str × Str) : Int := maxL (Rs.map fun R => limD R p.1 p.2)
theorem prOne_mem {Rs : List (List SRow)} {l r : Str} {p : Str × Str} : p ∈ prOne Rs l r ↔ p = (l, r) ∧ l ≠ r ∧ allB Rs l r = true := by
  unfold prOne
  split
  · rename_i c
    exact ⟨fun h => ⟨List.mem_singleton.mp h, c⟩, fun h => List.mem_singleton.mpr h.1⟩
  · rename_i c
    exact ⟨fun h => absurd h List.not_mem_nil, fun h => absurd h.2 c⟩
theorem prRow_mem {Rs : List (List SRow)} {l : Str} {rs : List Str} {p : Str × Str} : p ∈ prRow Rs l rs ↔ p.1 = l ∧ p.2 ∈ rs ∧ p.1 ≠ p.2 ∧ allB Rs p.1 p.2 = true := by
  unfold prRow
  rw [List.mem_flatMap]
  constructor
  · rintro ⟨r, hr, h⟩
    obtain ⟨rfl, a, b⟩ := prOne_mem.mp h
    exact ⟨rfl, hr, a, b⟩
  · rintro ⟨rfl, h2, h3, h4⟩
    exact ⟨p.2, h2, prOne_mem.mpr ⟨rfl, h3, h4⟩⟩
theorem prAll_mem {Rs : List (List SRow)} {ls es : List Str} {p : Str × Str} : p ∈ prAll Rs ls es ↔ p.1 ∈ ls ∧ p.2 ∈ es ∧ p.1 ≠ p.2 ∧ allB Rs p.1 p.2 = true := by
  unfold prAll
  rw [List.mem_flatMap]
  constructor
  · rintro ⟨l, hl, h⟩
    obtain ⟨rfl, a, b, c⟩ := prRow_mem.mp h
    exact ⟨hl, a, b, c⟩
  · rintro ⟨h1, h2, h3, h4⟩
    exact ⟨p.1, h1, prRow_mem.mpr ⟨rfl, h2, h3, h4⟩⟩
theorem hullOne_pr (Rs : List (List SRow)) (l r : Str) : hullOne Rs l r = (prOne Rs l r).map fun p => (p.1, p.2, hv Rs p) := by
  unfold hullOne prOne
  split <;> rfl
theorem hullRow_pr (Rs : List (List SRow)) (l : Str) : ∀ rs : List Str, hullRow Rs l rs = (prRow Rs l rs).map fun p => (p.1, p.2, hv Rs p)
  | [] => rfl
  | r :: rs => by
    have ih := hullRow_pr Rs l rs
    unfold hullRow prRow at ih ⊢
    rw [List.flatMap_cons, List.flatMap_cons, List.map_append, ih, hullOne_pr]
theorem hullLs_pr (Rs : List (List SRow)) (es : List Str) : ∀ ls : List Str, (ls.flatMap fun l => hullRow Rs l es) = (prAll Rs ls es).map fun p => (p.1, p.2, hv Rs p)
  | [] => rfl
  | l :: ls => by
    have ih := hullLs_pr Rs es ls
    unfold prAll at ih ⊢
    rw [List.flatMap_cons, List.flatMap_cons, List.map_append, ih, hullRow_pr]
theorem hullAll_pr (Rs : List (List SRow)) (es : List Str) : hullAll Rs es = (prAll Rs es es).map fun p => (p.1, p.2, hv Rs p) := hullLs_pr Rs es es
theorem prOne_nd (Rs : List (List SRow)) (l r : Str) : (prOne Rs l r).Nodup := by
  unfold prOne
  split
  · exact List.nodup_cons.mpr ⟨List.not_mem_nil, List.nodup_nil⟩
  · exact List.nodup_nil
theorem prRow_nd (Rs : List (List SRow)) (l : Str) : ∀ {rs : List Str}, rs.Nodup → (prRow Rs l rs).Nodup
  | [], _ => List.nodup_nil
  | r :: rs, h => by
    obtain ⟨h1, h2⟩ := List.nodup_cons.mp h
    show (prOne Rs l r ++ prRow Rs l rs).Nodup
    refine List.nodup_append.mpr ⟨prOne_nd Rs l r, prRow_nd Rs l h2, fun a ha b hb e => ?_⟩
    subst e
    obtain ⟨rfl, _⟩ := prOne_mem.mp ha
    exact h1 (prRow_mem.mp hb).2.1
theorem prAll_nd (Rs : List (List SRow)) {es : List Str} (he : es.Nodup) : ∀ {ls : List Str}, ls.Nodup → (prAll Rs ls es).Nodup
  | [], _ => List.nodup_nil
  | l :: ls, h => by
    obtain ⟨h1, h2⟩ := List.nodup_cons.mp h
    show (prRow Rs l es ++ prAll Rs ls es).Nodup
    refine List.nodup_append.mpr ⟨prRow_nd Rs l he, prAll_nd Rs he h2, fun a ha b hb e => ?_⟩
    subst e
    exact h1 ((prRow_mem.mp ha).1 ▸ (prAll_mem.mp hb).1)
theorem prAll_len (Rs : List (List SRow)) {es es' : List Str} (n1 : es.Nodup) (n2 : es'.Nodup) (e : ∀ x, x ∈ es ↔ x ∈ es') : (prAll Rs es es).length = (prAll Rs es' es').length := by
  have h : ∀ {a b : List Str}, a.Nodup → b.Nodup → (∀ x, x ∈ a ↔ x ∈ b) → (prAll Rs a a).length ≤ (prAll Rs b b).length := fun {a b} na nb e => by
    refine nodup_le _ _ (prAll_nd Rs na na) fun p hp => ?_
    obtain ⟨h1, h2, h3⟩ := prAll_mem.mp hp
    exact prAll_mem.mpr ⟨(e _).mp h1, (e _).mp h2, h3⟩
  exact Nat.le_antisymm (h n1 n2 e) (h n2 n1 fun x => (e x).symm)
theorem take_out {es : List Str} (h : es.Nodup) {i : Nat} (hi : i < es.length) : es[i] ∉ es.take i := fun m => by
  obtain ⟨j, hj, e⟩ := List.getElem_of_mem m
  rw [List.length_take] at hj
  rw [List.getElem_take] at e
  have := (List.getElem_inj h).mp e
  omega
theorem mir_has {R : List SRow} {l r : Str} {x : Int} : hasV R r l x ↔ hasV R l r (-x) := by
  constructor
  · rintro ⟨u, hu, e⟩
    exact ⟨u, hu, by omega⟩
  · rintro ⟨u, hu, e⟩
    exact ⟨u, hu, by omega⟩
theorem cut_take {xs : List V} {k : Nat} : cutV xs none (some ((k : Nat) : Int)) = xs.take k := by
  unfold cutV
  rw [HT.sIx_nat, HT.sIx_none, List.drop_zero, Nat.sub_zero]
  by_cases h : k ≤ xs.length
  · rw [Nat.min_eq_left h]
  · rw [Nat.min_eq_right (by omega), List.take_of_length_le (Nat.le_refl _), List.take_of_length_le (by omega)]
theorem names_of_pool {xs : List Str} (h : xs ∈ pools) {k : Nat} (h2 : 2 ≤ k) (h4 : k ≤ 4) : Names (xs.take k) := by
  have l := pools_len xs h
  refine ⟨by rw [List.length_take]; omega, by rw [List.length_take]; omega, (List.take_sublist k xs).nodup (pools_nd xs h), fun x hx => pools_ok xs h x (List.mem_of_mem_take hx)⟩
theorem Names.toR {ns : List Str} (N : Names ns) : NamesR ns := ⟨N.few, N.nd, fun x hx => ⟨(N.ok x hx).1, (N.ok x hx).2.1, (N.ok x hx).2.2.2.2⟩⟩
theorem pick_at {es : List Str} {k : Int} (h0 : 0 ≤ k) (h1 : k < (((es.map V.str).length : Nat) : Int)) : ∃ x, atI (es.map V.str) k = some (.str x) ∧ x ∈ es := by
  rw [List.length_map] at h1
  obtain ⟨j, rfl⟩ : ∃ j : Nat, k = (j : Nat) := ⟨k.toNat, by omega⟩
  have hj : j < es.length := by omega
  exact ⟨es[j], atI_nat (by rw [List.getElem?_map, List.getElem?_eq_getElem hj]; rfl), List.getElem_mem hj⟩
theorem told_all {Ss : List (List SRow)} {l r : Str} {x : Int} : (∃ R ∈ Ss.filter satB, hasV R l r x) ↔ ∃ R ∈ Ss, hasV R l r x := by
  constructor
  · rintro ⟨R, hR, h⟩
    exact ⟨R, (List.mem_filter.mp hR).1, h⟩
  · rintro ⟨R, hR, u, hu, e⟩
    exact ⟨R, List.mem_filter.mpr ⟨hR, satB_iff.mpr ⟨u, hu⟩⟩, u, hu, e⟩
theorem sprd_len (Ls : List Iv) : (sprd Ls).length ≤ Ls.length := by
  unfold sprd
  rw [List.length_reverse]
  have h := fold_len Ls []
  have e : ([] : List Iv).length = 0 := rfl
  omega
theorem oV_neg {x : Option Int} {H : Hp} {Q : VK} (q : Q (oV (x.map fun k => -k)) H) : (if decide (oV x = V.non) = true then Q .non H else ∃ i j : Int, V.int 0 = .int i ∧ oV x = .int j ∧ Q (.int (i - j)) H) := by
  cases x with
  | none => exact q
  | some k =>
    refine ⟨0, k, rfl, rfl, ?_⟩
    rw [show (0 : Int) - k = -k by omega]
    exact q
theorem pickT {xs : List Str} {i : Nat} {z : V} (hi : (xs.map V.str)[i]? = some z) : ∃ (h : i < xs.length), z = .str xs[i] ∧ xs.take (i + 1) = xs.take i ++ [xs[i]] ∧ xs[i] ∈ xs := by
  have hi1 : i < xs.length := by
    have := (List.getElem?_eq_some_iff.mp hi).1
    rw [List.length_map] at this
    exact this
  refine ⟨hi1, ?_, by rw [List.take_add_one, List.getElem?_eq_getElem hi1]; rfl, List.getElem_mem hi1⟩
  rw [List.getElem?_map, List.getElem?_eq_getElem hi1] at hi
  exact (Option.some.inj hi).symm
end Lo
namespace Lo
open PySem PySem.Spec L2 PyProof.Rows
abbrev sLaw10 : Stmt := top 67
section
variable {X : Cx}
def tMeth0S (C : Addr) (m : Str) (sp : Sp) (E : L2.St → XK) (ta : TE) : TE := fun σ H Q => ta σ H fun x H1 => ∃ a dx fs, x = .ref a ∧ H1 a = some (.ins C dx fs) ∧ fs.lookup m = none ∧ sp [x] H1 Q (E σ)
theorem pe_meth0S {CX : CXT} {k : Nat} {f C : Addr} {fd : FuncData} {ps : List Str} {sp : Sp} {E : L2.St → XK} {m : Str} {pos apos : Pos} {o : Expr} {ta : TE} {pl : Sem Bool} (he : PE X o ta) (c : Cls X.K C) (hm : Meth X.K C m f) (F : FnOk X.prog X.w X.K X.mg X.base CX k f fd ps sp) (hr : Room k X.A) (hb : Binds X.K fd ps []) (hx : ∀ σ, PassesAt CX X σ (E σ))
    (hs : ∀ (σ : L2.St) (H : Hp) (Q : VK), ta σ H Q → ta σ H fun x H1 => Q x H1)
    (ht : eval (.Call (.Attribute o m apos) [] [] pos) X.env = (do
      let ov ← eval o X.env
      standAt apos.atName
      let (f, first) ← holding [ov] (getMethod ov m pl)
      callWith pos f first (backTo pos (starEach [] X.env)) (backToKw pos (keywordEach [] X.env))) := by rfl) :
    PE X (.Call (.Attribute o m apos) [] [] pos) (tMeth0S C m sp E ta) := by
  refine ⟨fun pins s σ H Q I h => ?_⟩
  refine PySem.W.methodCall_KW (pl := pl) (thn (he.run pins s σ H _ I h) fun u s1 ⟨x, H1, I1, rx, a, dx, fs, ex, ea, l, q⟩ => ?_) ht
  subst ex
  obtain rfl : u = Value.ref a := rx
  refine getmeth_ok I1 ea c hm l ?_
  exact PySem.W.callWith_K0 (first := [.ref a]) I1.kIn hm.kp (run_fnS (us := [.ref a]) (vs := [.ref a]) F hr hb (hx σ) I1 (.cons rfl .nil) q)
end
/-- what is asked of the class, for the law -/
structure RLaw10 (K : PySem.W.Frag) (mg : Str → Option Value) (C CN fP fH : Addr) : Prop where
  mS : Meth K C "spread" fP
  mH : Meth K C "hull" fH
  er : Err K mg "NoSolution" CN
  rev : mg "reversed" = none
  max : mg "max" = none
section
variable {P : Program} {w : World} {K : PySem.W.Frag} {mg : Str → Option Value} {base : Heap}
abbrev nLaw10 : List Str := ["script", "names", "systems", "region", "ends", "left", "right", "found", "tables", "hull", "due", "one", "other", "low", "high", "system", "table", "row"]
theorem scLaw10 : FnScope nLaw10 ["script"] (defScope sLaw10) := ⟨rfl, rfl, rfl, by decide +kernel, rfl, by decide +kernel, by decide +kernel⟩
def spLaw10 (K : PySem.W.Frag) : Sp := fun vs H Q _ => ∃ (s : Addr), vs = [.ref s] ∧ Scr K H s ∧ ∀ H', Q (.bl true) H'
theorem ok_law10 {C CN fI fX fH : Addr} {f fP fD fS fT fJ fR : Addr} {fd fdI fdP fdD fdS fdT fdJ fdR fdX fdH : FuncData} {dz : List Value} (F : Fun K "law" "law" sLaw10 f fd) (T : Blt mg) (X : RTxt K mg C fI) (Y : RLaw10 K mg C CN fX fH)
    (GP : FnOk P w K mg base CX0 2 fP fdP ["script", "at"] (spPool K)) (kP : PySem.W.keepIn K (.ref fP) = true) (bP : Binds K fdP ["script", "at"] []) (gP : mg "_law_pool" = some (.ref fP))
    (GD : FnOk P w K mg base CX0 1 fD fdD ["script", "at", "many"] (spDraw K)) (kD : PySem.W.keepIn K (.ref fD) = true) (bD : Binds K fdD ["script", "at", "many"] []) (gD : mg "_law_draw" = some (.ref fD))
    (GS : FnOk P w K mg base CX0 3 fS fdS ["script", "at", "names", "most"] (spLParts K)) (kS : PySem.W.keepIn K (.ref fS) = true) (bS : Binds K fdS ["script", "at", "names", "most"] []) (gS : mg "_law_parts" = some (.ref fS))
    (GT : FnOk P w K mg base CX0 1 fT fdT ["names", "system"] spLTable) (kT : PySem.W.keepIn K (.ref fT) = true) (bT : Binds K fdT ["names", "system"] []) (gT : mg "_law_table" = some (.ref fT))
    (GJ : FnOk P w K mg base CX0 8 fJ fdJ ["script", "names"] (spJoins K)) (kJ : PySem.W.keepIn K (.ref fJ) = true) (bJ : Binds K fdJ ["script", "names"] []) (gJ : mg "_law_joins" = some (.ref fJ))
    (GR : FnOk P w K mg base CX0 3 fR fdR ["names", "systems", "left", "right", "found"] spRight) (kR : PySem.W.keepIn K (.ref fR) = true) (bR : Binds K fdR ["names", "systems", "left", "right", "found"] []) (gR : mg "_law_right" = some (.ref fR))
    (GI : FnOk P w K mg base CX0 6 fI fdI ["self", "names", "systems"] (spRInit K C)) (bI : Binds K fdI ["self", "names", "systems"] [])
    (GX : FnOk P w K mg base CX0 5 fX fdX ["self", "left", "right"] (spSpread C)) (bX : Binds K fdX ["self", "left", "right"] []) (bX1 : Binds K fdX ["self", "left", "right"] dz) (vz : Vals [.str "0"] dz)
    (GH : FnOk P w K mg base (L2.CX P w) 2 fH fdH ["self"] (spHull C CN)) (bH : Binds K fdH ["self"] []) :
    FnOk P w K mg base CX0 9 f fd ["script"] (spLaw10 K) := by
  refine F.ok scLaw10 (fun vs H Q E h => ?_) (fun cdv A outer s0 H vs Q E hr h => ?_)
  · obtain ⟨s, rfl, _⟩ := h
    rfl
  · obtain ⟨s, rfl, hS, q⟩ := h
    have nd := scLaw10.nd
    have hu := hu_of hr
    have r1 := hr.mono (show 1 ≤ 8 by decide)
    have r2 := hr.mono (show 2 ≤ 8 by decide)
    have r3 := hr.mono (show 3 ≤ 8 by decide)
    have r5 := hr.mono (show 5 ≤ 8 by decide)
    have r7 := hr.mono (show 7 ≤ 8 by decide)
    have hu' := Nat.lt_of_succ_lt hu
    refine ⟨_, C8.pss_cut (ps_set (i := 1) nd rfl (.inr rfl) (pe_slice sl_tupA (pe_call GP r2 (by rfl) gP kP bP .nil pass0 (pa_cons (pv 0) (pa_cons pe_int pa_nil))) po_none
          (po_some (pe_op op_add pe_int (pe_call GD r1 (by rfl) gD kD bD .nil pass0 (pa_cons (pv 0) (pa_cons pe_int (pa_cons pe_int pa_nil))))))))
      (pss_cons (ps_set (i := 2) nd rfl (.inl rfl) (pe_call GS r3 (by rfl) gS kS bS .nil pass0 (pa_cons (pv 0) (pa_cons pe_int (pa_cons (pv 1) (pa_cons pe_int pa_nil))))))
      (pss_cons (ps_par (i := 3) (j := 4) rfl nd rfl rfl (by decide) rfl rfl (pa_cons (pe_make X.make GI r7 (by rfl) X.mg bI .nil pass0 (pa_cons (pv 1) (pa_cons (pv 2) pa_nil))) (pa_cons (pe_op op_catT (pv 1) (pe_tup (pa_cons pe_str pa_nil))) pa_nil)) (by rfl))
      (pss_cons (ps_if (pt_not (pt_val (pe_call GJ hr (by rfl) gJ kJ bJ .nil pass0 (pa_cons (pv 0) (pa_cons (pv 1) pa_nil))))) (pss_one (ps_ret pe_bl)) pss_nil)
      (C8.pss_cut (ps_par (i := 5) (j := 6) rfl nd rfl rfl (by decide) rfl rfl (pa_cons (pe_ix ix_tup (pv 4) (pe_call GD r1 (by rfl) gD kD bD .nil pass0 (pa_cons (pv 0) (pa_cons pe_int (pa_cons (pe_callB call_len_seq (by rfl) T.len PySem.boot_len (pa_cons (pv 4) pa_nil)) pa_nil)))) (fun _ _ => rfl))
          (pa_cons (pe_ix ix_tup (pv 4) (pe_call GD r1 (by rfl) gD kD bD .nil pass0 (pa_cons (pv 0) (pa_cons pe_int (pa_cons (pe_callB call_len_seq (by rfl) T.len PySem.boot_len (pa_cons (pv 4) pa_nil)) pa_nil)))) (fun _ _ => rfl)) pa_nil)) (by rfl))
      (pss_cons (ps_set (i := 7) nd rfl (.inl rfl) (pe_meth (pv 3) X.cl Y.mS GX r5 bX .nil pass0 (pa_cons (pv 5) (pa_cons (pv 6) pa_nil))))
      (pss_cons (ps_if (pt_not (pt_val (pe_call GR r3 (by rfl) gR kR bR .nil pass0 (pa_cons (pv 1) (pa_cons (pv 2) (pa_cons (pv 5) (pa_cons (pv 6) (pa_cons (pv 7) pa_nil)))))))) (pss_one (ps_ret pe_bl)) pss_nil)
      (pss_cons (ps_if (pt_cmpR (op_neD hr.units) (pe_lc (own := [("low", 13), ("high", 14)]) (g := gTup K 2 (gCons (gName 13) (gCons (gName 14) gNil))) (tt := tYes) rfl nd (pi_reversed (by rfl) Y.rev (pa_cons (pe_callTy call_list_of (by rfl) T.list PyProof.Rows.boot_list (pa_cons (pv 7) pa_nil)) pa_nil)) (blkOk_by (N := nLaw10) (sc := defScope sLaw10) (by decide +kernel))
          (fun _ _ _ _ _ => pg_tup rfl (pgs_cons (pg_name (i := 13) nd rfl (.inl rfl)) (pgs_cons (pg_name (i := 14) nd rfl (.inl rfl)) pgs_nil))) (fun _ _ _ _ _ => pts_nil)
          (fun _ _ _ _ _ => pe_tup (pa_cons (pe_ifExp (pt_cmpR op_isN (pv 14) pe_non (nomark _)) pe_non (pe_op op_sub pe_int (pv 14))) (pa_cons (pe_ifExp (pt_cmpR op_isN (pv 13) pe_non (nomark _)) pe_non (pe_op op_sub pe_int (pv 13))) pa_nil))))
          (pe_meth (pv 3) X.cl Y.mS GX r5 bX .nil pass0 (pa_cons (pv 6) (pa_cons (pv 5) pa_nil))) (nomark _)) (pss_one (ps_ret pe_bl)) pss_nil)
      (pss_cons (ps_if (pt_cmpR (op_neD hr.units) (pe_meth (pv 3) X.cl Y.mS GX r5 bX1 vz pass0 (pa_cons (pv 5) pa_nil)) (pe_meth (pv 3) X.cl Y.mS GX r5 bX .nil pass0 (pa_cons (pv 5) (pa_cons pe_str pa_nil))) (nomark _)) (pss_one (ps_ret pe_bl)) pss_nil)
      (C8.pss_cut (ps_setLc (i := 8) (own := [("system", 15)]) (g := gName 15) (tt := tYes) rfl nd rfl rfl (sw_true rfl rfl rfl (by decide +kernel)) (pi_list (pv 2)) (blkOk_by (N := nLaw10) (sc := defScope sLaw10) (by decide +kernel))
          (fun _ _ _ _ _ => pg_name (i := 15) nd rfl (.inl rfl)) (fun _ _ _ _ _ => pts_nil) (fun _ _ _ _ _ => pe_call GT r1 (by rfl) gT kT bT .nil pass0 (pa_cons (pv 1) (pa_cons (pv 15) pa_nil))))
      (C8.pss_cut (ps_setLc (i := 8) (own := [("table", 16)]) (g := gName 16) rfl nd rfl rfl (sw_true rfl rfl rfl (by decide +kernel)) (pi_list (pv 8)) (blkOk_by (N := nLaw10) (sc := defScope sLaw10) (by decide +kernel))
          (fun _ _ _ _ _ => pg_name (i := 16) nd rfl (.inl rfl)) (fun _ _ _ _ _ => pts_one (pt_cmpR op_notN (pv 16) pe_non (nomark _))) (fun _ _ _ _ _ => pv 16))
      (pss_cons (L2.ps_try_only (c := .ref CN) (tb := fun W => tAsg (tMeth0S C "hull" (spHull C CN) (WE W) (tVar 3)) (gName 9)) (ts := fun a cls d => tRet (tOp (rEqNil K) (tVar 8) (tLst tNil))) (Wout := fun _ _ _ _ => False) rfl rfl ⟨rfl, by decide, .inl Y.er.g⟩ takes0
          (fun W pn xe tk _ => pss_one (ps_set (i := 9) nd rfl (.inl rfl) (pe_meth0S (pv 3) X.cl Y.mH GH r2 bH (fun σ => passAt tk σ) (fun _ _ _ h => h) (by rfl))))
          (fun a oe cls d pn hz hf => pss_one (ps_ret (pe_cmpR (op_eqNil hu') (pv 8) (pe_lst pa_nil) (nomark _)))))
      (pss_cons (ps_set (i := 10) nd rfl (.inr rfl) pe_dnewT)
      (C8.pss_cut (ps_for PassesOwn.never rfl (pi_tup (pv 4)) (pg_name (i := 11) nd rfl (.inr rfl))
        (pss_one (ps_for PassesOwn.never rfl (pi_tup (pv 4)) (pg_name (i := 12) nd rfl (.inr rfl))
          (pss_one (ps_if (PW.pt (pw_and (pt_cmpR op_ne (pv 11) (pv 12) (nomark _)) (pw_and1 (pt_val (pe_callB (cr_all rfl) (by rfl) T.all PyProof.Rows.boot_all (pa_cons (pe_lc (own := [("table", 16)]) (g := gName 16) (tt := tYes) rfl nd (pi_list (pv 8)) (blkOk_by (N := nLaw10) (sc := defScope sLaw10) (by decide +kernel))
              (fun _ _ _ _ _ => pg_name (i := 16) nd rfl (.inl rfl)) (fun _ _ _ _ _ => pts_nil) (fun _ _ _ _ _ => pe_cmp (pc_din hu (pe_tup (pa_cons (pv 11) (pa_cons (pv 12) pa_nil))) (pv 16)))) pa_nil))))))
            (pss_one (ps_dput hu (pv 10) (pe_tup (pa_cons (pv 11) (pa_cons (pv 12) pa_nil))) (pe_callB (cr_max rfl) (by rfl) Y.max PyProof.Rows.boot_max (pa_cons (pe_lc (own := [("table", 16)]) (g := gName 16) (tt := tYes) rfl nd (pi_list (pv 8)) (blkOk_by (N := nLaw10) (sc := defScope sLaw10) (by decide +kernel))
              (fun _ _ _ _ _ => pg_name (i := 16) nd rfl (.inl rfl)) (fun _ _ _ _ _ => pts_nil) (fun _ _ _ _ _ => pe_dget hu (pv 16) (pe_tup (pa_cons (pv 11) (pa_cons (pv 12) pa_nil))) (fun _ _ => rfl))) pa_nil)) rfl)) pss_nil)))))
      (pss_cons (ps_if (PW.pt (pw_or (pt_cmpR (op_eqNil hu') (pv 8) (pe_lst pa_nil) (nomark _)) (pw_or (pt_cmpR op_ne (pe_callB call_len_seq (by rfl) T.len PySem.boot_len (pa_cons (pv 9) pa_nil)) (pe_callB call_len_dT (by rfl) T.len PySem.boot_len (pa_cons (pv 10) pa_nil)) (nomark _))
          (pw_or1 (pt_not (pt_val (pe_callB call_isi (by rfl) T.isi PyProof.Rows.boot_isinstance (pa_cons (pv 9) (pa_cons (pe_bltn (v := .ty "list") (by rfl) T.list PyProof.Rows.boot_list rfl) pa_nil))))))))) (pss_one (ps_ret pe_bl)) pss_nil)
      (pss_one (ps_ret (pe_callB (cr_all rfl) (by rfl) T.all PyProof.Rows.boot_all (pa_cons (pe_lc (own := [("row", 17)]) (g := gName 17) (tt := tYes) rfl nd (pi_list (pv 9)) (blkOk_by (N := nLaw10) (sc := defScope sLaw10) (by decide +kernel))
          (fun _ _ _ _ _ => pg_name (i := 17) nd rfl (.inl rfl)) (fun _ _ _ _ _ => pts_nil)
          (fun _ _ _ _ _ => pe_and (pe_cmp (pc_din hu (pe_tup (pa_cons (pe_ix (show IxR _ (rIxT K) from ix_tup) (pv 17) pe_int (fun _ _ => rfl)) (pa_cons (pe_ix (show IxR _ (rIxT K) from ix_tup) (pv 17) pe_int (fun _ _ => rfl)) pa_nil))) (pv 10)))
            (pe_one (pe_cmpR op_eq (pe_dget hu (pv 10) (pe_tup (pa_cons (pe_ix (show IxR _ (rIxT K) from ix_tup) (pv 17) pe_int (fun _ _ => rfl)) (pa_cons (pe_ix (show IxR _ (rIxT K) from ix_tup) (pv 17) pe_int (fun _ _ => rfl)) pa_nil))) (fun _ _ => rfl)) (pe_ix (show IxR _ (rIxT K) from ix_tup) (pv 17) pe_int (fun _ _ => rfl)) (nomark _)))))
          pa_nil)))))))))))))))))), ?_⟩
    have sz1 : 1 ≤ sizeLine := by decide
    have sz2 : 2 ≤ sizeLine := by decide
    have z0s : PyData.strOk ("0" : Str) = true := by decide +kernel
    -- names
    refine ⟨fun σ' H' => ∃ (np : Addr) (ns : List Str), σ' = [some (.ref s), some (.ref np), none, none, none, none, none, none, none, none, none, none, none, none, none, none, none, none] ∧ Same H H' ∧ H' np = some (.tup (ns.map V.str)) ∧ Names ns ∧ ns.length ≤ 3, ?_, ?_⟩
    · refine ⟨.ref s, rfl, s, _, rfl, hS, fun H2 p xs s2 hp hx => ?_⟩
      refine ⟨.ref s, rfl, s, _, 2, rfl, hS.same s2, by decide, fun H3 k s3 k0 k1 => ?_⟩
      have hp3 := s3 _ _ hp
      have lx := pools_len xs hx
      obtain ⟨k', rfl⟩ : ∃ k' : Nat, k = (k' : Nat) := ⟨k.toNat, by omega⟩
      have ek : (2 : Int) + (k' : Nat) = ((2 + k' : Nat) : Int) := by omega
      refine ⟨_, _, rfl, rfl, (2 : Int) + (k' : Nat), rfl, p, _, rfl, SqT.of hp3, fun hc => ?_, fun hc p' np' => ?_⟩
      · exfalso
        have h2 := hc.2
        rw [ek, HT.sIx_nat, List.length_map, lx] at h2
        omega
      · refine ⟨p', xs.take (2 + k'), rfl, (s2.trans s3).trans (same_upd np'), ?_, names_of_pool hx (by omega) (by omega), by rw [List.length_take]; omega⟩
        rw [upd_same, ek, cut_take, List.map_take]
    rintro σ1 H1 ⟨np, ns, rfl, s1, hnp, N, n3⟩
    have l2 := N.two
    have NR := N.toR
    -- systems
    refine ⟨.ref s, rfl, .ref np, rfl, s, np, 100, 3, ns, rfl, hS.same s1, hnp, N, by decide, by decide, fun H2 L ls Ss s2 nL hL hll hnd hnew hcnt hat hok => ?_⟩
    have s02 := s1.trans s2
    have few3 : Ss.length ≤ 3 := by omega
    have fewS : Ss.length ≤ 100 := by omega
    have hnp2 := s2 _ _ hnp
    have hSy : Syss H2 L Ss := ⟨ls, hL, hll, hat⟩
    have okS : ∀ R ∈ Ss, OkS ns 40 R := fun R hR => ⟨(hok R hR).1, Nat.le_trans (hok R hR).2 (by decide)⟩
    clear hat hL hll hnd hnew hcnt nL
    -- the region and the ends
    refine ⟨.ref np, rfl, .ref L, rfl, fun p dx npn ndx ne => ?_⟩
    have sD := same_upd (o := HO.own p) ndx
    have nx2 : upd H2 dx (.own p) p = none := by
      rw [upd_ne ne.symm]
      exact npn
    have sP := sD.trans (same_upd (o := HO.ins C dx []) nx2)
    refine ⟨p, np, L, dx, ns, Ss, rfl, upd_same, SqT.of (sP _ _ hnp2), NR, hSy.same sP, fewS, fun R hR => ⟨(okS R hR).good (by decide), fun r hr => ((okS R hR).1 r hr).2.2⟩, fun H3 np' tl keep RA => ?_⟩
    have s23 : Same H2 H3 := same_new npn fun b o z n => keep b o (sP _ _ z) n
    have hnp3 := s23 _ _ hnp2
    have hSy3 := hSy.same s23
    have s03 := s02.trans s23
    clear keep sP sD nx2 ne npn ndx
    refine ⟨rfl, .ref np, rfl, sz1, fun zt nzt => ?_⟩
    have sZ := same_upd (o := HO.tup [V.str "0"]) nzt
    refine ⟨np, zt, _, _, rfl, rfl, SqT.of (sZ _ _ hnp3), SqT.of upd_same, ?_, ?_, (fun e => nomatch e), fun _ et net => ?_⟩
    · intro e
      have := congrArg List.length e
      rw [List.length_map] at this
      have z : ns.length = 0 := this
      omega
    · rw [List.length_map]
      exact Nat.le_of_lt (small1000 (by show ns.length + 1 ≤ 1000; omega))
    have sE := same_upd (o := HO.tup (ns.map V.str ++ [V.str "0"])) net
    have het0 := upd_same (H := upd H3 zt (.tup [V.str "0"])) (a := et) (o := HO.tup (ns.map V.str ++ [V.str "0"]))
    have ees : ns.map V.str ++ [V.str "0"] = (ns ++ [("0" : Str)]).map V.str := by rw [List.map_append]; rfl
    rw [ees] at sE het0 ⊢
    have sZE := sZ.trans sE
    generalize upd (upd H3 zt (.tup [V.str "0"])) et (.tup ((ns ++ [("0" : Str)]).map V.str)) = H4 at *
    have s04 := s03.trans sZE
    refine ⟨_, _, rfl, ?_⟩
    refine ⟨.ref s, rfl, .ref np, rfl, s, np, ns, rfl, hS.same s04, sZE _ _ hnp3, NR, l2, fun H5 s45 => ⟨true, rfl, iteF ?_⟩⟩
    have s05 := s04.trans s45
    have s35 := sZE.trans s45
    have het := s45 _ _ het0
    have hnp5 := s35 _ _ hnp3
    have hSy5 := hSy3.same s35
    have RA5 := RA.same s35
    clear hnp3 hSy3 RA het0 hnp2 hSy hnp
    -- left and right
    refine ⟨fun σ' H' => ∃ (l r : Str), σ' = [some (.ref s), some (.ref np), some (.ref L), some (.ref p), some (.ref et), some (.str l), some (.str r), none, none, none, none, none, none, none, none, none, none, none] ∧ Same H5 H' ∧ l ∈ ns ++ [("0" : Str)] ∧ r ∈ ns ++ [("0" : Str)], ?_, ?_⟩
    · have len1 : (1 : Int) ≤ (((((ns ++ [("0" : Str)]).map V.str)).length : Nat) : Int) := by
        rw [List.length_map, List.length_append]
        show (1 : Int) ≤ ((ns.length + 1 : Nat) : Int)
        omega
      refine ⟨.ref et, rfl, .ref s, rfl, .ref et, rfl, et, _, rfl, .inr (SqT.of het), s, _, _, rfl, hS.same s05, len1, fun H6 k s6 k0 k1 => ?_⟩
      obtain ⟨l, hl, hl'⟩ := pick_at k0 k1
      refine ⟨et, _, _, .str l, rfl, rfl, SqT.of (s6 _ _ het), hl, ?_⟩
      refine ⟨.ref et, rfl, .ref s, rfl, .ref et, rfl, et, _, rfl, .inr (SqT.of (s6 _ _ het)), s, _, _, rfl, (hS.same s05).same s6, len1, fun H7 k2 s7 k20 k21 => ?_⟩
      obtain ⟨r, hr2, hr'⟩ := pick_at k20 k21
      exact ⟨et, _, _, .str r, rfl, rfl, SqT.of ((s6.trans s7) _ _ het), hr2, _, _, rfl, l, r, rfl, s6.trans s7, hl', hr'⟩
    rintro σ2 H6 ⟨l, r, rfl, s56, hl, hrt⟩
    have inE : ∀ x, x ∈ ns ++ [("0" : Str)] → SideR ns x := fun x hx => by
      rcases List.mem_append.mp hx with m | m
      · exact List.mem_cons_of_mem _ m
      · exact List.mem_singleton.mp m ▸ List.mem_cons_self
    have sl := inE l hl
    have sr := inE r hrt
    have sat : ∀ R ∈ Ss.filter satB, ∃ v, Sat R v := fun R hR => satB_iff.mp (List.mem_filter.mp hR).2
    have fewF : (Ss.filter satB).length ≤ 3 := Nat.le_trans (List.length_filter_le _ _) few3
    have few100 : (Ss.filter satB).length ≤ 100 := by omega
    have RA6 := RA5.same s56
    obtain ⟨dp, hp6⟩ := RA6.ob
    -- found
    refine ⟨.ref p, rfl, p, dp, _, rfl, hp6, rflds_no _ _ (by decide +kernel) (by decide +kernel), _, rfl, _, rfl, p, np', tl, ns, _, _, l, r, rfl, RA6, NR, sl, sr, few100, fun H7 fo Ls s67 nfo pm srt hL7 => ?_⟩
    obtain ⟨can, told⟩ := sprd_told sat pm srt
    have lenL : (sprd Ls).length ≤ 3 := Nat.le_trans (sprd_len Ls) (by rw [pm.length_eq, List.length_map]; exact fewF)
    have s57 := s56.trans s67
    refine ⟨.ref np, rfl, .ref L, rfl, .str l, rfl, .str r, rfl, .ref fo, rfl, np, L, fo, ns, Ss, l, r, sprd Ls, rfl, s57 _ _ hnp5, NR, sl, sr, hSy5.same s57, okS, fewS, hL7, by omega, can, fun x => (told x).trans told_all, fun H8 s78 => ⟨true, rfl, iteF ?_⟩⟩
    have s58 := s57.trans s78
    have hL8 := hL7.same s78
    obtain ⟨ts, hf1, hf2, hf3⟩ := id hL8
    -- the other way round
    refine ⟨.ref fo, rfl, fo, _, rfl, .inl (SqL.of hf1), fun lc nlc => ⟨lc, _, rfl, SqL.of upd_same, fun Dm nD => ?_⟩⟩
    have lts : (ts.map V.ref).length = (sprd Ls).length := by rw [List.length_map]; exact hf2
    refine lc_rev (K := K) (a := lc) (xs := ts.map V.ref) (fun j H' => Same (upd H8 lc (.lst (ts.map V.ref))) H' ∧ ∃ us : List Addr, H' Dm = some (.lst (us.map V.ref)) ∧ us.length = j ∧ ∀ (i : Nat) (t : Addr) (p : Iv), us[i]? = some t → ((sprd Ls).reverse.map mirI)[i]? = some p → IvAt H' t p)
      ⟨same_upd nD, [], upd_same, rfl, fun i t p e => nomatch e⟩ (fun j H' _ h => SqL.of (h.1 _ _ upd_same)) ?_ ?_
    · rintro j v Hc hj hv ⟨sc, us, hc, hul, hur⟩
      obtain ⟨t, rfl, ht, _⟩ := pick_ref hv
      have hjL : (ts.map V.ref).length - 1 - j < (sprd Ls).length := by omega
      obtain ⟨q1, hq1⟩ : ∃ q1, (sprd Ls)[(ts.map V.ref).length - 1 - j]? = some q1 := ⟨_, List.getElem?_eq_getElem hjL⟩
      have ht8 : IvAt Hc t q1 := sc _ _ ((same_upd nlc) _ _ (hf3 _ t q1 ht hq1))
      have hmj : ((sprd Ls).reverse.map mirI)[j]? = some (mirI q1) := by
        rw [List.getElem?_map, List.getElem?_reverse (by omega)]
        rw [lts] at hq1
        rw [hq1]
        rfl
      refine ⟨t, _, rfl, SqT.of ht8, rfl, oV q1.1, _, rfl, oV q1.2, _, rfl, rfl, rfl, ?_⟩
      unfold tYes
      refine iteT ?_
      have fin : ∀ Hd : Hp, Same Hc Hd → ∀ y : Addr, IvAt Hd y (mirI q1) → ∃ acc, Hd Dm = some (.lst acc) ∧ acc.length < sizeLine ∧ (Same (upd H8 lc (.lst (ts.map V.ref))) (upd Hd Dm (.lst (acc ++ [V.ref y]))) ∧ ∃ us : List Addr, (upd Hd Dm (.lst (acc ++ [V.ref y]))) Dm = some (.lst (us.map V.ref)) ∧ us.length = j + 1 ∧ ∀ (i : Nat) (t : Addr) (p : Iv), us[i]? = some t → ((sprd Ls).reverse.map mirI)[i]? = some p → IvAt (upd Hd Dm (.lst (acc ++ [V.ref y]))) t p) := fun Hd sd y hy => by
        refine ⟨_, sd _ _ hc, by rw [List.length_map, hul]; exact small1000 (by omega), (sc.trans sd).later nD, ?_⟩
        have z := StrL.snoc2 (Ls := ((sprd Ls).reverse.map mirI).take j) (ts := us) (sd _ _ hc) (by rw [hul, List.length_take, List.length_map, List.length_reverse]; omega) (fun i t p a b => by
          have hi := (List.getElem?_eq_some_iff.mp a).1
          rw [List.getElem?_take_of_lt (by omega)] at b
          exact sd _ _ (hur i t p a b)) hy
        obtain ⟨us', z1, z2, z3⟩ := z
        refine ⟨us', z1, ?_, fun i t p a b => z3 i t p a ?_⟩
        · rw [z2, List.length_append, List.length_take, List.length_map, List.length_reverse]
          show min j _ + 1 = j + 1
          omega
        · have hi := (List.getElem?_eq_some_iff.mp a).1
          rw [z2, List.length_append, List.length_take, List.length_map, List.length_reverse] at hi
          have hi : i < min j (sprd Ls).length + 1 := hi
          by_cases k : i < j
          · rw [List.getElem?_append_left (by rw [List.length_take, List.length_map, List.length_reverse]; omega), List.getElem?_take_of_lt k]
            exact b
          · have e : i = j := by omega
            subst e
            rw [hmj] at b
            rw [List.getElem?_append_right (by rw [List.length_take]; exact Nat.min_le_left _ _), List.length_take, List.length_map, List.length_reverse, Nat.min_eq_left (by omega), Nat.sub_self]
            exact b
      obtain ⟨lo, hi⟩ := q1
      have hiE : ∀ (H2 : Hp) (Q2 : VK), Q2 (oV (hi.map fun k => -k)) H2 → tIf (tTest (tOp (fun x y H Q => y = V.non ∧ Q (V.bl (decide (x = V.non))) H) (tVar 14) (tC V.non))) (tC V.non) (tOp (rI0 fun i j => V.int (i - j)) (tC (V.int 0)) (tVar 14))
          (((wipe ([some (V.ref s), some (V.ref np), some (V.ref L), some (V.ref p), some (V.ref et), some (V.str l), some (V.str r), none, none, none, none, none, none, none, none, none, none, none].set 7 (some (V.ref fo))) [13, 14]).set 13 (some (oV lo))).set 14 (some (oV hi))) H2 Q2 := fun H2 Q2 k => by
        refine ⟨oV hi, rfl, rfl, _, rfl, ?_⟩
        cases hi with
        | none => exact k
        | some z =>
          refine ⟨_, rfl, _, _, rfl, rfl, ?_⟩
          show Q2 (.int (0 - z)) H2
          rw [show (0 : Int) - z = -z by omega]
          exact k
      have loE : ∀ (H2 : Hp) (Q2 : VK), Q2 (oV (lo.map fun k => -k)) H2 → tIf (tTest (tOp (fun x y H Q => y = V.non ∧ Q (V.bl (decide (x = V.non))) H) (tVar 13) (tC V.non))) (tC V.non) (tOp (rI0 fun i j => V.int (i - j)) (tC (V.int 0)) (tVar 13))
          (((wipe ([some (V.ref s), some (V.ref np), some (V.ref L), some (V.ref p), some (V.ref et), some (V.str l), some (V.str r), none, none, none, none, none, none, none, none, none, none, none].set 7 (some (V.ref fo))) [13, 14]).set 13 (some (oV lo))).set 14 (some (oV hi))) H2 Q2 := fun H2 Q2 k => by
        refine ⟨oV lo, rfl, rfl, _, rfl, ?_⟩
        cases lo with
        | none => exact k
        | some z =>
          refine ⟨_, rfl, _, _, rfl, rfl, ?_⟩
          show Q2 (.int (0 - z)) H2
          rw [show (0 : Int) - z = -z by omega]
          exact k
      refine hiE _ _ (loE _ _ ⟨sz2, fun y ny => fin _ (same_upd ny) y upd_same⟩)
    · rintro Hc ⟨sc, us, hc, hul, hur⟩
      have s8c := (same_upd (o := HO.lst (ts.map V.ref)) nlc).trans sc
      have hMc : StrL Hc Dm ((sprd Ls).reverse.map mirI) := ⟨us, hc, by rw [hul, lts, List.length_map, List.length_reverse], hur⟩
      have s6c := (s67.trans s78).trans s8c
      have RAc := RA6.same s6c
      refine ⟨.ref p, rfl, p, dp, _, rfl, s6c _ _ hp6, rflds_no _ _ (by decide +kernel) (by decide +kernel), _, rfl, _, rfl, p, np', tl, ns, _, _, r, l, rfl, RAc, NR, sr, sl, few100, fun H9 fo2 Ls2 sc9 nfo2 pm2 srt2 hL9 => ?_⟩
      obtain ⟨can2, told2⟩ := sprd_told sat pm2 srt2
      have eM : sprd Ls2 = (sprd Ls).reverse.map mirI := canon_one _ _ can2 (mir_canon can) fun x => by
        refine (told2 x).trans (Iff.trans ?_ (mir_inU.trans (told (-x))).symm)
        constructor
        · rintro ⟨R, hR, h⟩
          exact ⟨R, hR, mir_has.mp h⟩
        · rintro ⟨R, hR, h⟩
          exact ⟨R, hR, mir_has.mpr h⟩
      rw [eM] at hL9
      refine ⟨_, _, dp_strL (hMc.same sc9), dp_strL hL9, shaped_str _, shaped_str _, ?_⟩
      rw [eqv_str]
      refine ⟨_, rfl, iteF ?_⟩
      have s69 := s6c.trans sc9
      clear hMc hur hul hc RAc
      -- the end that need not be said
      have z0 : SideR ns "0" := List.mem_cons_self
      refine ⟨.ref p, rfl, p, dp, _, rfl, s69 _ _ hp6, rflds_no _ _ (by decide +kernel) (by decide +kernel), _, rfl, p, np', tl, ns, _, _, l, "0", rfl, RA6.same s69, NR, sl, z0, few100, fun H10 f3 Ls3 s910 nf3 pm3 srt3 hL10 => ?_⟩
      obtain ⟨can3, told3⟩ := sprd_told sat pm3 srt3
      have s610 := s69.trans s910
      refine ⟨.ref p, rfl, p, dp, _, rfl, s610 _ _ hp6, rflds_no _ _ (by decide +kernel) (by decide +kernel), _, rfl, p, np', tl, ns, _, _, l, "0", rfl, RA6.same s610, NR, sl, z0, few100, fun H11 f4 Ls4 s1011 nf4 pm4 srt4 hL11 => ?_⟩
      obtain ⟨can4, told4⟩ := sprd_told sat pm4 srt4
      have eN : sprd Ls3 = sprd Ls4 := canon_one _ _ can3 can4 fun x => (told3 x).trans (told4 x).symm
      rw [eN] at hL10
      refine ⟨_, _, dp_strL (hL10.same s1011), dp_strL hL11, shaped_str _, shaped_str _, ?_⟩
      rw [eqv_str]
      refine ⟨_, rfl, iteF ?_⟩
      have s611 := s610.trans s1011
      have s511 := s56.trans s611
      clear hL10 hL11 hL9 hL8 hL7 hf1 hf2 hf3
      have hnp11 := s511 _ _ hnp5
      obtain ⟨ls0, hL0, hll0, hat0⟩ := hSy5.same s511
      have n20 : ns.length ≤ 20 := by omega
      clear hSy5 hnp5
      -- a table of each system, or None
      refine ⟨fun σ' H' => ∃ (c : Addr) (ys : List V), σ' = [some (.ref s), some (.ref np), some (.ref L), some (.ref p), some (.ref et), some (.str l), some (.str r), some (.ref fo), some (.ref c), none, none, none, none, none, none, none, none, none] ∧ Same H11 H' ∧ H' c = some (.lst ys) ∧ ys.length = Ss.length ∧
          ∀ (i : Nat) (y : V) (R : List SRow), ys[i]? = some y → Ss[i]? = some R → (y = .non ∧ satB R = false) ∨ ∃ d, y = .ref d ∧ satB R = true ∧ TbV ns H' R d, ?_, ?_⟩
      · refine ⟨.ref L, rfl, L, rfl, ⟨_, SqL.of hL0⟩, fun c nc => ?_⟩
        refine lc_list (K := K) (a := L) (xs := ls0.map V.ref) (fun j H' => Same H11 H' ∧ ∃ ys : List V, H' c = some (.lst ys) ∧ ys.length = j ∧
          ∀ (i : Nat) (y : V) (R : List SRow), ys[i]? = some y → Ss[i]? = some R → (y = .non ∧ satB R = false) ∨ ∃ d, y = .ref d ∧ satB R = true ∧ TbV ns H' R d) ⟨same_upd nc, [], upd_same, rfl, fun i y R e => nomatch e⟩ (fun j H' _ h => SqL.of (h.1 _ _ hL0)) ?_ ?_
        · rintro j v Hc hj ⟨sc, ys, hc, hyl, hyr⟩
          obtain ⟨a, rfl, ha, hlt⟩ := pick_ref hj
          obtain ⟨R, hR⟩ : ∃ R, Ss[j]? = some R := ⟨_, List.getElem?_eq_getElem (by omega)⟩
          have okR := okS R (List.mem_of_getElem? hR)
          refine ⟨rfl, ?_⟩
          unfold tYes
          refine iteT ?_
          refine ⟨.ref np, rfl, .ref a, rfl, np, a, ns, R, rfl, sc _ _ hnp11, (hat0 j a R ha hR).sameT sc, okR.good (by omega), NR.nd0, n20, okR.named, fun H2 x s2 hx => ?_⟩
          have hc2 := s2 _ _ hc
          refine ⟨_, hc2, by rw [hyl]; exact small1000 (by omega), (sc.trans s2).later nc, ys ++ [x], upd_same, by rw [List.length_append, hyl]; rfl, fun i y R' hy hR' => ?_⟩
          by_cases k : i < j
          · rw [List.getElem?_append_left (by omega)] at hy
            rcases hyr i y R' hy hR' with z | ⟨d, z1, z2, z3⟩
            · exact .inl z
            · exact .inr ⟨d, z1, z2, (z3.same s2).off hc2⟩
          · have hi2 : i = j := by
              have := (List.getElem?_eq_some_iff.mp hy).1
              rw [List.length_append, List.length_singleton] at this
              omega
            subst hi2
            rw [List.getElem?_append_right (by omega), hyl, Nat.sub_self] at hy
            have e1 : x = y := Option.some.inj hy
            rw [hR] at hR'
            have e2 := Option.some.inj hR'
            subst e1 e2
            rcases hx with ⟨rfl, no⟩ | ⟨d, ps, f', rfl, hT, hv, hD⟩
            · exact .inl ⟨rfl, satB_not no⟩
            · exact .inr ⟨d, rfl, satB_iff.mpr hv, (show TbV ns H2 R d from ⟨ps, f', hT, hD⟩).off hc2⟩
        · rintro Hc ⟨sc, ys, hc, hyl, hyr⟩
          exact ⟨c, ys, rfl, sc, hc, by rw [hyl, List.length_map, hll0], hyr⟩
      rintro σ3 H12 ⟨t0, ys, rfl, s12, hY, hyl, hyr⟩
      -- those of the systems that have a solution
      refine ⟨fun σ' H' => ∃ c : Addr, σ' = [some (.ref s), some (.ref np), some (.ref L), some (.ref p), some (.ref et), some (.str l), some (.str r), some (.ref fo), some (.ref c), none, none, none, none, none, none, none, none, none] ∧ Same H11 H' ∧ TbsV ns H' c (Ss.filter satB), ?_, ?_⟩
      · refine ⟨.ref t0, rfl, t0, rfl, ⟨_, SqL.of hY⟩, fun c nc => ?_⟩
        refine lc_list (K := K) (a := t0) (xs := ys) (fun j H' => Same H12 H' ∧ TbsV ns H' c ((Ss.take j).filter satB)) ⟨same_upd nc, [], upd_same, rfl, fun i y R e => nomatch e⟩ (fun j H' _ h => SqL.of (h.1 _ _ hY)) ?_ ?_
        · rintro j v Hc hj ⟨sc, ds, hc, hdl, hdr⟩
          have hjl := (List.getElem?_eq_some_iff.mp hj).1
          obtain ⟨R, hR⟩ : ∃ R, Ss[j]? = some R := ⟨_, List.getElem?_eq_getElem (by omega)⟩
          have etake : Ss.take (j + 1) = Ss.take j ++ [R] := by rw [List.take_add_one, hR]; rfl
          rcases hyr j v R hj hR with ⟨rfl, no⟩ | ⟨d, rfl, yes, hT⟩
          · refine ⟨rfl, _, rfl, rfl, _, rfl, iteF ⟨sc, ds, hc, ?_, fun i d' R' a b => ?_⟩⟩
            · rw [etake, List.filter_append, List.filter_cons, if_neg (by rw [no]; exact Bool.false_ne_true), List.filter_nil, List.append_nil]
              exact hdl
            · rw [etake, List.filter_append, List.filter_cons, if_neg (by rw [no]; exact Bool.false_ne_true), List.filter_nil, List.append_nil] at b
              exact hdr i d' R' a b
          · have ef : (Ss.take (j + 1)).filter satB = (Ss.take j).filter satB ++ [R] := by
              rw [etake, List.filter_append, List.filter_cons, if_pos yes, List.filter_nil]
            refine ⟨rfl, _, rfl, rfl, _, rfl, iteT ⟨_, rfl, _, hc, ?_, sc.later nc, ds ++ [d], by rw [upd_same, List.map_append]; rfl, by rw [ef, List.length_append, List.length_append, hdl]; rfl, fun i d' R' hd' hR' => ?_⟩⟩
            · rw [List.length_map, hdl]
              exact small1000 (Nat.le_trans (List.length_filter_le _ _) (by rw [List.length_take]; omega))
            · rw [ef] at hR'
              by_cases k : i < ds.length
              · rw [List.getElem?_append_left k] at hd'
                rw [List.getElem?_append_left (by omega)] at hR'
                exact (hdr i d' R' hd' hR').off hc
              · have hi2 : i = ds.length := by
                  have := (List.getElem?_eq_some_iff.mp hd').1
                  rw [List.length_append, List.length_singleton] at this
                  omega
                subst hi2
                rw [List.getElem?_append_right (Nat.le_refl _), Nat.sub_self] at hd'
                rw [hdl, List.getElem?_append_right (Nat.le_refl _), Nat.sub_self] at hR'
                have e1 : d = d' := Option.some.inj hd'
                have e2 : R = R' := Option.some.inj hR'
                subst e1 e2
                exact (hT.same sc).off hc
        · rintro Hc ⟨sc, hc⟩
          rw [hyl, List.take_length] at hc
          exact ⟨c, rfl, s12.trans sc, hc⟩
      rintro σ4 H13 ⟨tc, rfl, s13, hT13⟩
      have s613 := s611.trans s13
      have RA13 := RA6.same s613
      generalize Ss.filter satB = Rz at *
      obtain ⟨ds, hds, hdsl, hdsr⟩ := id hT13
      -- the hull
      refine ⟨.ref p, rfl, p, dp, _, rfl, s613 _ _ hp6, rflds_no _ _ (by decide +kernel) (by decide +kernel), p, np', tl, ns, Rz, _, rfl, RA13, NR, few100, fun hz => ?_, fun hnz H14 hq s1314 nhq hHull => ?_⟩
      · refine ⟨true, Y.er.e, fun _ a0 ha0 => ?_, fun z => Bool.noConfusion z⟩
        refine ⟨.ref tc, rfl, Nat.zero_le _, fun l0 nl0 => ⟨tc, l0, _, rfl, rfl, SqL.of ((same_upd nl0) _ _ hds), SqL.of upd_same, ?_⟩⟩
        have e0 : ds = [] := List.length_eq_zero_iff.mp (by rw [hdsl, hz]; rfl)
        rw [e0]
        exact q _
      have hT14 := hT13.same s1314
      have het14 := ((s56.trans s613).trans s1314) _ _ het
      have s514 := (s56.trans s613).trans s1314
      clear hT13 RA13 RA5 RA6 hdsr hds hdsl
      obtain ⟨ds, hds, hdsl, hdsr⟩ := id hT14
      refine fun dd ndd => ?_
      have sdd := same_upd (o := HO.dT []) ndd
      have esN : (ns ++ [("0" : Str)]).Nodup := by
        have h := NR.nd0
        obtain ⟨a, b⟩ := List.nodup_cons.mp h
        exact List.nodup_append.mpr ⟨b, List.nodup_cons.mpr ⟨List.not_mem_nil, List.nodup_nil⟩, fun x hx y hy e => a (by rw [List.mem_singleton.mp hy] at e; exact e ▸ hx)⟩
      have es5 : (ns ++ [("0" : Str)]).length ≤ 25 := by
        rw [List.length_append]
        show ns.length + 1 ≤ 25
        omega
      have esM : ∀ x, x ∈ ns ++ [("0" : Str)] ↔ x ∈ (("0" : Str) :: ns) := fun x => by
        rw [List.mem_append, List.mem_singleton, List.mem_cons]
        exact Or.comm
      have inE' : ∀ x ∈ ns ++ [("0" : Str)], SideR ns x := inE
      clear ees l2
      generalize hes : ns ++ [("0" : Str)] = es at *
      have preL : ∀ (ps : List (Str × Str)), ps.Nodup → (∀ x ∈ ps, x.1 ∈ es ∧ x.2 ∈ es) → ps.length ≤ 625 := fun ps nd' sub => (TbAt.mk (H := upd H14 dd (.dT (dP ps (hv Rz)))) (d := dd) (f := hv Rz) upd_same nd' sub).len es5
      refine ⟨fun σ' H' => ∃ (y11 y12 : Option V), σ' = [some (.ref s), some (.ref np), some (.ref L), some (.ref p), some (.ref et), some (.str l), some (.str r), some (.ref fo), some (.ref tc), some (.ref hq), some (.ref dd), y11, y12, none, none, none, none, none] ∧ Same H14 H' ∧ H' dd = some (.dT (dP (prAll Rz es es) (hv Rz))), ?_, ?_⟩
      · refine ⟨.ref et, rfl, et, rfl, ⟨_, SqT.of (sdd _ _ het14)⟩, for_tup (K := K) (a := et) (xs := es.map V.str) (fun i σ H' => ∃ (y11 y12 : Option V), σ = [some (.ref s), some (.ref np), some (.ref L), some (.ref p), some (.ref et), some (.str l), some (.str r), some (.ref fo), some (.ref tc), some (.ref hq), some (.ref dd), y11, y12, none, none, none, none, none] ∧ Same H14 H' ∧ H' dd = some (.dT (dP (prAll Rz (es.take i) es) (hv Rz))))
          ⟨none, none, rfl, sdd, upd_same⟩ (fun i σ H' _ ⟨_, _, _, sm, _⟩ => SqT.of (sm _ _ het14)) ?_ ?_⟩
        · rintro i x σ H' hi ⟨y11, y12, rfl, sm, hd⟩
          obtain ⟨hiE, rfl, _, memU⟩ := pickT hi
          have sideU := inE' _ memU
          refine ⟨.ref et, rfl, et, rfl, ⟨_, SqT.of (sm _ _ het14)⟩, for_tup (K := K) (a := et) (xs := es.map V.str) (fun j σ H' => ∃ (y12 : Option V), σ = [some (.ref s), some (.ref np), some (.ref L), some (.ref p), some (.ref et), some (.str l), some (.str r), some (.ref fo), some (.ref tc), some (.ref hq), some (.ref dd), some (.str es[i]), y12, none, none, none, none, none] ∧ Same H14 H' ∧ H' dd = some (.dT (dP (prAll Rz (es.take i) es ++ prRow Rz es[i] (es.take j)) (hv Rz))))
            ⟨y12, rfl, sm, by
              show H' dd = some (.dT (dP (prAll Rz (es.take i) es ++ []) (hv Rz)))
              rw [List.append_nil]
              exact hd⟩ (fun j σ H' _ ⟨_, _, sm, _⟩ => SqT.of (sm _ _ het14)) ?_ ?_⟩
          · rintro j y σ H15 hj ⟨y12, rfl, s15, hd15⟩
            obtain ⟨hjE, rfl, _, memV⟩ := pickT hj
            have sideV := inE' _ memV
            have rowT : prRow Rz es[i] (es.take (j + 1)) = prRow Rz es[i] (es.take j) ++ prOne Rz es[i] es[j] := by
              unfold prRow
              rw [List.take_add_one, List.getElem?_eq_getElem hjE, List.flatMap_append]
              show _ ++ (prOne Rz es[i] es[j] ++ []) = _
              rw [List.append_nil]
            have out : (es[i], es[j]) ∉ prAll Rz (es.take i) es ++ prRow Rz es[i] (es.take j) := fun m => by
              rcases List.mem_append.mp m with m | m
              · exact take_out esN hiE (prAll_mem.mp m).1
              · exact take_out esN hjE (prRow_mem.mp m).2.1
            have nodupP : (prAll Rz (es.take i) es ++ prRow Rz es[i] (es.take j)).Nodup := by
              refine List.nodup_append.mpr ⟨prAll_nd Rz esN ((List.take_sublist i es).nodup esN), prRow_nd Rz es[i] ((List.take_sublist j es).nodup esN), fun a ha b hb e => ?_⟩
              subst e
              have := (prRow_mem.mp hb).1 ▸ (prAll_mem.mp ha).1
              exact take_out esN hiE this
            have lenP := preL _ nodupP fun x hx => by
              rcases List.mem_append.mp hx with m | m
              · exact ⟨List.mem_of_mem_take (prAll_mem.mp m).1, (prAll_mem.mp m).2.1⟩
              · exact ⟨(prRow_mem.mp m).1 ▸ memU, List.mem_of_mem_take (prRow_mem.mp m).2.1⟩
            rw [rowT, ← List.append_assoc]
            generalize prAll Rz (es.take i) es ++ prRow Rz es[i] (es.take j) = A at *
            generalize es[i] = u at *
            generalize es[j] = v at *
            refine ⟨.str u, rfl, .str v, rfl, rfl, _, rfl, ite2 (fun c => ?_) (fun c => ?_)⟩
            · have nuv : u ≠ v := fun e => by
                subst e
                simp at c
              have hTb : ∀ {Hc : Hp}, Same H15 Hc → TbsV ns Hc tc Rz := fun {Hc} sc => (hT14.same s15).same sc
              refine ⟨.ref tc, rfl, tc, rfl, ⟨_, SqL.of (s15 _ _ hds)⟩, fun ca nca => ?_⟩
              refine lc_list (K := K) (a := tc) (xs := ds.map V.ref) (fun k H' => Same H15 H' ∧ H' ca = some (.lst (((Rz.take k).map fun R => (D R u v).isSome).map V.bl))) ⟨same_upd nca, upd_same⟩ (fun k H' _ h => SqL.of (h.1 _ _ (s15 _ _ hds))) ?_ ?_
              · rintro k y Hc hk ⟨sc, hca⟩
                obtain ⟨d, rfl, hdk, hkl⟩ := pick_ref hk
                obtain ⟨R, hR⟩ : ∃ R, Rz[k]? = some R := ⟨_, List.getElem?_eq_getElem (by omega)⟩
                obtain ⟨ps, f', T1, e1⟩ := (hdsr k d R hdk hR).same (s15.trans sc)
                have hD := e1 u sideU v sideV
                refine ⟨rfl, ?_⟩
                unfold tYes
                refine iteT ?_
                refine ⟨_, rfl, _, rfl, sz2, fun tp ntp => ?_⟩
                have sT := same_upd (o := HO.tup [V.str u, V.str v]) ntp
                have etk : ((Rz.take (k + 1)).map fun R => (D R u v).isSome).map V.bl = ((Rz.take k).map fun R => (D R u v).isSome).map V.bl ++ [V.bl (D R u v).isSome] := by
                  rw [List.take_add_one, hR, List.map_append, List.map_append]
                  rfl
                have lenA : ((((Rz.take k).map fun R => (D R u v).isSome).map V.bl)).length < sizeLine := by
                  rw [List.length_map, List.length_map, List.length_take]
                  exact small1000 (by omega)
                by_cases m : (u, v) ∈ ps
                · rw [tbF_in m] at hD
                  refine ⟨_, rfl, d, _, rfl, (T1.same sT).get (p := (u, v)) upd_same m, _, sT _ _ hca, lenA, (sc.trans sT).later nca, ?_⟩
                  rw [upd_same, etk, hD]
                  rfl
                · rw [tbF_out m] at hD
                  refine ⟨_, rfl, d, _, rfl, (T1.same sT).get0 (p := (u, v)) upd_same m, _, sT _ _ hca, lenA, (sc.trans sT).later nca, ?_⟩
                  rw [upd_same, etk, hD]
                  rfl
              · rintro Hc ⟨sc, hca⟩
                have eR : (Rz.take (ds.map V.ref).length) = Rz := by rw [List.length_map, hdsl, List.take_length]
                rw [eR] at hca
                refine ⟨ca, _, rfl, SqL.of hca, _, rfl, ?_⟩
                have eA : ((Rz.map fun R => (D R u v).isSome).all id) = allB Rz u v := by
                  rw [List.all_map]
                  rfl
                rw [eA]
                refine ite2 (fun ca2 => ?_) (fun ca2 => ?_)
                · have hall : ∀ R ∈ Rz, ∃ k, D R u v = some k := allB_iff.mp ca2
                  have e1 : prOne Rz u v = [(u, v)] := by
                    unfold prOne
                    rw [if_pos ⟨nuv, ca2⟩]
                  rw [e1]
                  have s15c := sc
                  refine ⟨.ref tc, rfl, tc, rfl, ⟨_, SqL.of ((s15.trans sc) _ _ hds)⟩, fun cm ncm => ?_⟩
                  refine lc_list (K := K) (a := tc) (xs := ds.map V.ref) (fun k H' => Same Hc H' ∧ H' cm = some (.lst (((Rz.take k).map fun R => limD R u v).map V.int))) ⟨same_upd ncm, upd_same⟩ (fun k H' _ h => SqL.of (h.1 _ _ ((s15.trans sc) _ _ hds))) ?_ ?_
                  · rintro k y Hm hk ⟨sm, hcm⟩
                    obtain ⟨d, rfl, hdk, hkl⟩ := pick_ref hk
                    obtain ⟨R, hR⟩ : ∃ R, Rz[k]? = some R := ⟨_, List.getElem?_eq_getElem (by omega)⟩
                    obtain ⟨ps, f', T1, e1⟩ := (hdsr k d R hdk hR).same ((s15.trans sc).trans sm)
                    have hD := e1 u sideU v sideV
                    obtain ⟨kk, hkk⟩ := hall R (List.mem_of_getElem? hR)
                    refine ⟨rfl, ?_⟩
                    unfold tYes
                    refine iteT ?_
                    refine ⟨_, rfl, _, rfl, _, rfl, sz2, fun tp ntp => ?_⟩
                    have sT := same_upd (o := HO.tup [V.str u, V.str v]) ntp
                    by_cases m : (u, v) ∈ ps
                    · rw [tbF_in m] at hD
                      have ef : f' (u, v) = limD R u v := by
                        unfold limD
                        rw [hD]
                        rfl
                      refine ⟨d, _, rfl, (T1.same sT).get (p := (u, v)) upd_same m, _, sT _ _ hcm, ?_, (sm.trans sT).later ncm, ?_⟩
                      · rw [List.length_map, List.length_map, List.length_take]
                        exact small1000 (by omega)
                      · rw [upd_same, ef, List.take_add_one, hR, List.map_append, List.map_append]
                        rfl
                    · rw [tbF_out m, hkk] at hD
                      cases hD
                  · rintro Hm ⟨sm, hcm⟩
                    rw [eR] at hcm
                    have pos : 0 < (Rz.map fun R => limD R u v).length := by
                      rw [List.length_map]
                      exact List.length_pos_iff.mpr hnz
                    refine ⟨cm, _, rfl, SqL.of hcm, pos, fun m hm hmax => ?_⟩
                    have em : m = hv Rz (u, v) := maxL_unique hm hmax
                    subst em
                    have s15m := (s15.trans sc).trans sm
                    have hdm := (sc.trans sm) _ _ hd15
                    refine ⟨_, rfl, _, rfl, _, rfl, sz2, fun tk ntk => ?_⟩
                    have sK := same_upd (o := HO.tup [V.str u, V.str v]) ntk
                    have hput := DPut.t (k := Lo.kP (u, v)) (v := .int (hv Rz (u, v))) (b := tk) (sK _ _ hdm) upd_same (by rw [dP_len]; exact small1000 (by omega))
                    have epf : Lo.put (hv Rz) (u, v) (hv Rz (u, v)) = hv Rz := by
                      funext z
                      by_cases e : z = (u, v)
                      · rw [e, put_at]
                      · rw [put_off e]
                    have ead : addN A (u, v) = A ++ [(u, v)] := if_neg out
                    rw [dP_put, epf, ead] at hput
                    exact ⟨dd, _, rfl, hput, _, rfl, (s15m.trans sK).later ndd, upd_same⟩
                · have e1 : prOne Rz u v = [] := by
                    unfold prOne
                    rw [if_neg fun z => ca2 z.2]
                  rw [e1, List.append_nil]
                  exact ⟨_, rfl, s15.trans sc, sc _ _ hd15⟩
            · have euv : u = v := by
                simp at c
                exact c
              have e1 : prOne Rz u v = [] := by
                unfold prOne
                rw [if_neg fun z => z.1 euv]
              rw [e1, List.append_nil]
              exact ⟨_, rfl, s15, hd15⟩
          · rintro σ H15 ⟨y12, rfl, s15, hd15⟩
            have e1 : prAll Rz (es.take (i + 1)) es = prAll Rz (es.take i) es ++ prRow Rz es[i] es := by
              unfold prAll
              rw [List.take_add_one, List.getElem?_eq_getElem hiE, List.flatMap_append]
              show _ ++ (prRow Rz es[i] es ++ []) = _
              rw [List.append_nil]
            rw [List.length_map, List.take_length] at hd15
            exact ⟨_, _, rfl, s15, by rw [e1]; exact hd15⟩
        · rintro σ H15 ⟨y11, y12, rfl, s15, hd15⟩
          rw [List.length_map, List.take_length] at hd15
          exact ⟨_, _, rfl, s15, hd15⟩
      rintro σ5 H15 ⟨y11, y12, rfl, s15, hd15⟩
      obtain ⟨hs, hh1, hh2, hh3⟩ := id hHull
      have ndd0 := ndd
      have hh15 := s15 _ _ hh1
      have hds15 := s15 _ _ hds
      have neD : (ds.map V.ref).isEmpty = false := by
        cases ds with
        | nil => exact absurd (List.length_eq_zero_iff.mp hdsl.symm) hnz
        | cons a b => rfl
      refine ⟨.ref tc, rfl, Nat.zero_le _, fun l0 nl0 => ?_⟩
      have sl0 := same_upd (o := HO.lst []) nl0
      refine ⟨tc, l0, _, rfl, rfl, SqL.of (sl0 _ _ hds15), SqL.of upd_same, _, rfl, ?_⟩
      rw [neD]
      refine iteF ?_
      have hd16 := sl0 _ _ hd15
      have hh16 := sl0 _ _ hh15
      have s16 := s15.trans sl0
      generalize upd H15 l0 (.lst []) = H16 at *
      have lenH : (hs.map V.ref).length = (dP (prAll Rz es es) (hv Rz)).length := by
        rw [List.length_map, hh2, hullAll_pr, List.length_map, dP_len]
        exact prAll_len Rz NR.nd0 esN fun x => (esM x).symm
      refine ⟨.ref hq, rfl, hq, _, rfl, .inl (SqL.of hh16), .ref dd, rfl, dd, _, rfl, hd16, rfl, _, rfl, ?_⟩
      rw [lenH, decide_eq_true rfl]
      refine iteF ?_
      refine ⟨_, rfl, _, _, _, _, true, rfl, .ty _, .base (.lst hh16), kit_ty (by decide +kernel), true, rfl, iteF ?_⟩
      have TD : TbAt H16 dd es (prAll Rz es es) (hv Rz) := ⟨hd16, prAll_nd Rz esN esN, fun x hx => ⟨(prAll_mem.mp hx).1, (prAll_mem.mp hx).2.1⟩⟩
      refine ⟨.ref hq, rfl, hq, rfl, ⟨_, SqL.of hh16⟩, fun ca nca => ?_⟩
      have lenHs : hs.length ≤ 625 := by
        rw [List.length_map, dP_len] at lenH
        rw [lenH]
        exact preL _ (prAll_nd Rz esN esN) fun x hx => ⟨(prAll_mem.mp hx).1, (prAll_mem.mp hx).2.1⟩
      refine lc_list (K := K) (a := hq) (xs := hs.map V.ref) (fun k H' => Same H16 H' ∧ H' ca = some (.lst ((List.replicate k true).map V.bl))) ⟨same_upd nca, upd_same⟩ (fun k H' _ h => SqL.of (h.1 _ _ hh16)) ?_ ?_
      · rintro k y Hc hk ⟨sc, hca⟩
        obtain ⟨t, rfl, htk, hkl⟩ := pick_ref hk
        obtain ⟨row, hrow⟩ : ∃ row, (hullAll Rz (("0" : Str) :: ns))[k]? = some row := ⟨_, List.getElem?_eq_getElem (by omega)⟩
        have ht : Hc t = some (.tup [.str row.1, .str row.2.1, .int row.2.2]) := (s16.trans sc) _ _ (hh3 k t row htk hrow)
        have hm : (row.1, row.2.1) ∈ prAll Rz es es ∧ row.2.2 = hv Rz (row.1, row.2.1) := by
          have m := List.mem_of_getElem? hrow
          rw [hullAll_pr] at m
          obtain ⟨pr, hpr, e⟩ := List.mem_map.mp m
          obtain ⟨h1, h2, h3⟩ := prAll_mem.mp hpr
          have m2 : pr ∈ prAll Rz es es := prAll_mem.mpr ⟨(esM _).mpr h1, (esM _).mpr h2, h3⟩
          rw [← e]
          exact ⟨m2, rfl⟩
        refine ⟨rfl, ?_⟩
        unfold tYes
        refine iteT ?_
        refine ⟨.ref t, rfl, t, _, 0, _, rfl, rfl, SqT.of ht, atI_nat (j := 0) rfl, .ref t, rfl, t, _, 1, _, rfl, rfl, SqT.of ht, atI_nat (j := 1) rfl, sz2, fun tk ntk => ?_⟩
        have sK := same_upd (o := HO.tup [V.str row.1, V.str row.2.1]) ntk
        refine ⟨_, rfl, dd, _, rfl, ((TD.same sc).same sK).get (p := (row.1, row.2.1)) upd_same hm.1, true, rfl, iteT ?_⟩
        refine ⟨_, rfl, .ref t, rfl, t, _, 0, _, rfl, rfl, SqT.of (sK _ _ ht), atI_nat (j := 0) rfl, .ref t, rfl, t, _, 1, _, rfl, rfl, SqT.of (sK _ _ ht), atI_nat (j := 1) rfl, sz2, fun tq ntq => ?_⟩
        have sQ := same_upd (o := HO.tup [V.str row.1, V.str row.2.1]) ntq
        have sKQ := (sc.trans sK).trans sQ
        refine ⟨dd, _, rfl, (TD.same sKQ).get (p := (row.1, row.2.1)) upd_same hm.1, .ref t, rfl, t, _, 2, _, rfl, rfl, SqT.of ((sK.trans sQ) _ _ ht), atI_nat (j := 2) rfl, rfl, ?_⟩
        rw [hm.2, decide_eq_true rfl]
        refine ⟨_, (sK.trans sQ) _ _ hca, ?_, sKQ.later nca, ?_⟩
        · rw [List.length_map, List.length_replicate]
          exact small1000 (by omega)
        · rw [upd_same, List.replicate_succ', List.map_append]
          rfl
      · rintro Hc ⟨sc, hca⟩
        refine ⟨ca, _, rfl, SqL.of hca, ?_⟩
        have e1 : (List.replicate (hs.map V.ref).length true).all id = true := by
          rw [List.all_eq_true]
          intro b hb
          rw [(List.mem_replicate.mp hb).2]
          rfl
        rw [e1]
        exact q _
end
end Lo
namespace Lo
open PySem L2
/-- a def of the top, as it stands behind it -/
structure Df (K : PySem.W.Frag) (x : Str) (st : Stmt) (f : Addr) (fd : FuncData) : Prop where
  ns : PySem.W.nsIn K mainGlobals x = some (some (.ref f))
  fn : Fun K x x st f fd
theorem df_mk {K : PySem.W.Frag} {x : Str} {st : Stmt} {f : Addr} {oc : Value} {od an : Option Addr} {osl : Array (Option Value)} {kV doc pm cdv ct : Value} (a : PySem.W.nsIn K mainGlobals x = some (some (.ref f)))
    (l : K.lookup f = some ⟨oc, od, .func (PySem.W.fnOf x x (defArgs st) (defBody st) (defScope st) .none kV doc pm an cdv ct), osl⟩) (c : PySem.W.codeIn K cdv x = true) (k : PySem.W.keepIn K (.ref f) = true) :
    Df K x st f (PySem.W.fnOf x x (defArgs st) (defBody st) (defScope st) .none kV doc pm an cdv ct) := ⟨a, fun_mk l c k⟩
theorem err_self {K : PySem.W.Frag} {C : Addr} (h1 : PySem.W.subIn K (.ref C) (.type "BaseException") = some true) (h2 : PySem.W.isClsIn K C = true) (h3 : PySem.W.typeIn K (.ref C) = some (.type "type")) (h4 : PySem.W.subIn K (.ref C) (.ref C) = some true) : PySem.W.exmOne K (.ref C) (.ref C) = some true := by
  unfold PySem.W.isClsIn at h2
  simp [PySem.W.exmOne, PySem.W.kitCls, h1, h2, h3, h4]
theorem all_mk {l : PySem.W.OpenLaw} {w : World} {K : PySem.W.Frag} {h : Heap} {mg : Str → Option Value} {fa f1 f2 f3 f4 f5 f6 f7 f8 f9 f10 f11 f12 f13 f14 f15 f16 f17 f18 f19 f20 f21 f22 f23 f24 f25 f26 C cNoSolution gi gh gs : Addr} (X0 : K.In h) (G : h.Ns mainGlobals mg) (hfa : mg "law" = some (.ref fa))
    {fd1 fd2 fd3 fd4 fd5 fd6 fd7 fd8 fd9 fd10 fd11 fd12 fd13 fd14 fd15 fd16 fd17 fd18 fd19 fd20 fd21 fd22 fd23 fd24 fd25 : FuncData}
    (D1 : Df K "is_whole" sWhole f1 fd1)
    (D2 : Df K "is_side" sSide f2 fd2)
    (D3 : Df K "is_difference" sDiff f3 fd3)
    (D4 : Df K "is_name" sIsName f4 fd4)
    (D5 : Df K "read_names" sReadN f5 fd5)
    (D6 : Df K "limit_of" sLimit f6 fd6)
    (D7 : Df K "tightened" sTightened f7 fd7)
    (D8 : Df K "_with_rows" sWithRows f8 fd8)
    (D9 : Df K "_lowered" sLowered f9 fd9)
    (D10 : Df K "table_of" sTableOf f10 fd10)
    (D11 : Df K "_fits" sFits f11 fd11)
    (D12 : Df K "_checked" sChecked f12 fd12)
    (D13 : Df K "_read_tables" sReadTs f13 fd13)
    (D14 : Df K "_stretches" sStretches f14 fd14)
    (D15 : Df K "_low_of" sLowOf f15 fd15)
    (D16 : Df K "_touches" sTouches f16 fd16)
    (D17 : Df K "_higher" sHigher f17 fd17)
    (D18 : Df K "_law_draw" sDraw f18 fd18)
    (D19 : Df K "_law_pool" sPool f19 fd19)
    (D20 : Df K "_law_system" sSystem f20 fd20)
    (D21 : Df K "_law_table" sLTable f21 fd21)
    (D22 : Df K "_law_parts" sLParts f22 fd22)
    (D23 : Df K "_law_has" sLHas f23 fd23)
    (D24 : Df K "_law_right" sLRight f24 fd24)
    (D25 : Df K "_law_joins" sLJoins f25 fd25)
    {od an : Option Addr} {sl : Array (Option Value)} {oc kV dc pm cd ct : Value}
    (aL : PySem.W.nsIn K mainGlobals "law" = some (some (.ref f26))) (lL : K.lookup f26 = some ⟨oc, od, .func (PySem.W.fnOf "law" "law" (defArgs sLaw10) (defBody sLaw10) (defScope sLaw10) .none kV dc pm an cd ct), sl⟩) (cL : PySem.W.codeIn K cd "law" = true) (kL : PySem.W.keepIn K (.ref f26) = true)
    (z_isi : PySem.W.nsIn K mainGlobals "isinstance" = some none)
    (z_int : PySem.W.nsIn K mainGlobals "int" = some none)
    (z_bool : PySem.W.nsIn K mainGlobals "bool" = some none)
    (z_str : PySem.W.nsIn K mainGlobals "str" = some none)
    (z_tuple : PySem.W.nsIn K mainGlobals "tuple" = some none)
    (z_list : PySem.W.nsIn K mainGlobals "list" = some none)
    (z_len : PySem.W.nsIn K mainGlobals "len" = some none)
    (z_enum : PySem.W.nsIn K mainGlobals "enumerate" = some none)
    (z_range : PySem.W.nsIn K mainGlobals "range" = some none)
    (z_all : PySem.W.nsIn K mainGlobals "all" = some none)
    (z_sorted : PySem.W.nsIn K mainGlobals "sorted" = some none)
    (z_set : PySem.W.nsIn K mainGlobals "set" = some none)
    (z_sum : PySem.W.nsIn K mainGlobals "sum" = some none)
    (z_dict : PySem.W.nsIn K mainGlobals "dict" = some none)
    (z_max : PySem.W.nsIn K mainGlobals "max" = some none)
    (z_rev : PySem.W.nsIn K mainGlobals "reversed" = some none)
    (cC : PySem.W.nsIn K mainGlobals "Region" = some (some (.ref C)))
    (pg : PySem.W.plainGet K C Str.empty = true)
    (hd : PySem.W.hasDictIn K C = true)
    (po : PySem.W.plainOver K C = true)
    (sa : PySem.W.findIn K (.ref C) "__setattr__" = some (some (.builtin "object.__setattr__")))
    (mk : PySem.W.makesIn K C = true)
    (kc : PySem.W.keepIn K (.ref C) = true)
    (nN : PySem.W.findIn K (.ref C) "_names" = some none)
    (nT : PySem.W.findIn K (.ref C) "_tables" = some none)
    (wi : PySem.W.findIn K (.ref C) "__init__" = some (some (.ref gi)))
    (wh : PySem.W.findIn K (.ref C) "hull" = some (some (.ref gh)))
    (ws : PySem.W.findIn K (.ref C) "spread" = some (some (.ref gs)))
    {odi ani : Option Addr} {sli : Array (Option Value)} {oci kVi dci pmi cdi cti : Value}
    (l_i : K.lookup gi = some ⟨oci, odi, .func (PySem.W.fnOf "__init__" "Region.__init__" (defArgs sRInit) (defBody sRInit) (defScope sRInit) .none kVi dci pmi ani cdi cti), sli⟩)
    (c_i : PySem.W.codeIn K cdi "Region.__init__" = true)
    (k_i : PySem.W.keepIn K (.ref gi) = true)
    {odh anh : Option Addr} {slh : Array (Option Value)} {och kVh dch pmh cdh cth : Value}
    (l_h : K.lookup gh = some ⟨och, odh, .func (PySem.W.fnOf "hull" "Region.hull" (defArgs sRHull) (defBody sRHull) (defScope sRHull) .none kVh dch pmh anh cdh cth), slh⟩)
    (c_h : PySem.W.codeIn K cdh "Region.hull" = true)
    (k_h : PySem.W.keepIn K (.ref gh) = true)
    {ods ans : Option Addr} {sls : Array (Option Value)} {ocs kVs dVs dcs pms cds cts : Value}
    (l_s : K.lookup gs = some ⟨ocs, ods, .func (PySem.W.fnOf "spread" "Region.spread" (defArgs sRSpread) (defBody sRSpread) (defScope sRSpread) dVs kVs dcs pms ans cds cts), sls⟩)
    (c_s : PySem.W.codeIn K cds "Region.spread" = true)
    (k_s : PySem.W.keepIn K (.ref gs) = true)
    (i_i : PySem.W.isFn K (.ref gi) = true)
    (i_h : PySem.W.isFn K (.ref gh) = true)
    (i_s : PySem.W.isFn K (.ref gs) = true)
    (dfl : He.dflB K dVs [V.str "0"] = true)
    (eaNoSolution : PySem.W.nsIn K mainGlobals "NoSolution" = some (some (.ref cNoSolution)))
    (exNoSolution : PySem.W.excIn K cNoSolution [.type "ValueError", .type "Exception", .type "BaseException", .type "object"] "ValueError.__new__" = true)
    (ekNoSolution : PySem.W.keepIn K (.ref cNoSolution) = true)
    (ebNoSolution : PySem.W.subIn K (.ref cNoSolution) (.type "BaseException") = some true)
    (etNoSolution : PySem.W.typeIn K (.ref cNoSolution) = some (.type "type"))
    (eiNoSolution : PySem.W.isClsIn K cNoSolution = true)
    (esNoSolution : PySem.W.subIn K (.ref cNoSolution) (.ref cNoSolution) = some true)
    : ∃ fd : FuncData, (∀ (s : Shared) (v : Value), BindsTo s fd ⟨[v], []⟩ [("script", v)]) ∧ ∀ base : Heap, K.In base → base.Ns mainGlobals mg → FnOk l.prog w K mg base CX0 9 fa fd ["script"] (spLaw10 K) := by
  have e := hfa.symm.trans (PySem.W.mg_of X0 G aL)
  cases e
  have T : Blt mg := ⟨PySem.W.mg_none_of X0 G z_isi, PySem.W.mg_none_of X0 G z_int, PySem.W.mg_none_of X0 G z_bool, PySem.W.mg_none_of X0 G z_str, PySem.W.mg_none_of X0 G z_tuple, PySem.W.mg_none_of X0 G z_list, PySem.W.mg_none_of X0 G z_len, PySem.W.mg_none_of X0 G z_enum, PySem.W.mg_none_of X0 G z_range, PySem.W.mg_none_of X0 G z_all⟩
  have U : Blt2 mg := ⟨PySem.W.mg_none_of X0 G z_sorted, PySem.W.mg_none_of X0 G z_set, PySem.W.mg_none_of X0 G z_sum, PySem.W.mg_none_of X0 G z_dict⟩
  have NNoSolution : Err K mg "NoSolution" cNoSolution := ⟨PySem.W.mg_of X0 G eaNoSolution, exNoSolution, ekNoSolution, ebNoSolution, etNoSolution, err_self ebNoSolution eiNoSolution etNoSolution esNoSolution⟩
  have Fi := fun_mk (st := sRInit) l_i c_i k_i
  have bi := Fi.binds (ps := ["self", "names", "systems"]) fun _ _ _ _ _ _ us hl => match us, hl with | [_, _, _], _ => rfl
  have Fh := fun_mk (st := sRHull) l_h c_h k_h
  have bh := Fh.binds (ps := ["self"]) fun _ _ _ _ _ _ us hl => match us, hl with | [_], _ => rfl
  have Fs : FunD K "spread" "Region.spread" (defArgs sRSpread) (defBody sRSpread) (defScope sRSpread) [V.str "0"] [] gs _ := ⟨⟨_, _, _, _, _, _, _, _, _, _, rfl, l_s, c_s, He.dflB_ok dfl, .inl rfl⟩, k_s⟩
  obtain ⟨d0, v0, bX⟩ := FunD.binds1 (ps := ["self", "left", "right"]) Fs 3 1 (by simp) rfl fun T kV doc pm an cdv ct us its hl1 hl2 => match us, its, hl1, hl2 with | [_, _, _], [_], _, _ => ⟨_, rfl, rfl⟩
  cases v0
  obtain ⟨dz, vz, bX1⟩ := FunD.binds1 (ps := ["self", "left", "right"]) Fs 2 0 (by simp) rfl fun T kV doc pm an cdv ct us its hl1 hl2 => match us, its, hl1, hl2 with | [_, _], [_], _, _ => ⟨_, rfl, rfl⟩
  have X : RTxt K mg C gi := ⟨⟨pg, hd, po, sa⟩, nN, nT, ⟨mk, wi, i_i, kc⟩, PySem.W.mg_of X0 G cC⟩
  have Y : RLaw10 K mg C cNoSolution gs gh := ⟨⟨ws, i_s, k_s⟩, ⟨wh, i_h, k_h⟩, NNoSolution, PySem.W.mg_none_of X0 G z_rev, PySem.W.mg_none_of X0 G z_max⟩
  have m1 := PySem.W.mg_of X0 G D1.ns
  have k1 := D1.fn.kp
  have b1 := D1.fn.binds (ps := ["thing"]) fun _ _ _ _ _ _ us hl => match us, hl with | [_], _ => rfl
  have m2 := PySem.W.mg_of X0 G D2.ns
  have k2 := D2.fn.kp
  have b2 := D2.fn.binds (ps := ["thing"]) fun _ _ _ _ _ _ us hl => match us, hl with | [_], _ => rfl
  have m3 := PySem.W.mg_of X0 G D3.ns
  have k3 := D3.fn.kp
  have b3 := D3.fn.binds (ps := ["thing"]) fun _ _ _ _ _ _ us hl => match us, hl with | [_], _ => rfl
  have m4 := PySem.W.mg_of X0 G D4.ns
  have k4 := D4.fn.kp
  have b4 := D4.fn.binds (ps := ["thing"]) fun _ _ _ _ _ _ us hl => match us, hl with | [_], _ => rfl
  have m5 := PySem.W.mg_of X0 G D5.ns
  have k5 := D5.fn.kp
  have b5 := D5.fn.binds (ps := ["names"]) fun _ _ _ _ _ _ us hl => match us, hl with | [_], _ => rfl
  have m6 := PySem.W.mg_of X0 G D6.ns
  have k6 := D6.fn.kp
  have b6 := D6.fn.binds (ps := ["table", "left", "right"]) fun _ _ _ _ _ _ us hl => match us, hl with | [_, _, _], _ => rfl
  have m7 := PySem.W.mg_of X0 G D7.ns
  have k7 := D7.fn.kp
  have b7 := D7.fn.binds (ps := ["table", "left", "right", "limit"]) fun _ _ _ _ _ _ us hl => match us, hl with | [_, _, _, _], _ => rfl
  have m8 := PySem.W.mg_of X0 G D8.ns
  have k8 := D8.fn.kp
  have b8 := D8.fn.binds (ps := ["table", "left", "right"]) fun _ _ _ _ _ _ us hl => match us, hl with | [_, _, _], _ => rfl
  have m9 := PySem.W.mg_of X0 G D9.ns
  have k9 := D9.fn.kp
  have b9 := D9.fn.binds (ps := ["row", "base", "further"]) fun _ _ _ _ _ _ us hl => match us, hl with | [_, _, _], _ => rfl
  have m10 := PySem.W.mg_of X0 G D10.ns
  have k10 := D10.fn.kp
  have b10 := D10.fn.binds (ps := ["differences"]) fun _ _ _ _ _ _ us hl => match us, hl with | [_], _ => rfl
  have m11 := PySem.W.mg_of X0 G D11.ns
  have k11 := D11.fn.kp
  have b11 := D11.fn.binds (ps := ["names", "difference"]) fun _ _ _ _ _ _ us hl => match us, hl with | [_, _], _ => rfl
  have m12 := PySem.W.mg_of X0 G D12.ns
  have k12 := D12.fn.kp
  have b12 := D12.fn.binds (ps := ["names", "system"]) fun _ _ _ _ _ _ us hl => match us, hl with | [_, _], _ => rfl
  have m13 := PySem.W.mg_of X0 G D13.ns
  have k13 := D13.fn.kp
  have b13 := D13.fn.binds (ps := ["names", "systems"]) fun _ _ _ _ _ _ us hl => match us, hl with | [_, _], _ => rfl
  have m14 := PySem.W.mg_of X0 G D14.ns
  have k14 := D14.fn.kp
  have b14 := D14.fn.binds (ps := ["tables", "left", "right"]) fun _ _ _ _ _ _ us hl => match us, hl with | [_, _, _], _ => rfl
  have m15 := PySem.W.mg_of X0 G D15.ns
  have k15 := D15.fn.kp
  have b15 := D15.fn.binds (ps := ["stretch"]) fun _ _ _ _ _ _ us hl => match us, hl with | [_], _ => rfl
  have m16 := PySem.W.mg_of X0 G D16.ns
  have k16 := D16.fn.kp
  have b16 := D16.fn.binds (ps := ["stretch", "low"]) fun _ _ _ _ _ _ us hl => match us, hl with | [_, _], _ => rfl
  have m17 := PySem.W.mg_of X0 G D17.ns
  have k17 := D17.fn.kp
  have b17 := D17.fn.binds (ps := ["one", "other"]) fun _ _ _ _ _ _ us hl => match us, hl with | [_, _], _ => rfl
  have m18 := PySem.W.mg_of X0 G D18.ns
  have k18 := D18.fn.kp
  have b18 := D18.fn.binds (ps := ["script", "at", "many"]) fun _ _ _ _ _ _ us hl => match us, hl with | [_, _, _], _ => rfl
  have m19 := PySem.W.mg_of X0 G D19.ns
  have k19 := D19.fn.kp
  have b19 := D19.fn.binds (ps := ["script", "at"]) fun _ _ _ _ _ _ us hl => match us, hl with | [_, _], _ => rfl
  have m20 := PySem.W.mg_of X0 G D20.ns
  have k20 := D20.fn.kp
  have b20 := D20.fn.binds (ps := ["script", "at", "names", "most"]) fun _ _ _ _ _ _ us hl => match us, hl with | [_, _, _, _], _ => rfl
  have m21 := PySem.W.mg_of X0 G D21.ns
  have k21 := D21.fn.kp
  have b21 := D21.fn.binds (ps := ["names", "system"]) fun _ _ _ _ _ _ us hl => match us, hl with | [_, _], _ => rfl
  have m22 := PySem.W.mg_of X0 G D22.ns
  have k22 := D22.fn.kp
  have b22 := D22.fn.binds (ps := ["script", "at", "names", "most"]) fun _ _ _ _ _ _ us hl => match us, hl with | [_, _, _, _], _ => rfl
  have m23 := PySem.W.mg_of X0 G D23.ns
  have k23 := D23.fn.kp
  have b23 := D23.fn.binds (ps := ["names", "systems", "left", "right", "worth"]) fun _ _ _ _ _ _ us hl => match us, hl with | [_, _, _, _, _], _ => rfl
  have m24 := PySem.W.mg_of X0 G D24.ns
  have k24 := D24.fn.kp
  have b24 := D24.fn.binds (ps := ["names", "systems", "left", "right", "found"]) fun _ _ _ _ _ _ us hl => match us, hl with | [_, _, _, _, _], _ => rfl
  have m25 := PySem.W.mg_of X0 G D25.ns
  have k25 := D25.fn.kp
  have b25 := D25.fn.binds (ps := ["script", "names"]) fun _ _ _ _ _ _ us hl => match us, hl with | [_, _], _ => rfl
  refine ⟨PySem.W.fnOf "law" "law" (defArgs sLaw10) (defBody sLaw10) (defScope sLaw10) .none kV dc pm an cd ct, fun s v => .of_eq rfl, fun base _ _ => ?_⟩
  have G2 : FnOk l.prog w K mg base CX0 1 f2 fd2 ["thing"] spSide := ok_side D2.fn T
  have G3 : FnOk l.prog w K mg base CX0 2 f3 fd3 ["thing"] spDiff := ok_diff D3.fn T D2.fn b2 m2 D1.fn b1 m1
  have G4 : FnOk l.prog w K mg base CX0 2 f4 fd4 ["thing"] spIsName := ok_isname D4.fn G2 k2 b2 m2
  have G5 : FnOk l.prog w K mg base CX0 3 f5 fd5 ["names"] (spReadN K) := ok_readn D5.fn T G4 k4 b4 m4
  have G6 : FnOk l.prog w K mg base CX0 1 f6 fd6 ["table", "left", "right"] spLimit := ok_limit D6.fn 
  have G9 : FnOk l.prog w K mg base CX0 1 f9 fd9 ["row", "base", "further"] spLowered := ok_lowered D9.fn U
  have G8 : FnOk l.prog w K mg base CX0 1 f8 fd8 ["table", "left", "right"] spWithRows := ok_withrows D8.fn U
  have Ga7 : FnOk l.prog w K mg base CX0 2 f7 fd7 ["table", "left", "right", "limit"] spTight1 := ok_tight1 D7.fn U G9 k9 b9 m9
  have Gb7 : FnOk l.prog w K mg base CX0 3 f7 fd7 ["table", "left", "right", "limit"] spTight0 := ok_tight0 D7.fn b7 m7 Ga7 G8 k8 b8 m8
  have G7 : FnOk l.prog w K mg base CX0 3 f7 fd7 ["table", "left", "right", "limit"] spTight' := ok_tightened Ga7 Gb7
  have G10 : FnOk l.prog w K mg base CX0 4 f10 fd10 ["differences"] spTableOf := ok_tableof D10.fn G7 k7 b7 m7
  have G11 : FnOk l.prog w K mg base CX0 1 f11 fd11 ["names", "difference"] (spFits K) := ok_fits D11.fn 
  have G12 : FnOk l.prog w K mg base CX0 3 f12 fd12 ["names", "system"] (spChecked K) := ok_checked D12.fn T G3 k3 b3 m3 G11 k11 b11 m11
  have G13 : FnOk l.prog w K mg base CX0 5 f13 fd13 ["names", "systems"] (spReadTs K) := ok_readts D13.fn G12 k12 b12 m12 G10 k10 b10 m10
  have GI : FnOk l.prog w K mg base CX0 6 gi _ ["self", "names", "systems"] (spRInit K C) := ok_rinit Fi X G5 k5 b5 m5 G13 k13 b13 m13
  have G15 : FnOk l.prog w K mg base CX0 1 f15 fd15 ["stretch"] spLowOf := ok_lowof D15.fn 
  have G14 : FnOk l.prog w K mg base CX0 4 f14 fd14 ["tables", "left", "right"] spStretches := ok_stretches D14.fn (PySem.W.mg_none_of X0 G z_sorted) G6 k6 b6 m6 G15 b15 m15
  have G16 : FnOk l.prog w K mg base CX0 1 f16 fd16 ["stretch", "low"] spTouches := ok_touches D16.fn 
  have G17 : FnOk l.prog w K mg base CX0 1 f17 fd17 ["one", "other"] spHigher := ok_higher D17.fn (PySem.W.mg_none_of X0 G z_max)
  have GX : FnOk l.prog w K mg base CX0 5 gs _ ["self", "left", "right"] (spSpread C) := ok_spread Fs X G2 k2 b2 m2 G14 k14 b14 m14 G16 k16 b16 m16 G17 k17 b17 m17
  have GH : FnOk l.prog w K mg base (L2.CX l.prog w) 2 gh _ ["self"] (spHull C cNoSolution) := ok_hull Fh X NNoSolution (PySem.W.mg_none_of X0 G z_max) G6 k6 b6 m6
  have G18 : FnOk l.prog w K mg base CX0 1 f18 fd18 ["script", "at", "many"] (spDraw K) := ok_draw D18.fn T
  have G19 : FnOk l.prog w K mg base CX0 2 f19 fd19 ["script", "at"] (spPool K) := ok_pool D19.fn G18 k18 b18 m18
  have G20 : FnOk l.prog w K mg base CX0 2 f20 fd20 ["script", "at", "names", "most"] (spSystem K) := ok_system D20.fn T G18 k18 b18 m18
  have G21 : FnOk l.prog w K mg base CX0 1 f21 fd21 ["names", "system"] spLTable := ok_ltable D21.fn T
  have G22 : FnOk l.prog w K mg base CX0 3 f22 fd22 ["script", "at", "names", "most"] (spLParts K) := ok_lparts D22.fn T G18 k18 b18 m18 G20 k20 b20 m20
  have G23 : FnOk l.prog w K mg base CX0 2 f23 fd23 ["names", "systems", "left", "right", "worth"] spHas := ok_has D23.fn G21 k21 b21 m21
  have G24 : FnOk l.prog w K mg base CX0 3 f24 fd24 ["names", "systems", "left", "right", "found"] spRight := ok_right D24.fn T G21 k21 b21 m21 G23 k23 b23 m23
  have G25 : FnOk l.prog w K mg base CX0 8 f25 fd25 ["script", "names"] (spJoins K) := ok_joins D25.fn T X ⟨ws, i_s, k_s⟩ G18 k18 b18 m18 GI bi GX bX
  exact ok_law10 (fun_mk (st := sLaw10) lL cL kL) T X Y G19 k19 b19 m19 G18 k18 b18 m18 G22 k22 b22 m22 G21 k21 b21 m21 G25 k25 b25 m25 G24 k24 b24 m24 GI bi GX bX bX1 vz GH bh
end Lo
open PySem PySem.W PyProof.Rows
set_option maxHeartbeats 0 in
theorem PySem.Challenge.cw_loopsheds_k10_spread_holds : PySem.Challenge.rw_loopsheds_k10_spread.Holds := by
  w_on; o_law; k_head; (case hw => w_witness2)
  k_fill
  refine L2.walk_of (l := PySem.Challenge.rw_loopsheds_k10_spread) (n := 63) (k := 9) (x := "script") (CX := fun _ => L2.CX0) (sp := fun w => Lo.spLaw10 _) rfl (by decide) rfl ⟨rfl, by decide, by decide⟩ (fun w h Y => PySem.W.kIn_of Y) ?F (fun _ _ a ns hl _ hS => ⟨a, rfl, ⟨ns, hS, hl⟩, fun _ => rfl⟩) (fun _ _ _ _ _ h => h)
  case F =>
    intro w mg fa h KX G hmg
    refine' Lo.all_mk KX G hmg (Lo.df_mk ?a1 ?l1 ?c1 ?k1) (Lo.df_mk ?a2 ?l2 ?c2 ?k2) (Lo.df_mk ?a3 ?l3 ?c3 ?k3) (Lo.df_mk ?a4 ?l4 ?c4 ?k4) (Lo.df_mk ?a5 ?l5 ?c5 ?k5) (Lo.df_mk ?a6 ?l6 ?c6 ?k6) (Lo.df_mk ?a7 ?l7 ?c7 ?k7) (Lo.df_mk ?a8 ?l8 ?c8 ?k8) (Lo.df_mk ?a9 ?l9 ?c9 ?k9) (Lo.df_mk ?a10 ?l10 ?c10 ?k10) (Lo.df_mk ?a11 ?l11 ?c11 ?k11) (Lo.df_mk ?a12 ?l12 ?c12 ?k12) (Lo.df_mk ?a13 ?l13 ?c13 ?k13) (Lo.df_mk ?a14 ?l14 ?c14 ?k14) (Lo.df_mk ?a15 ?l15 ?c15 ?k15) (Lo.df_mk ?a16 ?l16 ?c16 ?k16) (Lo.df_mk ?a17 ?l17 ?c17 ?k17) (Lo.df_mk ?a18 ?l18 ?c18 ?k18) (Lo.df_mk ?a19 ?l19 ?c19 ?k19) (Lo.df_mk ?a20 ?l20 ?c20 ?k20) (Lo.df_mk ?a21 ?l21 ?c21 ?k21) (Lo.df_mk ?a22 ?l22 ?c22 ?k22) (Lo.df_mk ?a23 ?l23 ?c23 ?k23) (Lo.df_mk ?a24 ?l24 ?c24 ?k24) (Lo.df_mk ?a25 ?l25 ?c25 ?k25) ?aL ?lL ?cL ?kL ?z_isi ?z_int ?z_bool ?z_str ?z_tuple ?z_list ?z_len ?z_enum ?z_range ?z_all ?z_sorted ?z_set ?z_sum ?z_dict ?z_max ?z_rev ?cC ?pg ?hd ?po ?sa ?mk ?kc ?nN ?nT ?wi ?wh ?ws ?l_i ?c_i ?k_i ?l_h ?c_h ?k_h ?l_s ?c_s ?k_s ?i_i ?i_h ?i_s ?dfl ?eaNoSolution ?exNoSolution ?ekNoSolution ?ebNoSolution ?etNoSolution ?eiNoSolution ?esNoSolution
    (case a1 => k_is)
    (case l1 => k_is)
    (case c1 => k_is)
    (case k1 => k_is)
    (case a2 => k_is)
    (case l2 => k_is)
    (case c2 => k_is)
    (case k2 => k_is)
    (case a3 => k_is)
    (case l3 => k_is)
    (case c3 => k_is)
    (case k3 => k_is)
    (case a4 => k_is)
    (case l4 => k_is)
    (case c4 => k_is)
    (case k4 => k_is)
    (case a5 => k_is)
    (case l5 => k_is)
    (case c5 => k_is)
    (case k5 => k_is)
    (case a6 => k_is)
    (case l6 => k_is)
    (case c6 => k_is)
    (case k6 => k_is)
    (case a7 => k_is)
    (case l7 => k_is)
    (case c7 => k_is)
    (case k7 => k_is)
    (case a8 => k_is)
    (case l8 => k_is)
    (case c8 => k_is)
    (case k8 => k_is)
    (case a9 => k_is)
    (case l9 => k_is)
    (case c9 => k_is)
    (case k9 => k_is)
    (case a10 => k_is)
    (case l10 => k_is)
    (case c10 => k_is)
    (case k10 => k_is)
    (case a11 => k_is)
    (case l11 => k_is)
    (case c11 => k_is)
    (case k11 => k_is)
    (case a12 => k_is)
    (case l12 => k_is)
    (case c12 => k_is)
    (case k12 => k_is)
    (case a13 => k_is)
    (case l13 => k_is)
    (case c13 => k_is)
    (case k13 => k_is)
    (case a14 => k_is)
    (case l14 => k_is)
    (case c14 => k_is)
    (case k14 => k_is)
    (case a15 => k_is)
    (case l15 => k_is)
    (case c15 => k_is)
    (case k15 => k_is)
    (case a16 => k_is)
    (case l16 => k_is)
    (case c16 => k_is)
    (case k16 => k_is)
    (case a17 => k_is)
    (case l17 => k_is)
    (case c17 => k_is)
    (case k17 => k_is)
    (case a18 => k_is)
    (case l18 => k_is)
    (case c18 => k_is)
    (case k18 => k_is)
    (case a19 => k_is)
    (case l19 => k_is)
    (case c19 => k_is)
    (case k19 => k_is)
    (case a20 => k_is)
    (case l20 => k_is)
    (case c20 => k_is)
    (case k20 => k_is)
    (case a21 => k_is)
    (case l21 => k_is)
    (case c21 => k_is)
    (case k21 => k_is)
    (case a22 => k_is)
    (case l22 => k_is)
    (case c22 => k_is)
    (case k22 => k_is)
    (case a23 => k_is)
    (case l23 => k_is)
    (case c23 => k_is)
    (case k23 => k_is)
    (case a24 => k_is)
    (case l24 => k_is)
    (case c24 => k_is)
    (case k24 => k_is)
    (case a25 => k_is)
    (case l25 => k_is)
    (case c25 => k_is)
    (case k25 => k_is)
    (case aL => k_is)
    (case lL => k_is)
    (case cL => k_is)
    (case kL => k_is)
    (case z_isi => k_is)
    (case z_int => k_is)
    (case z_bool => k_is)
    (case z_str => k_is)
    (case z_tuple => k_is)
    (case z_list => k_is)
    (case z_len => k_is)
    (case z_enum => k_is)
    (case z_range => k_is)
    (case z_all => k_is)
    (case z_sorted => k_is)
    (case z_set => k_is)
    (case z_sum => k_is)
    (case z_dict => k_is)
    (case z_max => k_is)
    (case z_rev => k_is)
    (case cC => k_is)
    (case pg => k_is)
    (case hd => k_is)
    (case po => k_is)
    (case sa => k_is)
    (case mk => k_is)
    (case kc => k_is)
    (case nN => k_is)
    (case nT => k_is)
    (case wi => k_is)
    (case wh => k_is)
    (case ws => k_is)
    (case l_i => k_is)
    (case c_i => k_is)
    (case k_i => k_is)
    (case l_h => k_is)
    (case c_h => k_is)
    (case k_h => k_is)
    (case l_s => k_is)
    (case c_s => k_is)
    (case k_s => k_is)
    (case i_i => k_is)
    (case i_h => k_is)
    (case i_s => k_is)
    (case dfl => first | rfl | k_is | decide +kernel)
    (case eaNoSolution => k_is)
    (case exNoSolution => k_exc)
    (case ekNoSolution => k_is)
    (case ebNoSolution => k_is)
    (case etNoSolution => k_is)
    (case eiNoSolution => k_is)
    (case esNoSolution => first | rfl | k_is)
