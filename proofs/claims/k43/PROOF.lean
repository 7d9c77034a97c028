import PyProof.Rows.All
import Wide.All
import OpenK.AllK
import Wide.FinOn
import HandS.ForMost
import HandS.Walk
import HandS.IsInst
import HandS.More
import HandS.NoneIn
import HandS.SetKeys
import HandS.DictComp
import HandS.TupAny
import HandS.Wide
import HandS.GenList
import HandS.Comp
import HandS.AnyAll
import HandS.Codes
import HandS.TupSets
import HandS.Strs
import KE.KDictKeyed
import HandS.Set
import HandS.SetFor
import PyProof.Rows.SetFrom
import PyProof.Rows.SortStr
import HandS.TupLen
import HandS.ExcOwn
import HandS.WordsExc
import HandS.Iter
import HandS.Star
import HandS.Flow
import KE.GoesMore
import HandS.Conv
import HandS.Property
import HandS.ExcInit
import HandS.TupMul
import HandS.Style
import HandS.Dict
import HandS.ExcIs
import HandS.ExcField
import KE.KExcIs
import HandS.Head2
import HandS.HeadHook4
import HandS.HeadWalk
import PySem.Challenge.RW_loopsheds_k43_refused_nests
set_option Elab.async false
set_option linter.all false
set_option maxRecDepth 100000
/-! Systems of differences: rings, solutions, the graph of last causes, and why lowering comes to an end. Plain Lean. -/
namespace Lo
section
variable {α : Type} [DecidableEq α]

abbrev Row (α : Type) := α × α × Int
def Sat (rows : List (Row α)) (v : α → Int) : Prop := ∀ r ∈ rows, v r.1 - v r.2.1 ≤ r.2.2
def put {β : Type} (f : α → β) (a : α) (b : β) : α → β := fun x => if x = a then b else f x
theorem put_at {β : Type} (f : α → β) (a : α) (b : β) : put f a b a = b := if_pos rfl
theorem put_off {β : Type} {f : α → β} {a x : α} {b : β} (h : x ≠ a) : put f a b x = f x := if_neg h

/-- the ring of rows es: each right is the next left, no left twice, a negative sum -/
structure IsRing (es : List (Row α)) : Prop where
  two : 2 ≤ es.length
  nd : (es.map (·.1)).Nodup
  turn : es.map (·.2.1) = (es.map (·.1)).drop 1 ++ (es.map (·.1)).take 1
  neg : (es.map (·.2.2)).sum < 0
/-- found are the places of a ring -/
def RingOk (rows : List (Row α)) (found : List Nat) : Prop :=
  ∃ es : List (Row α), found.map (fun i => rows[i]?) = es.map some ∧ IsRing es

theorem sum_map_sub {β : Type} (f g : β → Int) : ∀ l : List β, (l.map fun x => f x - g x).sum = (l.map f).sum - (l.map g).sum
  | [] => rfl
  | x :: l => by
    have ih := sum_map_sub f g l
    simp only [List.map_cons, List.sum_cons]
    omega
theorem sum_le {β : Type} (f g : β → Int) : ∀ l : List β, (∀ x ∈ l, f x ≤ g x) → (l.map f).sum ≤ (l.map g).sum
  | [], _ => Int.le_refl _
  | x :: l, h => by
    have ih := sum_le f g l fun y hy => h y (List.mem_cons_of_mem _ hy)
    have h0 := h x List.mem_cons_self
    simp only [List.map_cons, List.sum_cons]
    omega
theorem sum_lt {β : Type} (f g : β → Int) : ∀ (l : List β) (a : β), a ∈ l → (∀ x ∈ l, f x ≤ g x) → f a < g a → (l.map f).sum < (l.map g).sum
  | [], _, h, _, _ => absurd h List.not_mem_nil
  | x :: l, a, ha, h, hl => by
    have h0 := h x List.mem_cons_self
    have ht : ∀ y ∈ l, f y ≤ g y := fun y hy => h y (List.mem_cons_of_mem _ hy)
    simp only [List.map_cons, List.sum_cons]
    rcases List.mem_cons.mp ha with e | e
    · subst e
      have := sum_le f g l ht
      omega
    · have := sum_lt f g l a e ht hl
      omega
theorem sum_turn {β : Type} (f : β → Int) (l : List β) : ((l.drop 1 ++ l.take 1).map f).sum = (l.map f).sum := by
  cases l with
  | nil => rfl
  | cons x l =>
    simp only [List.drop_succ_cons, List.drop_zero, List.take_succ_cons, List.take_zero, List.map_append, List.sum_append, List.map_cons, List.map_nil, List.sum_cons, List.sum_nil]
    omega
theorem ring_not_sat {rows es : List (Row α)} (h : ∀ e ∈ es, e ∈ rows) (R : IsRing es) (v : α → Int) : ¬ Sat rows v := fun s => by
  have h1 : (es.map fun e => v e.1 - v e.2.1).sum ≤ (es.map (·.2.2)).sum := sum_le _ _ es fun e he => s e (h e he)
  rw [sum_map_sub (fun e : Row α => v e.1) (fun e : Row α => v e.2.1)] at h1
  have h2 : (es.map fun e : Row α => v e.2.1).sum = (es.map fun e : Row α => v e.1).sum := by
    have e1 : (es.map fun e : Row α => v e.2.1) = (es.map (·.2.1)).map v := by rw [List.map_map]; rfl
    have e2 : (es.map fun e : Row α => v e.1) = (es.map (·.1)).map v := by rw [List.map_map]; rfl
    rw [e1, e2, R.turn, sum_turn]
  have := R.neg
  omega
theorem ringOk_not_sat {rows : List (Row α)} {found : List Nat} (h : RingOk rows found) (v : α → Int) : ¬ Sat rows v := by
  obtain ⟨es, e, R⟩ := h
  refine ring_not_sat (fun x hx => ?_) R v
  have h1 : some x ∈ es.map some := List.mem_map_of_mem hx
  rw [← e] at h1
  obtain ⟨i, _, hi⟩ := List.mem_map.mp h1
  exact List.mem_of_getElem? hi

/-- pigeons -/
theorem nodup_le : ∀ (l m : List α), l.Nodup → (∀ x ∈ l, x ∈ m) → l.length ≤ m.length
  | [], _, _, _ => Nat.zero_le _
  | x :: l, m, hd, hs => by
    obtain ⟨h1, h2⟩ := List.nodup_cons.mp hd
    have hx := hs x List.mem_cons_self
    have hl : ∀ y ∈ l, y ∈ m.erase x := fun y hy => by
      have ne : y ≠ x := fun e => h1 (e ▸ hy)
      exact (List.mem_erase_of_ne ne).mpr (hs y (List.mem_cons_of_mem _ hy))
    have ih := nodup_le l (m.erase x) h2 hl
    have z := List.length_erase_of_mem hx
    have p := List.length_pos_of_mem hx
    simp only [List.length_cons]
    omega

/-! ### walks in the graph of the causes -/
abbrev Gr (α : Type) := α → Option (α × Int)
inductive Ch (g : Gr α) : α → List α → α → Int → Prop
  | nil (x : α) : Ch g x [] x 0
  | cons {x y z : α} {c s : Int} {l : List α} : g x = some (y, c) → Ch g y l z s → Ch g x (x :: l) z (c + s)
variable {g : Gr α}
theorem Ch.snoc {x y z : α} {l : List α} {c s : Int} (h : Ch g x l y s) (e : g y = some (z, c)) : Ch g x (l ++ [y]) z (s + c) := by
  induction h with
  | nil x =>
    have q := Ch.cons e (Ch.nil z)
    have z : c + 0 = 0 + c := by omega
    rw [z] at q
    exact q
  | @cons x y z' c' s' l e' _ ih =>
    have q := Ch.cons e' (ih e)
    have z : c' + (s' + c) = c' + s' + c := by omega
    rw [z] at q
    exact q
theorem Ch.from_mem {x y a : α} {l : List α} {s : Int} (h : Ch g x l y s) (ha : a ∈ l) : ∃ p q t, l = p ++ a :: q ∧ Ch g a (a :: q) y t := by
  induction h with
  | nil x => exact absurd ha List.not_mem_nil
  | @cons x y z c s l e h ih =>
    by_cases k : a = x
    · subst k
      exact ⟨[], l, _, rfl, Ch.cons e h⟩
    · have hm : a ∈ l := by
        rcases List.mem_cons.mp ha with q | q
        · exact absurd q k
        · exact q
      obtain ⟨p, q, t, e2, h2⟩ := ih hm
      exact ⟨x :: p, q, t, by rw [e2]; rfl, h2⟩
/-- the walk up to the first stop is told by its start -/
theorem Ch.det {S : α → Prop} {x y y' : α} {l l' : List α} {s s' : Int} (h : Ch g x l y s) (h' : Ch g x l' y' s') (hy : S y) (hy' : S y') (hl : ∀ a ∈ l, ¬ S a) (hl' : ∀ a ∈ l', ¬ S a) : l = l' := by
  induction h generalizing l' s' with
  | nil x =>
    cases h' with
    | nil => rfl
    | cons e h2 => exact absurd hy (hl' _ List.mem_cons_self)
  | @cons x y0 z c s l e h ih =>
    cases h' with
    | nil => exact absurd hy' (hl _ List.mem_cons_self)
    | @cons _ y1 _ c1 s1 l1 e1 h1 =>
      rw [e] at e1
      have q := Option.some.inj e1
      have q1 : y0 = y1 := congrArg Prod.fst q
      subst q1
      have := ih h1 hy (fun a ha => hl a (List.mem_cons_of_mem _ ha)) (fun a ha => hl' a (List.mem_cons_of_mem _ ha))
      rw [this]
theorem Ch.nodup {S : α → Prop} {x y : α} {l : List α} {s : Int} (h : Ch g x l y s) (hy : S y) (hl : ∀ a ∈ l, ¬ S a) : l.Nodup := by
  induction h with
  | nil x => exact List.nodup_nil
  | @cons x y0 z c s l e h ih =>
    have ht : ∀ a ∈ l, ¬ S a := fun a ha => hl a (List.mem_cons_of_mem _ ha)
    refine List.nodup_cons.mpr ⟨fun hm => ?_, ih hy ht⟩
    obtain ⟨p, q, t, e2, h2⟩ := h.from_mem hm
    have hq : ∀ a ∈ x :: q, ¬ S a := fun a ha => ht a (by rw [e2]; exact List.mem_append_right _ ha)
    have z := (Ch.cons e h).det h2 hy hy hl hq
    have z2 := congrArg List.length z
    rw [e2] at z2
    simp only [List.length_cons, List.length_append] at z2
    omega
theorem Ch.le {val : α → Int} (hw : ∀ x y c, g x = some (y, c) → val y + c ≤ val x) {x y : α} {l : List α} {s : Int} (h : Ch g x l y s) : s ≤ val x - val y := by
  induction h with
  | nil x => omega
  | cons e h ih =>
    have := hw _ _ _ e
    omega
theorem Ch.low {M : Int} (hM : ∀ x y c, g x = some (y, c) → -M ≤ c) {x y : α} {l : List α} {s : Int} (h : Ch g x l y s) : -(M * (l.length : Int)) ≤ s := by
  induction h with
  | nil x => simp
  | @cons x y0 z c s l e h ih =>
    have := hM _ _ _ e
    simp only [List.length_cons]
    have e1 : M * ((l.length + 1 : Nat) : Int) = M * (l.length : Int) + M := by
      rw [Int.natCast_add, Int.mul_add]; omega
    rw [e1]
    omega

/-- what holds between the values and the causes -/
structure Low (rows : List (Row α)) (val : α → Int) (g : Gr α) : Prop where
  edge : ∀ x y c, g x = some (y, c) → (x, y, c) ∈ rows ∧ val y + c ≤ val x
  root : ∀ x, g x = none → val x = 0
  neg : ∀ x l s, l ≠ [] → Ch g x l x s → s < 0
theorem Low.start (rows : List (Row α)) : Low rows (fun _ => 0) (fun _ => none) := by
  refine ⟨(fun x y c e => nomatch e), fun _ _ => rfl, fun x l s hl h => ?_⟩
  cases h with
  | nil => exact absurd rfl hl
  | cons e _ => cases e
theorem Low.step {rows : List (Row α)} {val : α → Int} {x0 y0 : α} {c0 : Int} (L : Low rows val g) (hr : (x0, y0, c0) ∈ rows) (hne : x0 ≠ y0) (hlt : val y0 + c0 < val x0) :
    Low rows (put val x0 (val y0 + c0)) (put g x0 (some (y0, c0))) := by
  have weak : ∀ x y c, put g x0 (some (y0, c0)) x = some (y, c) → val y + c ≤ val x := fun x y c e => by
    by_cases k : x = x0
    · subst k
      rw [put_at] at e
      injection e with e
      injection e with e1 e2
      subst e1 e2
      omega
    · rw [put_off k] at e
      exact (L.edge x y c e).2
  have split : ∀ (x z : α) (l : List α) (s : Int), Ch (put g x0 (some (y0, c0))) x l z s → Ch g x l z s ∨ s < val x - val z := fun x z l s h => by
    induction h with
    | nil x => exact .inl (Ch.nil x)
    | @cons x y z c s l e h ih =>
      have hs : s ≤ val y - val z := h.le weak
      by_cases k : x = x0
      · subst k
        rw [put_at] at e
        injection e with e
        injection e with e1 e2
        subst e1 e2
        exact .inr (by omega)
      · rw [put_off k] at e
        have he := (L.edge x y c e).2
        rcases ih with i | i
        · exact .inl (Ch.cons e i)
        · exact .inr (by omega)
  refine ⟨fun x y c e => ?_, fun x e => ?_, fun x l s hl h => ?_⟩
  · by_cases k : x = x0
    · subst k
      rw [put_at] at e
      injection e with e
      injection e with e1 e2
      subst e1 e2
      refine ⟨hr, ?_⟩
      rw [put_at, put_off hne.symm]
      omega
    · rw [put_off k] at e
      have he := L.edge x y c e
      refine ⟨he.1, ?_⟩
      rw [put_off k]
      by_cases j : y = x0
      · subst j
        rw [put_at]
        omega
      · rw [put_off j]
        exact he.2
  · by_cases k : x = x0
    · subst k
      rw [put_at] at e
      cases e
    · rw [put_off k] at e ⊢
      exact L.root x e
  · rcases split x x l s h with i | i
    · exact L.neg x l s hl i
    · omega

/-- from x a name without a cause is reached -/
def Ends (g : Gr α) (x : α) : Prop := ∃ l y s, Ch g x l y s ∧ g y = none
theorem ends_none {x : α} (h : g x = none) : Ends g x := ⟨[], x, 0, Ch.nil x, h⟩
theorem ends_next {x y : α} {c : Int} (e : g x = some (y, c)) (h : Ends g y) : Ends g x := by
  obtain ⟨l, z, s, h1, h2⟩ := h
  exact ⟨_, z, _, Ch.cons e h1, h2⟩
theorem Ch.mem_some {x y : α} {l : List α} {s : Int} (h : Ch g x l y s) : ∀ a ∈ l, g a ≠ none := by
  induction h with
  | nil x => exact fun a ha => absurd ha List.not_mem_nil
  | @cons x y z c s l e h ih =>
    intro a ha
    rcases List.mem_cons.mp ha with q | q
    · rw [q, e]; exact fun z => nomatch z
    · exact ih a q
/-- how low a value can be -/
theorem Low.floor {rows : List (Row α)} {val : α → Int} (L : Low rows val g) (hE : ∀ x, Ends g x) {M : Int} (hM0 : 0 ≤ M) (hM : ∀ r ∈ rows, -M ≤ r.2.2) (x : α) : -(M * (rows.length : Int)) ≤ val x := by
  obtain ⟨l, y, s, h, hy⟩ := hE x
  have hd : l.Nodup := h.nodup (S := fun a => g a = none) hy h.mem_some
  have hl : l.length ≤ (rows.map (·.1)).length := nodup_le l _ hd fun a ha => by
    have k := h.mem_some a ha
    cases e : g a with
    | none => exact absurd e k
    | some p => exact List.mem_map.mpr ⟨_, (L.edge a p.1 p.2 e).1, rfl⟩
  rw [List.length_map] at hl
  have h1 := h.le fun x y c e => (L.edge x y c e).2
  have h2 := h.low (M := M) fun x y c e => hM _ (L.edge x y c e).1
  have h3 := L.root y hy
  have h4 : M * (l.length : Int) ≤ M * (rows.length : Int) := Int.mul_le_mul_of_nonneg_left (by omega) hM0
  omega
end
end Lo
/-! The graph that a table of causes makes, the ring that is read off it, the passes and their measure; least sums of chains. -/
namespace Lo
section
variable {α : Type} [DecidableEq α]
theorem nd_one (x : α) : [x].Nodup := List.nodup_cons.mpr ⟨List.not_mem_nil, List.nodup_nil⟩
theorem Ch.append {g : Gr α} {x y z : α} {l l' : List α} {s s' : Int} (h : Ch g x l y s) (h' : Ch g y l' z s') : Ch g x (l ++ l') z (s + s') := by
  induction h with
  | nil x =>
    have e : (0 : Int) + s' = s' := by omega
    rw [e]
    exact h'
  | @cons x y c0 c s l e _ ih =>
    have q := Ch.cons e (ih h')
    have e2 : c + (s + s') = c + s + s' := by omega
    rw [e2] at q
    exact q
theorem ends_of {g : Gr α} {x y : α} {l : List α} {s : Int} (h : Ch g x l y s) (hy : Ends g y) : Ends g x := by
  obtain ⟨l2, z, s2, h2, hz⟩ := hy
  exact ⟨_, z, _, h.append h2, hz⟩

/-- names cs have causes: the places cz of rows -/
def gOf (rows : List (Row α)) (cs : List α) (cz : α → Nat) : Gr α := fun x => if x ∈ cs then (rows[cz x]?).map fun r => r.2 else none
/-- each cause of a name is a row that begins with it -/
def Lk (rows : List (Row α)) (cs : List α) (cz : α → Nat) : Prop := ∀ x ∈ cs, ∃ y c, rows[cz x]? = some (x, y, c)
variable {rows : List (Row α)} {cs : List α} {cz : α → Nat}
theorem gOf_out {x : α} (h : x ∉ cs) : gOf rows cs cz x = none := if_neg h
theorem gOf_in {x y : α} {c : Int} (h : x ∈ cs) (e : rows[cz x]? = some (x, y, c)) : gOf rows cs cz x = some (y, c) := by
  unfold gOf
  rw [if_pos h, e]
  rfl
theorem gOf_some (k : Lk rows cs cz) {x y : α} {c : Int} (h : gOf rows cs cz x = some (y, c)) : x ∈ cs ∧ rows[cz x]? = some (x, y, c) := by
  by_cases m : x ∈ cs
  · obtain ⟨y', c', e⟩ := k x m
    rw [gOf_in m e] at h
    injection h with h
    injection h with h1 h2
    subst h1 h2
    exact ⟨m, e⟩
  · rw [gOf_out m] at h
    cases h
theorem gOf_none (k : Lk rows cs cz) {x : α} (h : gOf rows cs cz x = none) : x ∉ cs := fun m => by
  obtain ⟨y, c, e⟩ := k x m
  rw [gOf_in m e] at h
  cases h
/-- a list with one more, unless it is there -/
def addN (l : List α) (x : α) : List α := if x ∈ l then l else l ++ [x]
theorem mem_addN {l : List α} {x y : α} : y ∈ addN l x ↔ y ∈ l ∨ y = x := by
  unfold addN
  split
  · rename_i h
    exact ⟨Or.inl, fun z => z.elim id fun e => e ▸ h⟩
  · rw [List.mem_append, List.mem_singleton]
theorem nodup_addN {l : List α} {x : α} (h : l.Nodup) : (addN l x).Nodup := by
  unfold addN
  split
  · exact h
  · rename_i n
    refine List.nodup_append.mpr ⟨h, nd_one x, fun a ha b hb => ?_⟩
    rw [List.mem_singleton] at hb
    subst hb
    exact fun e => n (e ▸ ha)
theorem length_addN {l : List α} {x : α} : (addN l x).length ≤ l.length + 1 := by
  unfold addN
  split <;> simp
theorem lk_put (k : Lk rows cs cz) {x y : α} {c : Int} {i : Nat} (e : rows[i]? = some (x, y, c)) : Lk rows (addN cs x) (put cz x i) := fun z hz => by
  by_cases j : z = x
  · subst j
    exact ⟨y, c, by rw [put_at]; exact e⟩
  · rw [put_off j]
    exact k z ((mem_addN.mp hz).resolve_right j)
theorem gOf_put {x y : α} {c : Int} {i : Nat} (e : rows[i]? = some (x, y, c)) : gOf rows (addN cs x) (put cz x i) = put (gOf rows cs cz) x (some (y, c)) := by
  funext z
  by_cases j : z = x
  · subst j
    rw [put_at]
    refine gOf_in (mem_addN.mpr (.inr rfl)) ?_
    rw [put_at]
    exact e
  · rw [put_off j]
    unfold gOf
    have m : z ∈ addN cs x ↔ z ∈ cs := by
      rw [mem_addN]
      exact ⟨fun h => h.resolve_right j, .inl⟩
    rw [put_off j]
    by_cases h : z ∈ cs
    · rw [if_pos h, if_pos (m.mpr h)]
    · rw [if_neg h, if_neg fun q => h (m.mp q)]

/-! ### the ring -/
theorem Ch.rights (k : Lk rows cs cz) {x y : α} {l : List α} {s : Int} (h : Ch (gOf rows cs cz) x l y s) :
    ∃ es : List (Row α), l.map (fun a => rows[cz a]?) = es.map some ∧ es.map (·.1) = l ∧ x :: es.map (·.2.1) = l ++ [y] ∧ (es.map (·.2.2)).sum = s := by
  induction h with
  | nil x => exact ⟨[], rfl, rfl, rfl, rfl⟩
  | @cons x y z c s l e h ih =>
    obtain ⟨es, h1, h2, h3, h4⟩ := ih
    obtain ⟨_, e2⟩ := gOf_some k e
    refine ⟨(x, y, c) :: es, ?_, ?_, ?_, ?_⟩
    · rw [List.map_cons, e2, h1]
      rfl
    · rw [List.map_cons, h2]
    · show x :: y :: es.map (·.2.1) = x :: (l ++ [z])
      rw [h3]
    · rw [List.map_cons, List.sum_cons, h4]
theorem ring_read (k : Lk rows cs cz) {val : α → Int} (L : Low rows val (gOf rows cs cz)) (hne : ∀ r ∈ rows, r.1 ≠ r.2.1) {start : α} {l : List α} {s : Int} (h : Ch (gOf rows cs cz) start (start :: l) start s)
    (hl : ∀ a ∈ l, a ≠ start) : RingOk rows ((start :: l).map cz) := by
  obtain ⟨es, h1, h2, h3, h4⟩ := h.rights k
  have hs : s < 0 := L.neg start _ s (List.cons_ne_nil _ _) h
  refine ⟨es, ?_, ?_⟩
  · rw [← h1, List.map_map]
    rfl
  · cases h with
    | @cons _ y _ c s' _ e h' =>
      have nd : l.Nodup := h'.nodup (S := fun a => a = start) rfl hl
      refine ⟨?_, ?_, ?_, by rw [h4]; exact hs⟩
      · have hlen : es.length = l.length + 1 := by
          have := congrArg List.length h2
          rw [List.length_map] at this
          exact this
        rw [hlen]
        cases l with
        | cons _ _ => simp
        | nil =>
          cases h' with
          | nil => exact absurd rfl (hne _ (L.edge _ _ _ e).1)
      · rw [h2]
        exact List.nodup_cons.mpr ⟨fun m => hl _ m rfl, nd⟩
      · rw [h2]
        have h5 : es.map (·.2.1) = l ++ [start] := (List.cons.inj h3).2
        rw [h5]
        rfl

/-! ### a pass, and the measure -/
def span (rows : List (Row α)) : Int := ((rows.map fun r => r.2.2.natAbs).sum : Nat)
theorem span_le {rows : List (Row α)} {r : Row α} (h : r ∈ rows) : -span rows ≤ r.2.2 ∧ r.2.2 ≤ span rows := by
  have : r.2.2.natAbs ≤ (rows.map fun r => r.2.2.natAbs).sum := by
    induction rows with
    | nil => exact absurd h List.not_mem_nil
    | cons a t ih =>
      rw [List.map_cons, List.sum_cons]
      rcases List.mem_cons.mp h with e | e
      · subst e
        omega
      · have := ih e
        omega
  unfold span
  omega
theorem span_nonneg (rows : List (Row α)) : 0 ≤ span rows := Int.natCast_nonneg _
/-- how far the values are above what is the least for them -/
def pot (rows : List (Row α)) (ks : List α) (val : α → Int) : Int := (ks.map fun x => val x + span rows * (rows.length : Int)).sum
theorem sum_nonneg {β : Type} (f : β → Int) : ∀ l : List β, (∀ x ∈ l, 0 ≤ f x) → 0 ≤ (l.map f).sum
  | [], _ => Int.le_refl _
  | x :: l, h => by
    have := sum_nonneg f l fun y hy => h y (List.mem_cons_of_mem _ hy)
    have := h x List.mem_cons_self
    rw [List.map_cons, List.sum_cons]
    omega
theorem pot_nonneg {val : α → Int} {g : Gr α} (ks : List α) (L : Low rows val g) (hE : ∀ x, Ends g x) : 0 ≤ pot rows ks val := by
  refine sum_nonneg _ ks fun x _ => ?_
  have := L.floor hE (span_nonneg rows) (fun r hr => (span_le hr).1) x
  omega
theorem pot_put {val : α → Int} {ks : List α} {x : α} {w : Int} (hx : x ∈ ks) (h : w < val x) : pot rows ks (put val x w) < pot rows ks val := by
  refine sum_lt _ _ ks x hx (fun y _ => ?_) ?_
  · by_cases j : y = x
    · subst j
      rw [put_at]
      omega
    · rw [put_off j]
      exact Int.le_refl _
  · rw [put_at]
    omega

/-! ### the places of a turn -/
/-- the rounds of `_turn` at the beginning of turn i: what was met in earlier rounds ends -/
structure Met (g : Gr α) (cs rs : List α) (rn : α → Nat) (i : Nat) : Prop where
  nd : rs.Nodup
  sub : ∀ x ∈ rs, x ∈ cs
  ends : ∀ x ∈ rs, Ends g x ∧ rn x < i
  past : ∀ j x, j < i → cs[j]? = some x → Ends g x
theorem Met.start (g : Gr α) (cs : List α) (rn : α → Nat) : Met g cs [] rn 0 :=
  ⟨List.nodup_nil, fun x h => absurd h List.not_mem_nil, fun x h => absurd h List.not_mem_nil, fun j x h => absurd h (Nat.not_lt_zero _)⟩
/-- within turn i: rs the names met before, t those of this turn -/
structure MetIn (g : Gr α) (cs rs : List α) (rn : α → Nat) (i : Nat) (start : α) (t : List α) (name : α) : Prop where
  nd : (rs ++ t).Nodup
  sub : ∀ x ∈ rs ++ t, x ∈ cs
  ends : ∀ x ∈ rs, Ends g x ∧ rn x < i
  now : ∀ x ∈ t, rn x = i ∧ ∃ l s, l ≠ [] ∧ Ch g x l name s
  from_ : ∃ l s, Ch g start l name s
theorem MetIn.start {g : Gr α} {cs rs : List α} {rn : α → Nat} {i : Nat} (M : Met g cs rs rn i) (start : α) : MetIn g cs rs rn i start [] start := by
  refine ⟨by rw [List.append_nil]; exact M.nd, by rw [List.append_nil]; exact M.sub, M.ends, fun x h => absurd h List.not_mem_nil, [], 0, Ch.nil _⟩
theorem MetIn.step {g : Gr α} {cs rs : List α} {rn : α → Nat} {i : Nat} {start name y : α} {c : Int} {t : List α} (M : MetIn g cs rs rn i start t name) (hc : name ∈ cs) (hn : name ∉ rs ++ t) (e : g name = some (y, c)) :
    MetIn g cs rs (put rn name i) i start (t ++ [name]) y := by
  have one : Ch g name [name] y (c + 0) := Ch.cons e (Ch.nil y)
  refine ⟨?_, fun x hx => ?_, fun x hx => ?_, fun x hx => ?_, ?_⟩
  · rw [← List.append_assoc]
    refine List.nodup_append.mpr ⟨M.nd, nd_one _, fun a ha b hb => ?_⟩
    rw [List.mem_singleton] at hb
    subst hb
    exact fun q => hn (q ▸ ha)
  · rw [← List.append_assoc] at hx
    rcases List.mem_append.mp hx with q | q
    · exact M.sub x q
    · rw [List.mem_singleton] at q
      exact q ▸ hc
  · have ne : x ≠ name := fun q => hn (List.mem_append_left _ (q ▸ hx))
    rw [put_off ne]
    exact M.ends x hx
  · rcases List.mem_append.mp hx with q | q
    · have ne : x ≠ name := fun z => hn (List.mem_append_right _ (z ▸ q))
      obtain ⟨h1, l, s, h2, h3⟩ := M.now x q
      refine ⟨by rw [put_off ne]; exact h1, l ++ [name], _, fun z => ?_, h3.append one⟩
      exact List.cons_ne_nil _ _ (List.append_eq_nil_iff.mp z).2
    · rw [List.mem_singleton] at q
      subst q
      exact ⟨put_at _ _ _, _, _, List.cons_ne_nil _ _, one⟩
  · obtain ⟨l, s, h⟩ := M.from_
    exact ⟨_, _, h.append one⟩
/-- where the walk of turn i comes to something that ends, all of it ends -/
theorem MetIn.close {g : Gr α} {cs rs : List α} {rn : α → Nat} {i : Nat} {start name : α} {t : List α} (M : MetIn g cs rs rn i start t name) (hs : cs[i]? = some start) (h : Ends g name)
    (past : ∀ j x, j < i → cs[j]? = some x → Ends g x) : Met g cs (rs ++ t) rn (i + 1) := by
  refine ⟨M.nd, M.sub, fun x hx => ?_, fun j x hj hx => ?_⟩
  · rcases List.mem_append.mp hx with q | q
    · obtain ⟨h1, h2⟩ := M.ends x q
      exact ⟨h1, by omega⟩
    · obtain ⟨h1, l, s, _, h3⟩ := M.now x q
      exact ⟨ends_of h3 h, by omega⟩
  · by_cases k : j = i
    · subst k
      rw [hs] at hx
      injection hx with hx
      subst hx
      obtain ⟨l, s, h3⟩ := M.from_
      exact ends_of h3 h
    · exact past j x (by omega) hx
theorem Met.all {g : Gr α} {cs rs : List α} {rn : α → Nat} (M : Met g cs rs rn cs.length) (out : ∀ x, x ∉ cs → g x = none) (x : α) : Ends g x := by
  by_cases h : x ∈ cs
  · obtain ⟨j, hj, e⟩ := List.getElem_of_mem h
    exact M.past j x hj (by rw [List.getElem?_eq_getElem hj, e])
  · exact ends_none (out x h)
theorem MetIn.room {g : Gr α} {cs rs : List α} {rn : α → Nat} {i : Nat} {start name : α} {t : List α} (M : MetIn g cs rs rn i start t name) (hc : name ∈ cs) (hn : name ∉ rs ++ t) : (rs ++ t).length < cs.length := by
  have := nodup_le (name :: (rs ++ t)) cs (List.nodup_cons.mpr ⟨hn, M.nd⟩) fun x hx => by
    rcases List.mem_cons.mp hx with q | q
    · exact q ▸ hc
    · exact M.sub x q
  rw [List.length_cons] at this
  omega
end
end Lo
/-! Least sums of chains, told by the solutions: what a system implies. -/
namespace Lo
section
variable {α : Type} [DecidableEq α]
/-- each row that begins with a keeps the sums -/
def Done (rows : List (Row α)) (ss : List α) (sv : α → Int) (a : α) : Prop := ∀ r ∈ rows, r.1 = a → r.2.1 ∈ ss ∧ sv r.2.1 ≤ sv a + r.2.2
/-- the sums so far -/
structure Sums (rows : List (Row α)) (left : α) (ss : List α) (sv : α → Int) : Prop where
  nd : ss.Nodup
  sub : ∀ x ∈ ss, x = left ∨ ∃ r ∈ rows, x = r.2.1
  has : left ∈ ss
  low : sv left ≤ 0
  sound : ∀ x ∈ ss, ∀ u, Sat rows u → u left - u x ≤ sv x
  up : ∀ x ∈ ss, sv x ≤ span rows * (ss.length : Int)
variable {rows : List (Row α)} {left : α} {ss : List α} {sv : α → Int}
theorem Sums.start (rows : List (Row α)) (left : α) (sv : α → Int) (h : sv left = 0) : Sums rows left [left] sv := by
  refine ⟨nd_one left, fun x hx => .inl (List.mem_singleton.mp hx), List.mem_singleton.mpr rfl, by omega, fun x hx u _ => ?_, fun x hx => ?_⟩
  · rw [List.mem_singleton] at hx
    subst hx
    omega
  · rw [List.mem_singleton] at hx
    subst hx
    have := span_nonneg rows
    simp
    omega
/-- a name is reached, or a sum is lowered, by a row -/
theorem Sums.step (S : Sums rows left ss sv) {a b : α} {c : Int} (hr : (a, b, c) ∈ rows) (ha : a ∈ ss) (h : b ∈ ss → sv a + c < sv b) : Sums rows left (addN ss b) (put sv b (sv a + c)) := by
  have hc : -span rows ≤ c ∧ c ≤ span rows := span_le hr
  have h0 := span_nonneg rows
  have hsa := S.up a ha
  have grow : ∀ n : Nat, span rows * ((n : Nat) : Int) ≤ span rows * ((n + 1 : Nat) : Int) := fun n => by
    have : span rows * ((n + 1 : Nat) : Int) = span rows * (n : Int) + span rows := by
      rw [Int.natCast_add, Int.mul_add]
      omega
    omega
  have hlen : b ∉ ss → (addN ss b).length = ss.length + 1 := fun k => by
    unfold addN
    rw [if_neg k, List.length_append]
    rfl
  have hlen2 : b ∈ ss → (addN ss b).length = ss.length := fun k => by
    unfold addN
    rw [if_pos k]
  refine ⟨nodup_addN S.nd, fun x hx => ?_, mem_addN.mpr (.inl S.has), ?_, fun x hx u hu => ?_, fun x hx => ?_⟩
  · rcases mem_addN.mp hx with q | q
    · exact S.sub x q
    · exact .inr ⟨_, hr, q⟩
  · by_cases k : left = b
    · subst k
      have := h S.has
      have := S.low
      rw [put_at]
      omega
    · rw [put_off k]
      exact S.low
  · by_cases k : x = b
    · subst k
      rw [put_at]
      have h1 := S.sound a ha u hu
      have h2 := hu _ hr
      simp only at h2
      omega
    · rw [put_off k]
      exact S.sound x ((mem_addN.mp hx).resolve_right k) u hu
  · by_cases k : x = b
    · subst k
      rw [put_at]
      by_cases m : x ∈ ss
      · have h1 := h m
        have h2 := S.up x m
        rw [hlen2 m]
        omega
      · rw [hlen m]
        have : span rows * ((ss.length + 1 : Nat) : Int) = span rows * (ss.length : Int) + span rows := by
          rw [Int.natCast_add, Int.mul_add]
          omega
        omega
    · rw [put_off k]
      have m := (mem_addN.mp hx).resolve_right k
      have h1 := S.up x m
      by_cases j : b ∈ ss
      · rw [hlen2 j]
        exact h1
      · rw [hlen j]
        have := grow ss.length
        omega
/-- what was done stays done, but for the name that is lowered -/
theorem Done.step {a b x : α} {c : Int} (D : Done rows ss sv x) (hx : x ≠ b) (h : b ∈ ss → sv a + c < sv b) : Done rows (addN ss b) (put sv b (sv a + c)) x := fun r hr e => by
  obtain ⟨h1, h2⟩ := D r hr e
  refine ⟨mem_addN.mpr (.inl h1), ?_⟩
  rw [put_off hx]
  by_cases k : r.2.1 = b
  · rw [k, put_at]
    have := h (k ▸ h1)
    rw [k] at h2
    omega
  · rw [put_off k]
    exact h2
/-! ### the measure -/
def ends_ (rows : List (Row α)) (left : α) : List α := left :: rows.map (·.2.1)
def far (rows : List (Row α)) (left : α) (v : α → Int) : Int := (((ends_ rows left).map fun x => (v left - v x).natAbs).sum : Nat)
theorem far_le {v : α → Int} {x : α} (h : x ∈ ends_ rows left) : -(far rows left v) ≤ v left - v x := by
  have : (v left - v x).natAbs ≤ ((ends_ rows left).map fun x => (v left - v x).natAbs).sum := by
    generalize ends_ rows left = l at h ⊢
    induction l with
    | nil => exact absurd h List.not_mem_nil
    | cons a t ih =>
      rw [List.map_cons, List.sum_cons]
      rcases List.mem_cons.mp h with e | e
      · subst e
        omega
      · have := ih e
        omega
  unfold far
  omega
def slack (rows : List (Row α)) (left : α) (v : α → Int) (ss : List α) (sv : α → Int) (x : α) : Int :=
  if x ∈ ss then sv x - (v left - v x) else span rows * ((rows.length + 1 : Nat) : Int) + far rows left v + 1
def gap (rows : List (Row α)) (left : α) (v : α → Int) (ss : List α) (sv : α → Int) : Int := ((ends_ rows left).map (slack rows left v ss sv)).sum
theorem Sums.few (S : Sums rows left ss sv) : ss.length ≤ rows.length + 1 := by
  have := nodup_le ss (ends_ rows left) S.nd fun x hx => by
    rcases S.sub x hx with e | ⟨r, hr, e⟩
    · exact e ▸ List.mem_cons_self
    · exact List.mem_cons_of_mem _ (List.mem_map.mpr ⟨r, hr, e.symm⟩)
  unfold ends_ at this
  rw [List.length_cons, List.length_map] at this
  exact this
theorem far_nonneg (rows : List (Row α)) (left : α) (v : α → Int) : 0 ≤ far rows left v := Int.natCast_nonneg _
theorem Sums.gap_nonneg (S : Sums rows left ss sv) {v : α → Int} (hv : Sat rows v) : 0 ≤ gap rows left v ss sv := by
  refine sum_nonneg _ _ fun x _ => ?_
  unfold slack
  split
  · rename_i h
    have := S.sound x h v hv
    omega
  · have h1 := far_nonneg rows left v
    have h2 : 0 ≤ span rows * ((rows.length + 1 : Nat) : Int) := Int.mul_nonneg (span_nonneg rows) (Int.natCast_nonneg _)
    omega
theorem Sums.gap_step (S : Sums rows left ss sv) {v : α → Int} {a b : α} {c : Int} (hr : (a, b, c) ∈ rows) (ha : a ∈ ss) (h : b ∈ ss → sv a + c < sv b) :
    gap rows left v (addN ss b) (put sv b (sv a + c)) < gap rows left v ss sv := by
  have S' := S.step hr ha h
  have hb : b ∈ ends_ rows left := List.mem_cons_of_mem _ (List.mem_map.mpr ⟨_, hr, rfl⟩)
  have key : slack rows left v (addN ss b) (put sv b (sv a + c)) b < slack rows left v ss sv b := by
    unfold slack
    rw [if_pos (mem_addN.mpr (.inr rfl)), put_at]
    by_cases k : b ∈ ss
    · rw [if_pos k]
      have := h k
      omega
    · rw [if_neg k]
      have h1 := S'.up b (mem_addN.mpr (.inr rfl))
      rw [put_at] at h1
      have h2 : span rows * ((addN ss b).length : Int) ≤ span rows * ((rows.length + 1 : Nat) : Int) := Int.mul_le_mul_of_nonneg_left (by have := S'.few; omega) (span_nonneg rows)
      have h3 := far_le (v := v) hb
      omega
  refine sum_lt _ _ _ b hb (fun x _ => ?_) key
  by_cases k : x = b
  · rw [k]
    exact Int.le_of_lt key
  · unfold slack
    rw [put_off k]
    by_cases m : x ∈ ss
    · rw [if_pos m, if_pos (mem_addN.mpr (.inl m))]
      exact Int.le_refl _
    · rw [if_neg m, if_neg fun q => k ((mem_addN.mp q).resolve_left m)]
      exact Int.le_refl _
/-! ### at the end -/
theorem big_le (f : Row α → Int) {r : Row α} (h : r ∈ rows) : f r ≤ (((rows.map fun r => (f r).natAbs).sum : Nat) : Int) := by
  have : (f r).natAbs ≤ (rows.map fun r => (f r).natAbs).sum := by
    induction rows with
    | nil => exact absurd h List.not_mem_nil
    | cons a t ih =>
      rw [List.map_cons, List.sum_cons]
      rcases List.mem_cons.mp h with e | e
      · subst e
        omega
      · have := ih e
        omega
  omega
/-- a solution with a greater difference -/
theorem Sums.wide (S : Sums rows left ss sv) (hd : ∀ a ∈ ss, Done rows ss sv a) {v : α → Int} (hv : Sat rows v) {right : α} {n : Int} (h : right ∈ ss → n < sv right) : ∃ u, Sat rows u ∧ n + 1 ≤ u left - u right := by
  refine ⟨fun x => if x ∈ ss then -sv x else v x - ((((rows.map fun r => (v r.1 + sv r.2.1 - r.2.2).natAbs).sum : Nat) : Int) + ((n + 1 + v right).natAbs : Int)), fun r hr => ?_, ?_⟩
  · show (if r.1 ∈ ss then _ else _) - (if r.2.1 ∈ ss then _ else _) ≤ r.2.2
    have hb : v r.1 + sv r.2.1 - r.2.2 ≤ _ := big_le (fun r => v r.1 + sv r.2.1 - r.2.2) hr
    have hs := hv r hr
    by_cases k : r.1 ∈ ss
    · obtain ⟨h1, h2⟩ := hd r.1 k r hr rfl
      rw [if_pos k, if_pos h1]
      omega
    · rw [if_neg k]
      by_cases j : r.2.1 ∈ ss
      · rw [if_pos j]
        omega
      · rw [if_neg j]
        omega
  · show n + 1 ≤ (if left ∈ ss then _ else _) - (if right ∈ ss then _ else _)
    rw [if_pos S.has]
    have hl := S.low
    by_cases k : right ∈ ss
    · rw [if_pos k]
      have := h k
      omega
    · rw [if_neg k]
      omega
/-- what a difference is implied by -/
def Told (rows : List (Row α)) (left right : α) (limit : Int) : Prop := ∀ u, Sat rows u → u left - u right ≤ limit
/-- the greatest value of left minus right (none: there is none) -/
def Best (rows : List (Row α)) (left right : α) (r : Option Int) : Prop := (∀ k, r = some k → Told rows left right k) ∧ ∀ n, (∀ k, r = some k → n < k) → ¬ Told rows left right n
theorem Sums.best (S : Sums rows left ss sv) (hd : ∀ a ∈ ss, Done rows ss sv a) {v : α → Int} (hv : Sat rows v) (right : α) : Best rows left right (if right ∈ ss then some (sv right) else none) := by
  refine ⟨fun k e => ?_, fun n h t => ?_⟩
  · by_cases m : right ∈ ss
    · rw [if_pos m] at e
      injection e with e
      subst e
      exact S.sound right m
    · rw [if_neg m] at e
      cases e
  · obtain ⟨u, h1, h2⟩ := S.wide hd hv (right := right) (n := n) fun m => h _ (by rw [if_pos m])
    have := t u h1
    omega
theorem told_denied {right : α} {limit : Int} : (∃ u, Sat (rows ++ [(right, left, 0 - limit - 1)]) u) ↔ ¬ Told rows left right limit := by
  constructor
  · rintro ⟨u, hu⟩ t
    have h1 := t u fun r hr => hu r (List.mem_append_left _ hr)
    have h2 := hu (right, left, 0 - limit - 1) (List.mem_append_right _ (List.mem_singleton.mpr rfl))
    simp only at h2
    omega
  · intro h
    have : ∃ u, Sat rows u ∧ ¬ u left - u right ≤ limit := by
      refine Classical.byContradiction fun k => h fun u hu => Classical.byContradiction fun j => k ⟨u, hu, j⟩
    obtain ⟨u, h1, h2⟩ := this
    refine ⟨u, fun r hr => ?_⟩
    rcases List.mem_append.mp hr with q | q
    · exact h1 r q
    · rw [List.mem_singleton] at q
      subst q
      show u right - u left ≤ 0 - limit - 1
      omega
theorem told_own {l r : α} {c : Int} (h : (l, r, c) ∈ rows) : Told rows l r c := fun u hu => hu _ h
end
end Lo
namespace Lo
open PySem L2
abbrev SRow := Row Str
/-! ### dicts with text keys -/
def dS (ks : List Str) (f : Str → V) : List (Key × V) := ks.map fun x => ((Sum.inr x : Key), f x)
theorem dS_len (ks : List Str) (f : Str → V) : (dS ks f).length = ks.length := List.length_map ..
theorem dS_val (f : Str → V) (x : Str) : ∀ ks : List Str, valV (dS ks f) (Sum.inr x) = if x ∈ ks then some (f x) else none
  | [] => rfl
  | y :: ks => by
    have ih := dS_val f x ks
    by_cases h : y = x
    · subst h
      rw [if_pos List.mem_cons_self]
      exact valV_pos (p := ((Sum.inr y : Key), f y)) rfl
    · have e : valV (dS (y :: ks) f) (Sum.inr x) = valV (dS ks f) (Sum.inr x) := valV_neg (p := ((Sum.inr y : Key), f y)) fun q => h (Sum.inr.inj q)
      rw [e, ih]
      by_cases m : x ∈ ks
      · rw [if_pos m, if_pos (List.mem_cons_of_mem _ m)]
      · rw [if_neg m, if_neg fun q => (List.mem_cons.mp q).elim (fun z => h z.symm) m]
theorem dS_in {ks : List Str} {f : Str → V} {x : Str} (h : x ∈ ks) : valV (dS ks f) (Sum.inr x) = some (f x) := by rw [dS_val, if_pos h]
theorem dS_out {ks : List Str} {f : Str → V} {x : Str} (h : x ∉ ks) : valV (dS ks f) (Sum.inr x) = none := by rw [dS_val, if_neg h]
theorem dS_congr {ks : List Str} {f g : Str → V} (h : ∀ x ∈ ks, f x = g x) : dS ks f = dS ks g := List.map_congr_left fun x hx => by rw [h x hx]
theorem dS_any {ks : List Str} {f : Str → V} {x : Str} : ((dS ks f).any fun kv => decide (kv.1 = Sum.inr x)) = true ↔ x ∈ ks := by
  rw [valV_any, dS_val]
  by_cases m : x ∈ ks
  · rw [if_pos m]
    exact ⟨fun _ => m, fun _ => rfl⟩
  · rw [if_neg m]
    exact ⟨(fun q => nomatch q), fun q => absurd q m⟩
theorem dS_put (ks : List Str) (f : Str → V) (x : Str) (v : V) : putK (dS ks f) (Sum.inr x) v = dS (addN ks x) (put f x v) := by
  unfold putK addN
  by_cases m : x ∈ ks
  · rw [if_pos (dS_any.mpr m), if_pos m]
    unfold dS
    rw [List.map_map]
    refine List.map_congr_left fun y _ => ?_
    show (if (Sum.inr y : Key) = Sum.inr x then ((Sum.inr y : Key), v) else ((Sum.inr y : Key), f y)) = ((Sum.inr y : Key), put f x v y)
    by_cases j : y = x
    · subst j
      rw [if_pos rfl, put_at]
    · rw [if_neg fun q => j (Sum.inr.inj q), put_off j]
  · rw [if_neg fun q => m (dS_any.mp q), if_neg m]
    have e : dS ks (put f x v) = dS ks f := dS_congr fun y hy => put_off fun q => m (q ▸ hy)
    show dS ks f ++ [((Sum.inr x : Key), v)] = (ks ++ [x]).map _
    rw [List.map_append]
    show _ = dS ks (put f x v) ++ [((Sum.inr x : Key), put f x v x)]
    rw [e, put_at]
theorem dS_keys (ks : List Str) (f : Str → V) : (dS ks f).map (fun kv => kV kv.1) = ks.map V.str := by
  unfold dS
  rw [List.map_map]
  rfl
theorem dget {H : Hp} {a : Addr} {ks : List Str} {f : Str → V} {x : Str} (e : H a = some (.dK (dS ks f))) (h : x ∈ ks) : DGet H a (.str x) (some (f x)) := by
  have q := DGet.k (k := Sum.inr x) e
  rw [dS_in h] at q
  exact q
theorem dget0 {H : Hp} {a : Addr} {ks : List Str} {f : Str → V} {x : Str} (e : H a = some (.dK (dS ks f))) (h : x ∉ ks) : DGet H a (.str x) none := by
  have q := DGet.k (k := Sum.inr x) e
  rw [dS_out h] at q
  exact q
theorem dgetI {H : Hp} {a : Addr} {ks : List Str} {f : Str → V} (x : Str) (e : H a = some (.dK (dS ks f))) : DGet H a (.str x) (if x ∈ ks then some (f x) else none) := by
  have q := DGet.k (k := Sum.inr x) e
  rw [dS_val] at q
  exact q
theorem dput {H : Hp} {a : Addr} {ks : List Str} {f : Str → V} (x : Str) (v : V) (e : H a = some (.dK (dS ks f))) (h : ks.length ≤ 1000) : DPut H a (.str x) v (upd H a (.dK (dS (addN ks x) (put f x v)))) := by
  have q := DPut.k (k := Sum.inr x) (v := v) e (by rw [dS_len]; exact small1000 h)
  rw [dS_put] at q
  exact q
/-! ### heaps -/
theorem same_upd {H : Hp} {p : Addr} {o : HO} (h : H p = none) : Same H (upd H p o) := fun b x e => by
  rw [upd_ne (ne_of_none e h)]
  exact e
/-- what was tracked at the beginning is as it was, though a later thing changes -/
theorem _root_.L2.Same.later {H H' : Hp} {p : Addr} {o : HO} (s : Same H H') (h : H p = none) : Same H (upd H' p o) := fun b x e => by
  rw [upd_ne (ne_of_none e h)]
  exact s b x e
/-! ### systems -/
def rowV (r : SRow) : List V := [.str r.1, .str r.2.1, .int r.2.2]
def RowT (H : Hp) (p : Addr) (r : SRow) : Prop := H p = some (.tup (rowV r))
def RowA (H : Hp) (p : Addr) (r : SRow) : Prop := H p = some (.tup (rowV r)) ∨ H p = some (.lst (rowV r))
/-- a list of rows at a -/
def Sys (R : Hp → Addr → SRow → Prop) (H : Hp) (a : Addr) (rows : List SRow) : Prop :=
  ∃ ps : List Addr, H a = some (.lst (ps.map V.ref)) ∧ ps.length = rows.length ∧ ∀ (i : Nat) (p : Addr) (r : SRow), ps[i]? = some p → rows[i]? = some r → R H p r
def Good1 (r : SRow) : Prop := r.1 ≠ r.2.1 ∧ r.1 ≠ ("" : Str) ∧ r.2.1 ≠ ("" : Str)
structure Good (rows : List SRow) : Prop where
  row : ∀ r ∈ rows, Good1 r
  few : rows.length ≤ 100
theorem RowT.same {H H' : Hp} {p : Addr} {r : SRow} (s : Same H H') (h : RowT H p r) : RowT H' p r := s _ _ h
theorem RowA.same {H H' : Hp} {p : Addr} {r : SRow} (s : Same H H') (h : RowA H p r) : RowA H' p r := h.imp (fun h => s _ _ h) fun h => s _ _ h
theorem RowT.any {H : Hp} {p : Addr} {r : SRow} (h : RowT H p r) : RowA H p r := .inl h
theorem Sys.sameT {H H' : Hp} {a : Addr} {rows : List SRow} (s : Same H H') (h : Sys RowT H a rows) : Sys RowT H' a rows := by
  obtain ⟨ps, h1, h2, h3⟩ := h
  exact ⟨ps, s _ _ h1, h2, fun i p r hp hr => (h3 i p r hp hr).same s⟩
theorem Sys.sameA {H H' : Hp} {a : Addr} {rows : List SRow} (s : Same H H') (h : Sys RowA H a rows) : Sys RowA H' a rows := by
  obtain ⟨ps, h1, h2, h3⟩ := h
  exact ⟨ps, s _ _ h1, h2, fun i p r hp hr => (h3 i p r hp hr).same s⟩
theorem Sys.any {H : Hp} {a : Addr} {rows : List SRow} (h : Sys RowT H a rows) : Sys RowA H a rows := by
  obtain ⟨ps, h1, h2, h3⟩ := h
  exact ⟨ps, h1, h2, fun i p r hp hr => (h3 i p r hp hr).any⟩
/-- the i-th row of a system -/
theorem Sys.at {R : Hp → Addr → SRow → Prop} {H : Hp} {rows : List SRow} {ps : List Addr} (h2 : ps.length = rows.length) (h3 : ∀ (i : Nat) (p : Addr) (r : SRow), ps[i]? = some p → rows[i]? = some r → R H p r) {i : Nat} {v : V} (hv : (ps.map V.ref)[i]? = some v) :
    ∃ p r, v = .ref p ∧ ps[i]? = some p ∧ rows[i]? = some r ∧ r ∈ rows ∧ i < rows.length ∧ R H p r := by
  rw [List.getElem?_map] at hv
  cases e : ps[i]? with
  | none =>
    rw [e] at hv
    cases hv
  | some p =>
    rw [e] at hv
    have hi : i < ps.length := (List.getElem?_eq_some_iff.mp e).1
    have hi2 : i < rows.length := h2 ▸ hi
    refine ⟨p, rows[i], (Option.some.inj hv).symm, rfl, List.getElem?_eq_getElem hi2, List.getElem_mem hi2, hi2, h3 i p _ e (List.getElem?_eq_getElem hi2)⟩
/-- what the module's names hold -/
structure Blt (mg : Str → Option Value) : Prop where
  isi : mg "isinstance" = none
  int : mg "int" = none
  bool : mg "bool" = none
  str : mg "str" = none
  tuple : mg "tuple" = none
  list : mg "list" = none
  len : mg "len" = none
  enum : mg "enumerate" = none
  range : mg "range" = none
  all : mg "all" = none
end Lo
/-! all(e for x in it), the element any expression: what the consumer does -/
namespace GxC
open PySem PySem.Spec PyProof.Rows L2 GenW
/-- an item is told: if it is true, what is done once it is woken again; if not, the end -/
def YAll (a : Addr) (g : Nat) (Fin : Bool → Shared → Prop) : Protocol := fun n s₀ v s kap =>
  AllBare s.gens ∧ ∃ b : Bool, v = .bool b ∧ (b = true → s.heap.IsGen a g ∧ s.heap.NoLimit ∧ ∀ s'' : Shared, s''.heap = s.heap → s''.os = s.os → AllBare s''.gens → kap (.send .none) s'') ∧ (b = false → Fin false s)
/-- it ends: all were true -/
def PAll (Fin : Bool → Shared → Prop) : Nat → Shared → Shared → Prop := fun _ _ s => AllBare s.gens ∧ Fin true s
theorem drain_all {P : Program} {w : World} {A : Around} {R : Result → Shared → Prop} {a : Addr} {g : Nat} {Fin : Bool → Shared → Prop} (hh : A.handled = none) (hd : A.depth < recursionLimit)
    (fin : ∀ b s s', Fin b s → s'.os = s.os → AllBare s'.gens → (∀ c o, s.heap.get? c = some o → s'.heap.get? c = some o) → R (.ok (.ret (.bool b))) s') :
    ∀ (m : Nat) (s : Shared), s.heap.IsGen a g → s.heap.NoLimit →
      (∃ gs, s.gens[g]? = some gs ∧ gs.Goes (model P w) A.in1.in1 (fun n s₀ r s₁ => r = .ok .next ∧ PAll Fin n s₀ s₁) (YAll a g Fin) m (.send .none) (s.setGen g .running)) →
      codeAny (model P w) A (.builtin "all.loop" ⟨[.ref a], []⟩) R s := by
  intro m
  induction m with
  | zero =>
    intro s hg hl ⟨gs, hgs, hgo⟩
    refine codeAny_builtin F.entry_all_loop ?_
    rw [Around.under_plainId F.plain_all_loop _]
    show wpAny _ A.in1 (pyNext (.ref a) >>= _) _ _ s
    refine wpAny_bind (wpAny_pyNext_genexpQ (P := PAll Fin) (A := A.in1) hh hl hd hg hgs hgo (fun v s₁ gs' hbare hv => ?_) (fun s₁ hp h' hk => ?_))
    · obtain ⟨hb, b, rfl, h1, h2⟩ := hv
      cases b with
      | true => exact False.elim ((h1 rfl).2.2 s₁ rfl rfl hb)
      | false =>
        refine wpAny_bind (wpAny_holding (wpAny_truthy_bool ?_))
        refine wpAny_bind (wpAny_letGo ?_)
        simp only [Bool.false_eq_true, if_false]
        exact wpAny_bind (wpAny_rule (wpAny_pure (fin false s₁ _ (h2 rfl) rfl (allBare_setGen hb hbare) fun c o e => e)))
    · obtain ⟨hb, hf⟩ := hp
      exact wpAny_bind (wpAny_rule (wpAny_pure (fin true s₁ _ hf rfl (allBare_setGen hb rfl) hk)))
  | succ m ih =>
    intro s hg hl ⟨gs, hgs, hgo⟩
    have hgl : g < s.gens.size := (Array.getElem?_eq_some_iff.mp hgs).1
    refine codeAny_builtin F.entry_all_loop ?_
    rw [Around.under_plainId F.plain_all_loop _]
    show wpAny _ A.in1 (pyNext (.ref a) >>= _) _ _ s
    refine wpAny_bind (wpAny_gsz (n := g + 1) hgl (wpAny_mono (wpAny_pyNext_genexpQ (P := PAll Fin) (A := A.in1) (E := fun _ _ => False) (Q := fun r s' => g + 1 ≤ s'.gens.size → _) hh hl hd hg hgs hgo (fun v s₁ gs' hbare hv => ?_) (fun s₁ hp h' hk => ?_)) (fun _ _ z => z) fun _ _ z => False.elim z))
    · intro hsz
      obtain ⟨hb, b, rfl, h1, h2⟩ := hv
      refine wpAny_bind (wpAny_holding (wpAny_truthy_bool ?_))
      refine wpAny_bind (wpAny_letGo ?_)
      cases b with
      | true =>
        obtain ⟨hg1, hl1, hk⟩ := h1 rfl
        simp only [if_true]
        have hsz1 : g < s₁.gens.size := by
          have q : (s₁.setGen g gs').gens.size = s₁.gens.size := setGen_size _ _ _
          have hsz' : g + 1 ≤ (s₁.setGen g gs').gens.size := hsz
          omega
        exact wpAny_pure ⟨plainId_quiet F.plain_all_loop _, ih (s₁.setGen g gs') hg1 hl1 ⟨gs', setGen_at hsz1, hk _ rfl rfl (allBare_setGen (allBare_setGen hb hbare) rfl)⟩⟩
      | false =>
        simp only [Bool.false_eq_true, if_false]
        exact wpAny_bind (wpAny_rule (wpAny_pure (fin false s₁ _ (h2 rfl) rfl (allBare_setGen hb hbare) fun c o e => e)))
    · intro _
      obtain ⟨hb, hf⟩ := hp
      exact wpAny_bind (wpAny_rule (wpAny_pure (fin true s₁ _ hf rfl (allBare_setGen hb rfl) hk)))
/-- all(g), g a generator that has not begun -/
theorem call_all_gen {P : Program} {w : World} {A : Around} {Q : Value → Shared → Prop} {E : Value → Shared → Prop} {s : Shared} {a : Addr} {g m : Nat} {Fin : Bool → Shared → Prop} (hh : A.handled = none) (hd : A.depth < recursionLimit)
    (fin : ∀ b s s', Fin b s → s'.os = s.os → AllBare s'.gens → (∀ c o, s.heap.get? c = some o → s'.heap.get? c = some o) → Q (.bool b) s')
    (hg : s.heap.IsGen a g) (hl : s.heap.NoLimit) (go : ∃ gs, s.gens[g]? = some gs ∧ gs.Goes (model P w) A.in1.in1 (fun n s₀ r s₁ => r = .ok .next ∧ PAll Fin n s₀ s₁) (YAll a g Fin) m (.send .none) (s.setGen g .running)) :
    wpAny (model P w) A (call (.builtin "all") [.ref a]) Q E s := by
  refine call_function_tree F.kind_all F.plain_all F.entry_all (F.args_all1 _) ?_
  unfold Builtin.«all»
  refine wpAny_bind (m := oneArg "all" _) (wpAny_pure ?_)
  refine wpAny_bind (wpAny_pyIter_gen hg ?_)
  exact wpAny_pure ⟨plainId_quiet F.plain_all_loop _, drain_all hh hd (fun b s s' h1 h2 h3 h4 => fin b s s' h1 h2 h3 h4) m s hg hl go⟩
end GxC
/-! the generator expression's own frame as a context -/
namespace GxC
open PySem PySem.Spec PyProof.Rows L2 GenW
/-- the context of the element: the generator's frame over the def's -/
abbrev gxb (X : Cx) (s : Shared) (H : Hp) (scope : Scope) (cenv : Env) (fp : List Addr) (A' : Around) : Cx :=
  { X with s_0 := s, H_0 := H, A := A', env := cenv, outer := X.stack, stack := cenv :: X.stack, ex := fp, fn := fun x => scope.names.lookup x == some .cell, pn := [], xe := fun _ _ => False }
theorem Inv.same {X : Cx} {pins : List (Addr × Obj)} {σ : L2.St} {H : Hp} {s s' : Shared} (I : Inv X pins σ H s) (e1 : s'.heap = s.heap) (e2 : s'.os = s.os) (e3 : AllBare s'.gens) : Inv X pins σ H s' :=
  ⟨I.ok, e2.trans I.os, e3, by rw [e1]; exact I.base, by rw [e1]; exact I.loc, by rw [e1]; exact I.cell, I.free, I.freeC, by rw [e1]; exact I.pin, by rw [e1]; exact I.hok, I.len⟩
section
variable {X : Cx} {pins : List (Addr × Obj)} {σ : L2.St} {H : Hp} {s s' : Shared}
theorem gx_start {scope : Scope} {own : List (Str × Nat)} {fp : List Addr} {A' : Around} {C : Addr} {code : Value} {m : Str → Option Value} {a : Addr} {go : Obj} (I : Inv X pins σ H s) (ok : BlkOk X.N X.env.scope scope own) (noc : ∀ y ∈ scope.names, y.2 ≠ .cell) (hN : X.N.Nodup) (hfp : ∀ b ∈ fp, FpOk X pins H b ∧ b < s.heap.objs.size)
    (hd : A'.handled = none) (hfr : A'.frames = some (genEnv scope (cloFrom X.env.cells scope.names []) C code builtinsNs X.env :: X.stack)) (hC : s.heap.objs.size ≤ C) (hns : s'.heap.Ns C m) (kp : ∀ b o, s.heap.get? b = some o → s'.heap.get? b = some o) (os : s'.os = s.os) (hb : AllBare s'.gens)
    (ha : s.heap.objs.size ≤ a) (haC : a ≠ C) (hgo : s'.heap.get? a = some go) (hgd : ∀ v, go.data ≠ .cell v) :
    Inv (gxb X s H scope (genEnv scope (cloFrom X.env.cells scope.names []) C code builtinsNs X.env) fp A') [(a, go)] (wipe σ (own.map (·.2))) H s' := by
  have hfree : ∀ y ∈ scope.names, y.2 = .free → ∃ c, X.env.cells.lookup y.1 = some c := fun y hy e => by
    rcases ok.free y hy e with k | k
    · exact I.ok.has _ (.inl k)
    · exact I.ok.has _ (.inr k)
  have cm : ∀ {y c}, (cloFrom X.env.cells scope.names []).lookup y = some c → X.env.cells.lookup y = some c ∧ c < s.heap.objs.size := fun {y c} hl => by
    have hm : (y, c) ∈ cloFrom X.env.cells scope.names [] := PySem.mem_of_lookup hl
    rcases cloFrom_mem hm with hm | ⟨h1, rfl⟩
    · cases hm
    · obtain ⟨c, hc⟩ := hfree _ h1 rfl
      rw [hc]
      obtain ⟨w, z⟩ := I.cell _ _ hc
      exact ⟨rfl, z.lt⟩
  have look : ∀ {y}, scope.names.lookup y = some .free → ∃ c, (cloFrom X.env.cells scope.names []).lookup y = some c ∧ X.env.cells.lookup y = some c := fun {y} hl => by
    have hy : (y, NameKind.free) ∈ scope.names := PySem.mem_of_lookup hl
    obtain ⟨c', e'⟩ := mem_lookup (cloFrom_has (cells := X.env.cells) (acc := []) hy)
    exact ⟨c', e', (cm e').1⟩
  have nocell : ∀ {y}, scope.names.lookup y ≠ some .cell := fun {y} e => noc _ (PySem.mem_of_lookup e) rfl
  generalize hce : genEnv scope (cloFrom X.env.cells scope.names []) C code builtinsNs X.env = cenv at hfr ⊢
  have hL : cenv.locals = C := by rw [← hce]; rfl
  have hcl : cenv.cells = cloFrom X.env.cells scope.names [] := by rw [← hce]; rfl
  have hsc : cenv.scope = scope := by rw [← hce]; rfl
  rw [← hcl] at cm look
  have okB : (gxb X s H scope cenv fp A').Ok := by
    refine ⟨I.ok.mod, by show cenv.scope.kind = _; rw [hsc]; exact ok.kind, by show cenv.globals = _; rw [← hce]; exact I.ok.glob, by show cenv.builtins = _; rw [← hce]; rfl, by show s.heap.objs.size ≤ cenv.locals; rw [hL]; exact hC,
      fun y z c e1 e2 => I.ok.inj y z c (cm e1).1 (cm e2).1, fun y hy => ?_, fun y c z e => ?_, fun _ => hd, hfr, .inr ⟨rfl, by show cenv.frame = some cenv.locals; rw [← hce]; rfl⟩, fun b hb => ⟨?_, fun y c e z => ?_⟩, I.bs, Nat.le_trans I.ok.bsz I.sz, fun b o e hb => ?_, fun b hb z => ?_, I.stack, I.stkFree⟩
    · show ∃ c, cenv.cells.lookup y = some c
      have hy : cenv.scope.names.lookup y = some .cell ∨ cenv.scope.names.lookup y = some .free := hy
      rw [hsc] at hy
      rcases hy with hy | hy
      · exact absurd hy nocell
      · obtain ⟨c, h1, _⟩ := look hy
        exact ⟨c, h1⟩
    · have z : (scope.names.lookup y == some NameKind.cell) = true := z
      exact absurd (by simpa using z) (nocell (y := y))
    · show b ≠ cenv.locals
      rw [hL]
      exact Nat.ne_of_lt (Nat.lt_of_lt_of_le (hfp b hb).2 hC)
    · exact (hfp b hb).1.2.2.2.2.1 y c (cm e).1 z
    · rcases (hfp b hb).1.2.2.2.1 with z | z
      · exact I.ok.noex b o e z
      · exact absurd (Nat.lt_of_lt_of_le (Heap.lt_size e) (Nat.le_trans I.ok.bsz z)) (Nat.lt_irrefl _)
    · rcases List.mem_cons.mp (I.stkSub b z) with z | z
      · exact (hfp b hb).1.2.1 z
      · exact (hfp b hb).1.2.2.1 z
  refine ⟨okB, os, hb, Un.kept kp, ⟨m, ?_, fun i y av e1 e2 e3 => ?_⟩, fun y c e => ?_, ?_, fun y c e => ?_, fun p hp => ?_, I.hok.kept kp, by rw [wipe_length]; exact I.len⟩
  · show Heap.Ns _ cenv.locals _
    rw [hL]
    exact hns
  · obtain ⟨e2, hne⟩ := wipe_some e2
    have e3 : Vis cenv.scope y := e3
    rw [hsc] at e3
    have no : ∀ {k}, scope.names.lookup y = some k → ¬ (k = .local ∨ k = .cell) := fun {k} e hh => by
      rcases ok.own _ (PySem.mem_of_lookup e) hh with e' | e'
      · obtain ⟨p, hp, hpy⟩ := List.mem_map.mp e'
        have e4 := ok.ix p hp
        have : p.1 = y := hpy
        rw [this] at e4
        exact hne (List.mem_map.mpr ⟨p, hp, nodup_ix hN e4 e1⟩)
      · exact e' (List.mem_of_getElem? e1)
    have hf : scope.names.lookup y = some .free := by
      rcases e3 with e3 | e3 | e3
      · exact absurd (.inl rfl) (no e3)
      · exact absurd (.inr rfl) (no e3)
      · exact e3
    obtain ⟨m', hn', hl⟩ := I.loc
    have hvis : Vis X.env.scope y := (ok.free _ (PySem.mem_of_lookup hf) rfl).elim (fun k => .inr (.inl k)) (fun k => .inr (.inr k))
    obtain ⟨w, r, q⟩ := hl i y av e1 e2 hvis
    refine ⟨w, r, .inr ⟨.inr (by show cenv.scope.names.lookup y = _; rw [hsc]; exact hf), ?_⟩⟩
    obtain ⟨c, h1, h2⟩ := look hf
    rcases q with ⟨k, _⟩ | ⟨_, c', e', z⟩
    · have k : X.env.scope.names.lookup y = some .local := k
      rcases ok.free _ (PySem.mem_of_lookup hf) rfl with k' | k' <;> rw [show X.env.scope.names.lookup y = _ from k'] at k <;> cases k
    · rw [h2] at e'
      cases e'
      exact ⟨c, h1, z.keeps kp⟩
  · obtain ⟨w, z⟩ := I.cell y c (cm e).1
    exact ⟨w, z.keeps kp⟩
  · show H cenv.locals = none
    rw [hL]
    exact I.hok.fresh hC
  · exact I.freeC y c (cm e).1
  · have hp' : p ∈ ([] : List (Addr × Obj)) ++ [(a, go)] := hp
    have e : p = (a, go) := by simpa using hp'
    rw [e]
    exact ⟨hgo, I.hok.fresh ha, by show a ≠ cenv.locals; rw [hL]; exact haC, fun z => by
      have z : a ∈ frs X.stack := z
      rcases List.mem_cons.mp (I.stkSub a z) with z | z
      · exact absurd (Nat.lt_of_lt_of_le I.lt (by rw [← z]; exact ha)) (Nat.lt_irrefl _)
      · exact I.nofs ha z, hgd⟩
end
end GxC
/-! the generator's turns -/
namespace GxC
open PySem PySem.Spec PyProof.Rows L2 GenW
/-- what is asked of the turns: W by the turn and a measure -/
def tAllW (J : It) (g : TG) (te : TE) (vs : List Nat) (σ : L2.St) (W : Nat → Nat → Hp → Prop) (Q : VK) : Prop := ∀ i m H, W i m H →
  (J.stop i H ∧ Q (.bl true) H) ∨ (J.go i H ∧ ∃ Nx : Hp → Prop, (∀ H', Nx H' → ∃ m', m' < m ∧ W (i + 1) m' H') ∧ ∀ x H', J.yld i H x H' → g x (wipe σ vs) H' fun σ2 H2 => wipe σ2 vs = wipe σ vs ∧ te σ2 H2 fun y H3 => ∃ b : Bool, y = .bl b ∧
    (b = true → Nx H3) ∧ (b = false → Q (.bl false) H3))
section
variable {X : Cx} {s : Shared} {H : Hp} {scope : Scope} {cenv : Env} {fp : List Addr} {σ : L2.St} {elt tg iter : Expr} {pos : Pos} {it a : Addr} {go : Obj} {gn : Nat} {own : List Nat} {J : It} {tn : Nat → Heap → Prop} {g : TG} {te : TE} {W : Nat → Nat → Hp → Prop} {Q : VK} {B : Around}
/-- the end: the frame's context holds -/
def FinG (Y : Cx) (a : Addr) (go : Obj) (Q : VK) (b : Bool) (s : Shared) : Prop := ∃ σ' H', Inv Y [(a, go)] σ' H' s ∧ Q (.bl b) H'
theorem gx_loop (hc : X.calm = true) (T : Turn X.prog X.w X.K tg J fp it tn) (hco : cenv.scope.isCoroutine = false)
    (pg : PG (gxb X s H scope cenv fp (B.over (.compLoop (.GeneratorExp elt [⟨tg, iter, [], 0⟩] scope pos) 0 (.ref it) .none cenv) [])) tg g)
    (pe : PE (gxb X s H scope cenv fp (B.over (.compLoop (.GeneratorExp elt [⟨tg, iter, [], 0⟩] scope pos) 0 (.ref it) .none cenv) [])) elt te)
    (hgen : ∀ h : Heap, h.get? a = some go → h.IsGen a gn) (haf : a ∉ fp) (turn : tAllW J g te own σ W Q) :
    ∀ (n m i : Nat) (H' : Hp) (s₀ s' : Shared), m < n → Inv (gxb X s H scope cenv fp (B.over (.compLoop (.GeneratorExp elt [⟨tg, iter, [], 0⟩] scope pos) 0 (.ref it) .none cenv) [])) [(a, go)] (wipe σ own) H' s' → tn i s'.heap → (∀ b ∈ fp, H' b = none) → W i m H' →
      Seg (model X.prog X.w) B (fun n s₀ r s₁ => r = .ok .next ∧ PAll (FinG (gxb X s H scope cenv fp (B.over (.compLoop (.GeneratorExp elt [⟨tg, iter, [], 0⟩] scope pos) 0 (.ref it) .none cenv) [])) a go Q) n s₀ s₁)
        (YAll a gn (FinG (gxb X s H scope cenv fp (B.over (.compLoop (.GeneratorExp elt [⟨tg, iter, [], 0⟩] scope pos) 0 (.ref it) .none cenv) [])) a go Q)) n s₀
        (.compLoop (.GeneratorExp elt [⟨tg, iter, [], 0⟩] scope pos) 0 (.ref it) .none cenv) ((model X.prog X.w).den (.compLoop (.GeneratorExp elt [⟨tg, iter, [], 0⟩] scope pos) 0 (.ref it) .none cenv)) [] s' := by
  have stat : ∀ {σ' : L2.St} {H' : Hp} {s' : Shared}, Inv (gxb X s H scope cenv fp (B.over (.compLoop (.GeneratorExp elt [⟨tg, iter, [], 0⟩] scope pos) 0 (.ref it) .none cenv) [])) [(a, go)] σ' H' s' → (∀ b ∈ fp, H' b = none) →
      ∀ b ∈ fp, FpOk (gxb X s H scope cenv fp (B.over (.compLoop (.GeneratorExp elt [⟨tg, iter, [], 0⟩] scope pos) 0 (.ref it) .none cenv) [])) [(a, go)] H' b := fun {σ' H' s'} I' hn b hb =>
    ⟨hn b hb, (I'.ok.exf b hb).1, I'.ok.exfs b hb, .inl hb, fun x c e => (I'.ok.exf b hb).2 x c e, fun p hp z => by
      have hp' : p ∈ ([] : List (Addr × Obj)) ++ [(a, go)] := hp
      have e : p = (a, go) := by simpa using hp'
      rw [e] at z
      exact haf (show a ∈ fp from by rw [show a = b from z]; exact hb)⟩
  intro n
  induction n with
  | zero => exact fun m i H' s₀ s' h => absurd h (Nat.not_lt_zero _)
  | succ n ih =>
    intro m i H' s₀ s' hm I5 st5 n5 w5
    show Seg _ B _ _ _ s₀ _ ((compTurn (.GeneratorExp elt [⟨tg, iter, [], 0⟩] scope pos) 0 (.ref it) .none cenv).onRaise (leaving cenv)) [] s'
    rw [compTurn_gen, Sem.onRaise_eq_wrap]
    refine seg_bind_wrap (wpAny_standAt ?_)
    rcases turn i m H' w5 with ⟨stop, qq⟩ | ⟨go', Nx, hNx, step⟩
    · have td := T.done (gxb X s H scope cenv fp (B.over (.compLoop (.GeneratorExp elt [⟨tg, iter, [], 0⟩] scope pos) 0 (.ref it) .none cenv) [])) rfl rfl rfl hc i [(a, go)] s' _ H' (fun _ _ => False) I5 (stat I5 n5) st5 stop
      refine seg_bind_wrap (wpAny_mono td (fun r s6 ⟨hr, I6⟩ => ?_) fun _ _ z => False.elim z)
      subst hr
      exact seg_end (.ok .next) ⟨rfl, I6.bare, _, H', I6, qq⟩
    · have ti := T.item (gxb X s H scope cenv fp (B.over (.compLoop (.GeneratorExp elt [⟨tg, iter, [], 0⟩] scope pos) 0 (.ref it) .none cenv) [])) rfl rfl rfl hc i [(a, go)] s' _ H' (fun _ _ => False) I5 (stat I5 n5) st5 go'
      refine seg_bind_wrap (wpAny_mono ti (fun r s6 ⟨u, hr, h6⟩ => ?_) fun _ _ z => False.elim z)
      subst hr
      refine seg_bind_wrap (wpAny_mono h6 (fun _ s7 ⟨x, H7, I7, r7, y7, st7, n7⟩ => ?_) fun _ _ z => False.elim z)
      have I7' := I7.pinned (stat I7 n7) (T.obj _ _ st7)
      refine seg_bind_wrap (wpAny_mono (pg.run _ s7 _ H7 x u _ I7' r7 (step x H7 y7)) (fun _ s8 ⟨σ8, H8, I8, hw8, q8⟩ => ?_) fun _ _ z => False.elim z)
      simp only [List.forIn_nil]
      refine seg_bind_wrap (wpAny_pure ?_)
      simp only [if_true]
      have hy : ∀ v, yieldOut cenv v = yieldValue v := fun v => by simp only [yieldOut, hco, Bool.false_eq_true, if_false]
      simp only [hy]
      rw [Sem.bind_eq_wrap', Sem.bind_eq_wrap', Sem.wrap_wrap, Sem.wrap_wrap]
      refine seg_wrap (wpAny_mono (pe.run _ s8 σ8 H8 _ I8 q8) (fun z s9 ⟨yv, H9, I9, r9, b, eb, q1, q2⟩ => ?_) fun _ _ z => False.elim z)
      subst eb
      cases r9
      have I10 : Inv (gxb X s H scope cenv fp (B.over (.compLoop (.GeneratorExp elt [⟨tg, iter, [], 0⟩] scope pos) 0 (.ref it) .none cenv) [])) [(a, go)] σ8 H9 s9 := I9.unpinned
      have pin' : ∀ b ∈ fp, ∀ o, s7.heap.get? b = some o → s9.heap.get? b = some o ∧ H9 b = none := fun b hb o e =>
        let z := I9.pin (b, o) (List.mem_append_right _ (List.mem_append_right _ (mem_pinsAt hb e)))
        ⟨z.1, z.2.1⟩
      have hl : (wipe σ own).length = σ8.length := by rw [← hw8, wipe_length]
      refine seg_at (seg_yield rfl rfl rfl ⟨I10.bare, b, rfl, fun hb => ⟨hgen _ (I10.pin (a, go) (List.mem_append_right _ (List.mem_singleton.mpr rfl))).1, I10.nolimit, fun s'' e1 e2 e3 => ?_⟩, fun hb => ⟨σ8, H9, I10, by rw [hb] at q2; exact q2 rfl⟩⟩)
      obtain ⟨m', hm', w'⟩ := hNx H9 (q1 hb)
      have I11 := Inv.same I10 e1 e2 e3
      refine seg_again rfl (ih m' (i + 1) H9 s'' s'' (by omega) (I11.weak hl fun j v e => ?_) ?_ (fun b hb => ?_) w')
      · rw [← hw8] at e
        exact (wipe_some e).1
      · rw [e1]
        exact T.keep _ _ _ st7 fun b hb o e => (pin' b hb o e).1
      · obtain ⟨o, e, _⟩ := T.obj _ _ st7 b hb
        exact (pin' b hb o e).2
theorem gx_begin (hc : X.calm = true) (T : Turn X.prog X.w X.K tg J fp it tn) (hco : cenv.scope.isCoroutine = false)
    (pg : PG (gxb X s H scope cenv fp (B.over (.compLoop (.GeneratorExp elt [⟨tg, iter, [], 0⟩] scope pos) 0 (.ref it) .none cenv) [])) tg g)
    (pe : PE (gxb X s H scope cenv fp (B.over (.compLoop (.GeneratorExp elt [⟨tg, iter, [], 0⟩] scope pos) 0 (.ref it) .none cenv) [])) elt te)
    (hgen : ∀ h : Heap, h.get? a = some go → h.IsGen a gn) (haf : a ∉ fp) (turn : tAllW J g te own σ W Q)
    {n m : Nat} {H' : Hp} {s₀ s' : Shared} (hm : m < n) (I5 : Inv (gxb X s H scope cenv fp (B.over (.compLoop (.GeneratorExp elt [⟨tg, iter, [], 0⟩] scope pos) 0 (.ref it) .none cenv) [])) [(a, go)] (wipe σ own) H' s') (st5 : tn 0 s'.heap) (n5 : ∀ b ∈ fp, H' b = none) (w5 : W 0 m H') :
      Seg (model X.prog X.w) B (fun n s₀ r s₁ => r = .ok .next ∧ PAll (FinG (gxb X s H scope cenv fp (B.over (.compLoop (.GeneratorExp elt [⟨tg, iter, [], 0⟩] scope pos) 0 (.ref it) .none cenv) [])) a go Q) n s₀ s₁)
        (YAll a gn (FinG (gxb X s H scope cenv fp (B.over (.compLoop (.GeneratorExp elt [⟨tg, iter, [], 0⟩] scope pos) 0 (.ref it) .none cenv) [])) a go Q)) n s₀
        (.compStart (.GeneratorExp elt [⟨tg, iter, [], 0⟩] scope pos) 0 (.ref it) .none cenv) ((model X.prog X.w).den (.compStart (.GeneratorExp elt [⟨tg, iter, [], 0⟩] scope pos) 0 (.ref it) .none cenv)) [] s' := by
  have loop := gx_loop hc T hco pg pe hgen haf turn n m 0 H' s₀ s' hm I5 st5 n5 w5
  show Seg _ B _ _ _ s₀ _ ((compStart (.GeneratorExp elt [⟨tg, iter, [], 0⟩] scope pos) 0 (.ref it) .none cenv).onRaise (leaving cenv)) [] s'
  unfold compStart
  rw [Sem.onRaise_eq_wrap]
  show Seg _ B _ _ _ s₀ _ ((ask >>= _).wrap _ _ _ _) [] s'
  refine seg_bind_wrap (wpAny_askSetting ?_)
  split
  · exact seg_again rfl loop
  · first
      | exact seg_bind_wrap (wpAny_rule (seg_bind_wrap (wpAny_standAt (seg_bind_wrap (T.self _ 0 s' _ _ st5 (seg_again rfl loop))))))
      | (refine seg_bind_wrap (wpAny_rule ?_); show Seg _ B _ _ _ s₀ _ ((standAt iter.pos >>= _).wrap _ _ _ _) [] s'; exact seg_bind_wrap (wpAny_standAt (seg_bind_wrap (T.self _ 0 s' _ _ st5 (seg_again rfl loop)))))
end
end GxC
/-! all(e for x in it) as an expression -/
namespace GxC
open PySem PySem.Spec PyProof.Rows L2 GenW GxR
/-- all(e for x in it): behind it the def's table may have grown -/
def tAllG (P : Addr) (vs : List Nat) (wi : TI) (g : TG) (te : TE) : TE := fun σ H Q => wi σ H fun J H1 => TabG H1 P ∧ ∀ H2, Tabbed P H1 H2 → ∃ W : Nat → Nat → Hp → Prop, (∃ m, W 0 m H2) ∧ tAllW J g te vs σ W Q
section
variable {X : Cx}
theorem gx_frames {A : Around} {st : List Env} {ce : Env} {elt : Expr} {gens : List Comprehension} {sc : Scope} {pos : Pos} {it acc : Value} (h : A.frames = some st) : (A.in1.in1.over (Code.compLoop (.GeneratorExp elt gens sc pos) 0 it acc ce) []).frames = some (ce :: st) := by
  unfold Around.over
  simp only
  rw [h]
  rfl
theorem all_gen {pins : List (Addr × Obj)} {σ : L2.St} {H : Hp} {s : Shared} {Q : VK} {c P : Addr} {elt tg iter : Expr} {gpos : Pos} {scope : Scope} {own : List (Str × Nat)} {wi : TI} {g : TG} {te : TE} {k : Nat} {K' : Value → Shared → Prop}
    (hr : Room (k + 1) X.A) (hc : X.calm = true) (hN : X.N.Nodup) (TB : TabB X.base X.mg c P) (hcode : X.env.code = .ref c) (hco : scope.isCoroutine = false) (noc : ∀ y ∈ scope.names, y.2 ≠ .cell) (dot : scope.names.lookup (".0" : Str) = some NameKind.local)
    (hi : PI X tg iter wi) (ok : BlkOk X.N X.env.scope scope own)
    (hg : ∀ (s : Shared) (H : Hp) (C : Addr) (cl : List (Str × Addr)) (code : Value) (fp : List Addr) (A' : Around), Room k A' → PG (gxb X s H scope (genEnv scope cl C code builtinsNs X.env) fp A') tg g)
    (he : ∀ (s : Shared) (H : Hp) (C : Addr) (cl : List (Str × Addr)) (code : Value) (fp : List Addr) (A' : Around), Room k A' → PE (gxb X s H scope (genEnv scope cl C code builtinsNs X.env) fp A') elt te)
    (hs : ∀ v, genFold iter X.env v = pure v) (I : Inv X pins σ H s) (h : tAllG P (own.map (·.2)) wi g te σ H Q)
    (hK : ∀ a s5, wpAny (model X.prog X.w) X.A (call (.builtin "all") [.ref a]) (EP X pins σ Q) X.xe s5 → K' (.ref a) s5) :
    wpAny (model X.prog X.w) X.A (eval (.GeneratorExp elt [⟨tg, iter, [], 0⟩] scope gpos) X.env) K' X.xe s := by
  have hfree : ∀ y ∈ scope.names, y.2 = .free → ∃ c, X.env.cells.lookup y.1 = some c := fun y hy e => by
    rcases ok.free y hy e with k | k
    · exact I.ok.has _ (.inl k)
    · exact I.ok.has _ (.inr k)
  refine wpAny_GeneratorExp_make hco (closure_ok hfree) noc dot ok.kind (by have := hr.dp; omega) (thn (hi.run pins s σ H _ I h) fun xv s0 hx => thn hx fun itv s1 h1 => ?_) hs
  obtain ⟨it, fp, tn, J, H1, e, I1, T, st1, f1, ⟨ps, hP, ht⟩, q1⟩ := h1
  subst e
  have hPs : s1.heap.get? P = some { cls := .none, data := .fields ps } := I1.hok P _ hP
  have hPlt : P < s1.heap.objs.size := Heap.lt_size hPs
  have cd : PySem.W.CodeHd s1.heap c P := TB.code.keeps I1.bk
  have cont : ∀ (code : Value) (h3 : Heap) (tk : Nat) (ps' : Array Value), Heap.ExtBut P s1.heap h3 → s1.heap.objs.size ≤ h3.objs.size → h3.get? P = some { cls := .none, data := .fields ps' } → (∃ more, ps' = ps ++ more) → TriplesOk ps'.toList →
      wpAny (model X.prog X.w) X.A (builtinsFor X.env.globals X.env.builtins) (fun bi s₄ => ∀ h', h'.Ns s₄.heap.objs.size (fun y => if y = ".0" then some (.ref it) else none) → Heap.SameBut s₄.heap.objs.size (s₄.heap.push { cls := .type "frame", data := .dict #[] }) h' →
          K' (.ref h'.objs.size) { s₄ with
            gens := s₄.gens.push (.fresh (.compStart (.GeneratorExp elt [⟨tg, iter, [], 0⟩] scope gpos) 0 (.ref it) .none (genEnv scope (cloFrom X.env.cells scope.names []) s₄.heap.objs.size code bi X.env))),
            toks := s₄.toks + 1 + 1 + 1,
            heap := h'.push { cls := .type "generator", data := .fields #[.int s₄.gens.size 0, .str "<genexpr>" (s₄.toks + 1), .str (X.env.qual ++ "<genexpr>") (s₄.toks + 1 + 1)] } }) X.xe { s1 with heap := h3, toks := tk } := by
    intro code h3 tk ps' hx hsz hP3 ⟨more, em⟩ ht3
    obtain ⟨bm, ob, e1, e2, e3, e4, e5, e6, e7, e8⟩ := TB.bm
    have keep3 : ∀ b u, b ≠ P → s1.heap.get? b = some u → h3.get? b = some u := fun b u hb e => hx b u hb e
    refine wpAny_builtinsFor (m := X.mg) (by rw [I1.ok.glob]; exact (I1.mod.glob.keeps I1.bk).extBut hx TB.gP) e1 e2 (keep3 _ _ e4 (I1.bk _ _ e5)) e6 e7 e8 ?_
    intro h' hns hsb
    have I3 : Inv X pins σ (upd H1 P (.tbl ps')) { s1 with heap := h3, toks := tk } := by
      have J := inv_tab (more := more) (h' := h3) (g' := s1.gens) (d' := s1.drawn) (t' := tk) I1 hP (fun b u hb e => keep3 b u hb e) (by rw [← em]; exact hP3) I1.bare
      rw [← em] at J
      exact J
    have hT : Tabbed P H1 (upd H1 P (.tbl ps')) := ⟨⟨ps', upd_same, ht3⟩, fun b hb => upd_ne hb⟩
    obtain ⟨W, ⟨m0, w0⟩, turn⟩ := q1 _ hT
    have nP : ∀ b ∈ fp, b ≠ P := fun b hb z => by
      have := (f1 b hb).1
      rw [z, hP] at this
      cases this
    generalize upd H1 P (.tbl ps') = H3 at I3 hT w0
    have nfp : ∀ b ∈ fp, H3 b = none := fun b hb => by rw [hT.2 b (nP b hb)]; exact (f1 b hb).1
    have st3 : tn 0 h3 := T.keep _ _ _ st1 fun b hb o e => keep3 b o (nP b hb) e
    have lt3 : ∀ b ∈ fp, b < h3.objs.size := fun b hb => by
      obtain ⟨o, e, _⟩ := T.obj _ _ st3 b hb
      exact Heap.lt_size e
    have f3 : ∀ b ∈ fp, FpOk X pins H3 b ∧ b < h3.objs.size := fun b hb => ⟨⟨nfp b hb, (f1 b hb).2⟩, lt3 b hb⟩
    have hsz' : h'.objs.size = h3.objs.size + 1 := by rw [hsb.1, Heap.size_push]
    have kp1 : ∀ b o, h3.get? b = some o → h'.get? b = some o := fun b o e => hsb.extBut b o (Nat.ne_of_lt (Heap.lt_size e)) (Heap.get?_push_of_some _ e)
    refine hK _ _ ?_
    generalize hgo : ({ cls := .type "generator", data := .fields #[.int s1.gens.size 0, .str "<genexpr>" (tk + 1), .str (X.env.qual ++ "<genexpr>") (tk + 1 + 1)] } : Obj) = go
    have gget : (h'.push go).get? h'.objs.size = some go := by
      rw [← hgo]
      exact Heap.get?_push_size _ rfl
    have hgen : ∀ h : Heap, h.get? h'.objs.size = some go → h.IsGen h'.objs.size s1.gens.size := fun h e => ⟨go, _, _, e, by rw [← hgo], by rw [← hgo], by rw [← hgo]⟩
    have kp2 : ∀ b o, h3.get? b = some o → (h'.push go).get? b = some o := fun b o e => Heap.get?_push_of_some _ (kp1 b o e)
    have bare2 : AllBare (s1.gens.push (.fresh (.compStart (.GeneratorExp elt [⟨tg, iter, [], 0⟩] scope gpos) 0 (.ref it) .none (genEnv scope (cloFrom X.env.cells scope.names []) h3.objs.size code builtinsNs X.env)))) := I1.bare.push rfl
    have hroom : Room k ((X.A.in1.in1).over (.compLoop (.GeneratorExp elt [⟨tg, iter, [], 0⟩] scope gpos) 0 (.ref it) .none (genEnv scope (cloFrom X.env.cells scope.names []) h3.objs.size code builtinsNs X.env)) []) := by
      refine ⟨hr.hd, ?_, ?_⟩
      · have := hr.dp
        show X.A.depth + 0 + 1 + 3 * k + 5 < _
        omega
      · have := hr.un
        show X.A.units + 1 + 1 + 0 + 3 + 16 * k + 200 < _
        omega
    refine call_all_gen (g := s1.gens.size) (m := m0 + 1) (Fin := FinG (gxb X { s1 with heap := h3, toks := tk } H3 scope (genEnv scope (cloFrom X.env.cells scope.names []) h3.objs.size code builtinsNs X.env) fp ((X.A.in1.in1).over (.compLoop (.GeneratorExp elt [⟨tg, iter, [], 0⟩] scope gpos) 0 (.ref it) .none (genEnv scope (cloFrom X.env.cells scope.names []) h3.objs.size code builtinsNs X.env)) [])) h'.objs.size go Q)
      hr.hd (by have := hr.dp; omega) (fun b s6 s7 ⟨σ', H', I6, qb⟩ eo eb kk => ?_) (hgen _ gget) ((I3.nolimit).keeps kp2) ⟨_, Array.getElem?_push_size .., rfl, ?_⟩
    · refine ⟨.bl b, H', ?_, rfl, qb⟩
      exact I3.call' (ch := fp) (eo.trans I6.os) (I6.base.trans (Un.kept kk)) (I6.hok.kept kk) eb fun b hb => ⟨(f3 b hb).1.2.2.2.1, (f3 b hb).1.2.1, (f3 b hb).1.2.2.2.2.1, (f3 b hb).1.2.2.2.2.2⟩
    · refine gx_begin (own := own.map (·.2)) (σ := σ) (W := W) (te := te) (g := g) (Q := Q) hc T hco (hg _ _ _ _ _ _ _ hroom) (he _ _ _ _ _ _ _ hroom) hgen (fun z => ?_) turn (Nat.lt_succ_self m0) ?_ ?_ nfp w0
      · have h8 : (h'.objs.size : Nat) < h3.objs.size := lt3 _ z
        have h9 : (h'.objs.size : Nat) = h3.objs.size + 1 := hsz'
        exact absurd h8 (by rw [h9]; exact Nat.not_lt.mpr (Nat.le_succ _))
      · exact gx_start (s := { s1 with heap := h3, toks := tk }) I3 ok noc hN f3 hr.hd (gx_frames I.ok.frames) (Nat.le_refl _) (hns.keeps fun b o e => Heap.get?_push_of_some _ e) kp2 rfl (allBare_setGen (s := { s1 with gens := _ }) bare2 rfl) (by show (h3.objs.size : Nat) ≤ h'.objs.size; rw [show (h'.objs.size : Nat) = h3.objs.size + 1 from hsz']; exact Nat.le_succ _) (by show (h'.objs.size : Nat) ≠ h3.objs.size; rw [show (h'.objs.size : Nat) = h3.objs.size + 1 from hsz']; exact Nat.succ_ne_self _) gget (fun v z => by rw [← hgo] at z; cases z)
      · exact T.keep _ _ _ st3 fun b hb o e => kp2 b o e
  refine ⟨I1.nolimit, ?_⟩
  cases hf : codeAmong gpos ps.toList with
  | none =>
    refine wpAny_genexprCodeX hcode (cd.code hPs ht) (cd.tab hPs) hf fun c' h' tk hx hge hlt hco' _ htab' _ => ?_
    obtain ⟨o1, vs, f1, tf, fl, tg, inF, tx, tt, op, _, _, _, _, _, _, _, _, _, htr, _⟩ := hco'
    exact cont _ h' tk _ hx (Nat.le_trans hge (Nat.le_of_lt hlt)) htab'.2 ⟨_, rfl⟩ htr
  | some cv =>
    refine wpAny_genexprCode_hit hcode (cd.code hPs ht) hf ?_
    exact cont cv s1.heap s1.toks ps (Heap.ExtBut.refl _ _) (Nat.le_refl _) hPs ⟨#[], by simp⟩ ht
theorem pe_allG {c P : Addr} {elt tg iter : Expr} {p pos gpos : Pos} {scope : Scope} {own : List (Str × Nat)} {wi : TI} {g : TG} {te : TE} {k : Nat}
    (hr : Room (k + 1) X.A) (hc : X.calm = true) (hN : X.N.Nodup) (hgl : Gl X "all") (hm : X.mg "all" = none) (hb : bootBuiltins "all" = some (.builtin "all")) (TB : TabB X.base X.mg c P) (hcode : X.env.code = .ref c) (hi : PI X tg iter wi) (ok : BlkOk X.N X.env.scope scope own)
    (hg : ∀ (s : Shared) (H : Hp) (C : Addr) (cl : List (Str × Addr)) (code : Value) (fp : List Addr) (A' : Around), Room k A' → PG (gxb X s H scope (genEnv scope cl C code builtinsNs X.env) fp A') tg g)
    (he : ∀ (s : Shared) (H : Hp) (C : Addr) (cl : List (Str × Addr)) (code : Value) (fp : List Addr) (A' : Around), Room k A' → PE (gxb X s H scope (genEnv scope cl C code builtinsNs X.env) fp A') elt te)
    (hs : ∀ v, genFold iter X.env v = pure v) (hco : scope.isCoroutine = false := by rfl) (noc : ∀ y ∈ scope.names, y.2 ≠ .cell := by decide +kernel) (dot : scope.names.lookup (".0" : Str) = some NameKind.local := by rfl)
    (hst : starEach [.GeneratorExp elt [⟨tg, iter, [], 0⟩] scope gpos] X.env = (false, eval (.GeneratorExp elt [⟨tg, iter, [], 0⟩] scope gpos) X.env) :: starEach [] X.env := by rfl) :
    PE X (.Call (.Name "all" p) [.GeneratorExp elt [⟨tg, iter, [], 0⟩] scope gpos] [] pos) (tAllG P (own.map (·.2)) wi g te) := by
  refine ⟨fun pins s σ H Q I h => ?_⟩
  refine wpAny_Call_Name_kw (ld_blt I hgl hm hb ?_)
  refine PyProof.Rows.callWith_builtin1 ?_ hst (by rfl)
  rw [hst]
  show wpAny _ _ (spliced ((false, eval (.GeneratorExp elt [⟨tg, iter, [], 0⟩] scope gpos) X.env) :: backTo pos (starEach [] X.env))) _ _ s
  refine Calls.spliced_cons (all_gen hr hc hN TB hcode hco noc dot hi ok hg he hs I h fun a s5 hq => ?_)
  exact Calls.spliced_nil hq
end
end GxC
/-! the text's defs, by name (made by gen_kd0.py) -/
namespace Kd
open PySem L2 Lo
def top (i : Nat) : Stmt := PySem.Challenge.pw_loopsheds_k43_refused_nests.main.body.getD i (.Pass ⟨0, 0, 0, 0⟩)
abbrev sWall : Stmt := top 0
abbrev cLoopshedsError : Stmt := top 2
abbrev cBadNest : Stmt := top 4
abbrev cNoNode : Stmt := top 5
abbrev cNoPlace : Stmt := top 6
abbrev sIsWhole : Stmt := top 8
abbrev sIsNestName : Stmt := top 20
abbrev sIsNestNumber : Stmt := top 21
abbrev sIsRow : Stmt := top 22
abbrev sIsAtomOf : Stmt := top 23
abbrev sIsDifferenceOf : Stmt := top 24
abbrev sIsSideOf : Stmt := top 25
abbrev sAreAtoms : Stmt := top 26
abbrev sCheck : Stmt := top 27
abbrev sCheckDifferent : Stmt := top 28
abbrev sCheckHeading : Stmt := top 29
abbrev sNumbersOf : Stmt := top 30
abbrev sCheckBody : Stmt := top 31
abbrev sCheckLoop : Stmt := top 32
abbrev sCheckTest : Stmt := top 33
abbrev sCheckRun : Stmt := top 34
abbrev cNest : Stmt := top 36
abbrev cStatement : Stmt := top 37
abbrev sStatements : Stmt := top 38
abbrev sRunsIn : Stmt := top 39
abbrev sBounds : Stmt := top 40
abbrev sCheckPlace : Stmt := top 41
abbrev sSizesSystem : Stmt := top 42
abbrev sBoundsOf : Stmt := top 43
abbrev sNodeAt : Stmt := top 44
abbrev sLNumber : Stmt := top 46
abbrev sLTake : Stmt := top 47
abbrev sLPick : Stmt := top 48
abbrev sLAtom : Stmt := top 49
abbrev sLAccess : Stmt := top 50
abbrev sLRun : Stmt := top 51
abbrev sLLoop : Stmt := top 52
abbrev sLTest : Stmt := top 53
abbrev sLBody : Stmt := top 54
abbrev sLWorth : Stmt := top 55
abbrev sLCell : Stmt := top 56
abbrev sLHolds : Stmt := top 57
abbrev sLMany : Stmt := top 58
abbrev sLRounds : Stmt := top 59
abbrev sLRuns : Stmt := top 60
abbrev sLRefused : Stmt := top 61
abbrev sLBadAtoms : Stmt := top 62
abbrev sLBadAccesses : Stmt := top 63
abbrev sLBadNodes : Stmt := top 64
abbrev sLDeep : Stmt := top 65
abbrev sLBadHeads : Stmt := top 66
abbrev sLNowhere : Stmt := top 67
abbrev sLaw : Stmt := top 68
end Kd
/-! set(xs) of keys that are tuples, nested: as many entries as there are different keys -/
namespace Sn
open PySem PySem.Spec PyProof.Rows L2
/-- asked quietly, the answer is as R says -/
def Asks (P : Program) (w : World) (m : Sem Bool) (s : Shared) (R : Bool → Prop) : Prop := ∀ (A : Around) (E : Value → Shared → Prop) (Q : Bool → Shared → Prop), (∀ b, R b → Q b s) → wpAny (model P w) A m Q E s
section
variable {P : Program} {w : World}
/-! ### hash by value, statements of classes: asked of keys -/
mutual
theorem ask_class : ∀ (k : NestedKey) (n : Nat) (v : Value) (s : Shared), NestedIs s.heap k v → k.depth ≤ n → Asks P w (ofAClassStatement n v) s (fun b => b = false)
  | .none, n, v, s, x, _ => fun A E Q q => by
    cases x
    cases n <;> exact wpAny_pure (q _ rfl)
  | .num i, n, v, s, x, _ => fun A E Q q => by
    cases x <;> cases n <;> exact wpAny_pure (q _ rfl)
  | .text t, n, v, s, x, _ => fun A E Q q => by
    cases x
    cases n <;> exact wpAny_pure (q _ rfl)
  | .tup ks, 0, v, s, x, d => absurd d (Nat.not_succ_le_zero _)
  | .tup ks, n + 1, v, s, x, d => fun A E Q q => by
    cases x with
    | @tup b o vs m _ ho hc hd hall =>
      have tyv : s.TypeIs (.ref b) "tuple" := ⟨o, ho, hc⟩
      have items := ask_classes ks n vs.toList s hall (Nat.le_of_succ_le_succ d)
      unfold ofAClassStatement
      refine wpAny_bind (wpAny_typeOf tyv ?_)
      dsimp only
      simp only [show (("tuple" : String) == "tuple") = true by decide, if_true, Bool.not_true, Bool.false_eq_true, if_false]
      try refine wpAny_bind (wpAny_pure ?_)
      try simp only [Bool.not_true, Bool.false_eq_true, if_false]
      show wpAny _ _ (seqItems? (.ref b) >>= _) _ _ _
      refine wpAny_bind (wpAny_seqItems ho hd ?_)
      dsimp only
      refine wpAny_bind ?_
      rw [← Array.forIn_toList]
      refine wpAny_forIn_list _ (fun rest r s' => s' = s ∧ (r = (none, ()) ∧ ∀ v ∈ rest, v ∈ vs.toList)) _ ?_ ?_ _ _ ⟨rfl, rfl, fun v hv => hv⟩
      · rintro v rest r s' ⟨rfl, rfl, mem⟩
        refine wpAny_bind (items v (mem v List.mem_cons_self) _ _ _ fun c hc => ?_)
        subst hc
        simp only [Bool.false_eq_true, if_false]
        exact wpAny_pure ⟨rfl, rfl, fun u hu => mem u (List.mem_cons_of_mem _ hu)⟩
      · rintro r s' ⟨rfl, rfl, _⟩
        exact wpAny_pure (q _ rfl)
theorem ask_classes : ∀ (ks : List NestedKey) (n : Nat) (vs : List Value) (s : Shared), NestedAll s.heap ks vs → NestedKey.depthAll ks ≤ n → ∀ v ∈ vs, Asks P w (ofAClassStatement n v) s (fun b => b = false)
  | [], n, vs, s, x, d => fun v hv => by
    cases x
    cases hv
  | k :: ks, n, vs, s, x, d => fun v hv => by
    cases x with
    | cons h1 h2 =>
      rcases List.mem_cons.mp hv with rfl | z
      · exact ask_class k n _ s h1 (Nat.le_trans (Nat.le_max_left _ _) d)
      · exact ask_classes ks n _ s h2 (Nat.le_trans (Nat.le_max_right _ _) d) v z
end
mutual
theorem ask_byval : ∀ (k : NestedKey) (n : Nat) (v : Value) (s : Shared), NestedIs s.heap k v → k.depth ≤ n → Asks P w (hashByValue n v) s (fun _ => True)
  | .none, n, v, s, x, _ => fun A E Q q => by
    cases x
    cases n <;> exact wpAny_pure (q _ trivial)
  | .num i, n, v, s, x, _ => fun A E Q q => by
    cases x <;> cases n <;> exact wpAny_pure (q _ trivial)
  | .text t, n, v, s, x, _ => fun A E Q q => by
    cases x
    cases n <;> exact wpAny_pure (q _ trivial)
  | .tup ks, 0, v, s, x, d => absurd d (Nat.not_succ_le_zero _)
  | .tup ks, n + 1, v, s, x, d => fun A E Q q => by
    cases x with
    | @tup b o vs m _ ho hc hd hall =>
      have tyv : s.TypeIs (.ref b) "tuple" := ⟨o, ho, hc⟩
      have items := ask_byvals ks n vs.toList s hall (Nat.le_of_succ_le_succ d)
      unfold hashByValue
      refine wpAny_bind (wpAny_specialOf tyv F.slot_tuple_hash.lookup ?_)
      show wpAny _ _ (seqItems? (.ref b) >>= _) _ _ _
      refine wpAny_bind (wpAny_seqItems ho hd ?_)
      refine wpAny_bind ?_
      show wpAny _ _ (forIn vs _ _) _ _ _
      rw [← Array.forIn_toList]
      refine wpAny_forIn_list _ (fun rest r s' => s' = s ∧ (r = (none, ()) ∧ ∀ v ∈ rest, v ∈ vs.toList)) _ ?_ ?_ _ _ ⟨rfl, rfl, fun v hv => hv⟩
      · rintro v rest r s' ⟨rfl, rfl, mem⟩
        refine wpAny_bind (items v (mem v List.mem_cons_self) _ _ _ fun b _ => ?_)
        cases b with
        | true =>
          simp only [Bool.not_true, Bool.false_eq_true, if_false]
          exact wpAny_pure ⟨rfl, rfl, fun u hu => mem u (List.mem_cons_of_mem _ hu)⟩
        | false =>
          simp only [Bool.not_false, if_true]
          refine wpAny_pure ?_
          exact wpAny_pure (q _ trivial)
      · rintro r s' ⟨rfl, rfl, _⟩
        exact wpAny_pure (q _ trivial)
theorem ask_byvals : ∀ (ks : List NestedKey) (n : Nat) (vs : List Value) (s : Shared), NestedAll s.heap ks vs → NestedKey.depthAll ks ≤ n → ∀ v ∈ vs, Asks P w (hashByValue n v) s (fun _ => True)
  | [], n, vs, s, x, d => fun v hv => by
    cases x
    cases hv
  | k :: ks, n, vs, s, x, d => fun v hv => by
    cases x with
    | cons h1 h2 =>
      rcases List.mem_cons.mp hv with rfl | z
      · exact ask_byval k n _ s h1 (Nat.le_trans (Nat.le_max_left _ _) d)
      · exact ask_byvals ks n _ s h2 (Nat.le_trans (Nat.le_max_right _ _) d) v z
end
variable {A : Around} {E : Value → Shared → Prop} {s : Shared}
/-- a search among keys shows nothing -/
theorem unseen {k : NestedKey} {b : Addr} {Q : Bool → Shared → Prop} (hk : (nestedKind P w).is s.heap k b) {ys : List Value} (hy : ∀ y ∈ ys, ∃ k' c, y = Value.ref c ∧ (nestedKind P w).is s.heap k' c) (q : Q false s) :
    wpAny (model P w) A (searchCouldBeSeen (.ref b) ys) Q E s := by
  unfold searchCouldBeSeen
  refine wpAny_bind ?_
  refine wpAny_forIn_list _ (fun rest r s' => r.1 = none ∧ s' = s ∧ ∀ y ∈ rest, y ∈ ys) _ ?_ ?_ _ _ ⟨rfl, rfl, fun y h => h⟩
  · rintro v rest r s' ⟨hr, rfl, mem⟩
    obtain ⟨k', c, rfl, hc⟩ := hy v (mem v List.mem_cons_self)
    have more : ∀ y ∈ rest, y ∈ ys := fun u hu => mem u (List.mem_cons_of_mem _ hu)
    dsimp only
    by_cases hv : (b == c || (carriedByValue (.ref b) && carriedByValue (.ref c))) = true
    · exact wp_if_pos hv (wpAny_pure ⟨rfl, rfl, more⟩)
    · refine wp_if_neg hv (wpAny_bind ((nestedKind P w).quiet hk ?_))
      simp only [Bool.not_true, Bool.false_eq_true, if_false]
      refine wpAny_bind ((nestedKind P w).quiet hc ?_)
      simp only [Bool.not_true, Bool.false_eq_true, if_false]
      refine wpAny_bind (ask_class k 8 _ _ hk.1 hk.2 _ _ _ ?_)
      rintro _ rfl
      simp only [Bool.false_eq_true, if_false]
      refine wpAny_bind (ask_class k' 8 _ _ hc.1 hc.2 _ _ _ ?_)
      rintro _ rfl
      simp only [Bool.false_eq_true, if_false]
      exact wpAny_pure ⟨rfl, rfl, more⟩
  · rintro ⟨r1, r2⟩ s' ⟨hr, rfl, _⟩
    simp only at hr
    subst hr
    exact wpAny_pure q
end
end Sn
/-! the table of a set of nested keys: the search in it -/
namespace Sn
open PySem PySem.Spec PyProof.Rows L2
/-- the probe's place after c steps -/
def pr (t : SetTable) (h : Int) (c : Nat) : SetTable.Probe := nth t.mask (runAt t.mask (SetTable.bits h % (t.mask + 1)) (SetTable.bits h)) c
theorem pr_way (t : SetTable) (h : Int) (c : Nat) : (pr t h c).j = way t.mask h c := rfl
theorem pr_zero (t : SetTable) (h : Int) : t.probeStart h = pr t h 0 := rfl
theorem pr_more (t : SetTable) (h : Int) (c q : Nat) : nth t.mask (pr t h c) q = pr t h (c + q) := (nth_add t.mask c _ q).symm
theorem adv_clean {m : Nat} {p : SetTable.Probe} (h : p.dummy = none) : (adv m p).dummy = none := by
  unfold adv
  split <;> exact h
theorem nth_clean (m : Nat) : ∀ (c : Nat) (p : SetTable.Probe), p.dummy = none → (nth m p c).dummy = none
  | 0, _, h => h
  | c + 1, p, h => nth_clean m c (adv m p) (adv_clean h)
theorem pr_clean (t : SetTable) (h : Int) (c : Nat) : (pr t h c).dummy = none := nth_clean _ c _ rfl
abbrev KA := NestedKey × Addr
def lines (w : World) (L : List KA) : List (Int × Value) := L.map fun p => (p.1.hash w, Value.ref p.2)
abbrev hashesOf (w : World) (L : List KA) : List Int := L.map fun p => p.1.hash w
structure SetK (P : Program) (w : World) (h : Heap) (a : Addr) (L : List KA) (es : Array (Int × Value)) (ep : Nat) (t : SetTable) : Prop where
  here : ∃ o, h.get? a = some o ∧ o.ExactSet ∧ o.data = .set es ep t
  rows : es.toList = lines w L
  tab : TabOk t (hashesOf w L)
  diff : (L.map Prod.fst).Nodup
  keys : ∀ p ∈ L, (nestedKind P w).is h p.1 p.2
  led : w.params.followText "set-order" = true ∨ t.led = true
  space : L.length * 5 < t.mask * 3
  few : L.length < 64
section
variable {P : Program} {w : World} {A : Around} {E : Value → Shared → Prop} {s : Shared} {a : Addr} {L : List KA} {es : Array (Int × Value)} {ep : Nat} {t : SetTable}
theorem lines_size {es : Array (Int × Value)} {L : List KA} (h : es.toList = lines w L) : es.size = L.length := by
  have e := congrArg List.length h
  rw [Array.length_toList, lines, List.length_map] at e
  exact e
theorem lines_at {es : Array (Int × Value)} {L : List KA} (h : es.toList = lines w L) {i : Nat} {p : KA} (hp : L[i]? = some p) : es[i]? = some (p.1.hash w, Value.ref p.2) := by
  have e : es.toList[i]? = some (p.1.hash w, Value.ref p.2) := by
    rw [h, lines, List.getElem?_map, hp]
    rfl
  rw [Array.getElem?_toList] at e
  exact e
theorem tab_fits {t : SetTable} {n : Nat} (hd : t.dummies = #[]) (hs : t.place.size = n) (hm : n ≤ t.mask) : t.fits n = true := by
  unfold SetTable.fits SetTable.fill
  rw [hd]
  simp [hs, hm]
theorem SetK.place (R : SetK P w s.heap a L es ep t) : t.place.size = L.length := by
  rw [R.tab.sz, List.length_map]
theorem SetK.fits (R : SetK P w s.heap a L es ep t) : t.fits es.size = true := by
  rw [lines_size R.rows]
  have := R.space
  exact tab_fits R.tab.dm R.place (by omega)
theorem SetK.whole (R : SetK P w s.heap a L es ep t) : ¬ t.gaveWay = true := by
  unfold SetTable.gaveWay
  rw [mask_odd R.tab.mok]
  decide
theorem still_there (t : SetTable) : t.sameMemory t.moves t.mask = some true := by
  simp [SetTable.sameMemory]
/-- the candidate's test, and what follows -/
theorem at_candidate (R : SetK P w s.heap a L es ep t) {x : Addr} {k : NestedKey} (hx : (nestedKind P w).is s.heap k x) (hu : A.units + 8 < cLine) {i j f : Nat} {nx : SetTable.Probe} {p : KA} (hp : L[i]? = some p) (hi : t.place.toList[i]? = some j)
    {Q : SetFound → Shared → Prop} (hin : p.1 = k → Q (.there none) s) (hon : p.1 ≠ k → wpAny (model P w) A (setSearchFrom a (.ref x) (k.hash w) true f (some nx)) Q E s) :
    wpAny (model P w) A (searchRest a (.ref x) (k.hash w) true f es t j i nx) Q E s := by
  obtain ⟨o, hob, hex, hdt⟩ := R.here
  have hpk := R.keys p (List.mem_of_getElem? hp)
  unfold searchRest
  rw [lines_at R.rows hp]
  dsimp only
  refine wpAny_bind (wpAny_holding ((nestedKind P w).eqBool (show A.units + 8 < cLine from hu) hpk hx ?_))
  refine wpAny_bind (wpAny_setState_of hob hdt R.fits ?_)
  dsimp only
  by_cases e : p.1 = k
  · rw [decide_eq_true e]
    exact wp_if_pos rfl (wpAny_pure (hin e))
  · rw [decide_eq_false e]
    refine wp_if_neg (by decide) ?_
    try refine wpAny_bind (wpAny_pure ?_)
    rw [still_there]
    dsimp only
    simp only [if_true, slot_live R.tab.ris hi, lines_at R.rows hp]
    refine wpAny_bind (wpAny_isSame_ref_self (wpAny_bind (wpAny_pure ?_)))
    simp only [if_true]
    exact wp_if_neg (by decide) (hon e)
/-- from the c-th step on -/
theorem seek (R : SetK P w s.heap a L es ep t) {x : Addr} {k : NestedKey} (hx : (nestedKind P w).is s.heap k x) (hu : A.units + 8 < cLine) {K : Nat} (hlim : K < 10 * SetTable.turns t.mask)
    (hfree : way t.mask (k.hash w) K ∉ t.place.toList) (hfull : ∀ c, c < K → way t.mask (k.hash w) c ∈ t.place.toList) {Q : SetFound → Shared → Prop}
    (hin : k ∈ L.map Prod.fst → Q (.there none) s) (hout : k ∉ L.map Prod.fst → Q (.free (way t.mask (k.hash w) K) false) s) :
    ∀ (f c : Nat) (stand : Option SetTable.Probe), stand.getD (t.probeStart (k.hash w)) = pr t (k.hash w) c → c ≤ K → K - c < f →
      (∀ (i : Nat) p, L[i]? = some p → p.1 = k → ∃ c', c ≤ c' ∧ c' < K ∧ t.place.toList[i]? = some (way t.mask (k.hash w) c')) →
      wpAny (model P w) A (setSearchFrom a (.ref x) (k.hash w) true f stand) Q E s := by
  intro f
  induction f with
  | zero =>
    intro c stand _ _ lt
    exact absurd lt (Nat.not_lt_zero _)
  | succ f ih =>
    intro c stand est hc lt ahead
    obtain ⟨o, hob, hex, hdt⟩ := R.here
    rw [setSearchFrom_succ]
    refine wpAny_bind (wpAny_setState_of hob hdt R.fits ?_)
    dsimp only
    refine wp_if_neg R.whole ?_
    try refine wpAny_bind (wpAny_pure ?_)
    rw [est]
    have hashAt : ∀ (i : Nat) p, L[i]? = some p → (fun i => (es[i]?.map (·.1)).getD 0) i = p.1.hash w := fun i p hp => by
      show (es[i]?.map (·.1)).getD 0 = _
      rw [lines_at R.rows hp]
      rfl
    have go := go_spec t R.tab.ris R.tab.dm (fun i => (es[i]?.map (·.1)).getD 0) (k.hash w) (10 * SetTable.turns t.mask) (K - c) _ (pr_clean t (k.hash w) c) (by omega)
      (fun q hq => by rw [pr_more]; exact hfull (c + q) (by omega)) (by rw [pr_more, show c + (K - c) = K by omega]; exact hfree)
    rcases go with ⟨q, i, hq, hi, hh, hno, hgo⟩ | ⟨hno, hgo⟩
    · rw [pr_more] at hi hgo
      rw [pr_more] at hgo
      have hgo' : t.probe (fun i => (es[i]?.map (·.1)).getD 0) (k.hash w) (pr t (k.hash w) c) = some (.candidate (way t.mask (k.hash w) (c + q)) i (pr t (k.hash w) (c + (q + 1)))) := hgo
      rw [hgo']
      dsimp only
      have hil : i < L.length := by
        have h1 := (List.getElem?_eq_some_iff.mp hi).1
        rw [Array.length_toList, R.place] at h1
        exact h1
      obtain ⟨p, hp⟩ : ∃ p, L[i]? = some p := ⟨_, List.getElem?_eq_getElem hil⟩
      have next : wpAny (model P w) A (searchRest a (.ref x) (k.hash w) true f es t (way t.mask (k.hash w) (c + q)) i (pr t (k.hash w) (c + (q + 1)))) Q E s := by
        refine at_candidate R hx hu hp hi (fun e => hin (List.mem_map.mpr ⟨p, List.mem_of_getElem? hp, e⟩)) fun ne => ?_
        refine ih (c + (q + 1)) _ rfl (by omega) (by omega) fun i0 p0 h0 e0 => ?_
        obtain ⟨c', b1, b2, b3⟩ := ahead i0 p0 h0 e0
        refine ⟨c', ?_, b2, b3⟩
        rcases Nat.lt_trichotomy c' (c + q) with z | z | z
        · refine absurd ((hashAt i0 p0 h0).trans (congrArg (NestedKey.hash w) e0)) (hno (c' - c) i0 (by omega) ?_)
          rw [pr_more, show c + (c' - c) = c' by omega]
          exact b3
        · subst z
          have l1 := slot_live R.tab.ris b3
          rw [slot_live R.tab.ris (show t.place.toList[i]? = some (way t.mask (k.hash w) (c + q)) from hi)] at l1
          injection l1 with l1
          subst l1
          rw [hp] at h0
          exact absurd ((congrArg Prod.fst (Option.some.inj h0)).trans e0) ne
        · omega
      by_cases hl : t.led = true
      · refine wp_if_neg (by simp [hl]) ?_
        try refine wpAny_bind (wpAny_pure ?_)
        exact next
      · refine wp_if_pos (by simp [hl]) ?_
        refine wpAny_bind (unseen hx (fun y hy => ?_) ?_)
        · obtain ⟨e, he, rfl⟩ := List.mem_map.mp hy
          have he2 : e ∈ es.toList := by
            have := (show e ∈ es ∧ e.1 = k.hash w by simpa using he).1
            simpa using this
          rw [R.rows] at he2
          obtain ⟨p2, hp2, rfl⟩ := List.mem_map.mp he2
          exact ⟨p2.1, p2.2, rfl, R.keys p2 hp2⟩
        · refine wp_if_neg (by decide) ?_
          try refine wpAny_bind (wpAny_pure ?_)
          exact next
    · have hgo' : t.probe (fun i => (es[i]?.map (·.1)).getD 0) (k.hash w) (pr t (k.hash w) c) = some (.empty (way t.mask (k.hash w) K) none) := by
        rw [pr_more, show c + (K - c) = K by omega] at hgo
        exact hgo
      rw [hgo']
      dsimp only
      refine wpAny_pure (hout fun hm => ?_)
      obtain ⟨p0, h0, e0⟩ := List.mem_map.mp hm
      obtain ⟨i0, hi0, rfl⟩ := List.getElem_of_mem h0
      have h00 := List.getElem?_eq_getElem hi0
      obtain ⟨c', b1, b2, b3⟩ := ahead i0 _ h00 e0
      refine absurd ((hashAt i0 _ h00).trans (congrArg (NestedKey.hash w) e0)) (hno (c' - c) i0 (by omega) ?_)
      rw [pr_more, show c + (c' - c) = c' by omega]
      exact b3
/-- the search as adding asks it -/
theorem seek_all (R : SetK P w s.heap a L es ep t) {x : Addr} {k : NestedKey} (hx : (nestedKind P w).is s.heap k x) (hu : A.units + 8 < cLine) {Q : SetFound → Shared → Prop} (hin : k ∈ L.map Prod.fst → Q (.there none) s)
    (hout : ∀ K, k ∉ L.map Prod.fst → way t.mask (k.hash w) K ∉ t.place.toList → (∀ c, c < K → way t.mask (k.hash w) c ∈ t.place.toList) → Q (.free (way t.mask (k.hash w) K) false) s) :
    wpAny (model P w) A (setSearch a (.ref x) (k.hash w) true) Q E s := by
  have room := R.space
  obtain ⟨K, hlim, hfree, hfull⟩ := R.tab.first (by rw [List.length_map]; omega) (k.hash w)
  have big : K < 100000 := by
    have : 10 * SetTable.turns t.mask ≤ 1420 := by
      unfold SetTable.turns
      rcases R.tab.mok with e | e | e <;> rw [e] <;> decide
    omega
  unfold setSearch
  refine seek R hx hu hlim hfree hfull hin (fun n => hout K n hfree hfull) 100000 0 none rfl (Nat.zero_le _) (by omega) fun i p hp e => ?_
  have hj : i < t.place.toList.length := by
    rw [Array.length_toList, R.place]
    exact (List.getElem?_eq_some_iff.mp hp).1
  obtain ⟨c, hc, ec⟩ := R.tab.before (h := k.hash w) (i := i) hfree (by rw [List.getElem?_map, hp, ← e]; rfl) (List.getElem?_eq_getElem hj)
  exact ⟨c, Nat.zero_le _, hc, by rw [ec]; exact List.getElem?_eq_getElem hj⟩
end
end Sn
/-! one key more in a set of nested keys -/
namespace Sn
open PySem PySem.Spec PyProof.Rows L2
theorem insert_perm {α : Type} (l : List α) (p : Nat) (x : α) : (l.take p ++ x :: l.drop p).Perm (x :: l) := by
  have e := List.perm_middle (a := x) (l₁ := l.take p) (l₂ := l.drop p)
  rwa [List.take_append_drop] at e
/-- taking things by an order of their places -/
theorem ordered {α β : Type} (f : α → β) (L : List α) (es : List β) (he : es = L.map f) : ∀ o : List Nat, (∀ i ∈ o, i < L.length) → o.filterMap (fun i => es[i]?) = (o.filterMap fun i => L[i]?).map f
  | [], _ => rfl
  | i :: o, h => by
    have hi := h i List.mem_cons_self
    have e1 := List.getElem?_eq_getElem hi
    have e2 : es[i]? = some (f L[i]) := by rw [he, List.getElem?_map, e1]; rfl
    rw [List.filterMap_cons_some e2, List.filterMap_cons_some e1, List.map_cons, ordered f L es he o fun j hj => h j (List.mem_cons_of_mem _ hj)]
theorem ordered_nth {α : Type} {γ : Type} (g : α → γ) (d : γ) (L : List α) (hs : Array γ) (hh : hs.toList = L.map g) : ∀ o : List Nat, (∀ i ∈ o, i < L.length) → (o.filterMap fun i => L[i]?).map g = o.map fun i => hs.getD i d
  | [], _ => rfl
  | i :: o, h => by
    have hi := h i List.mem_cons_self
    have e1 := List.getElem?_eq_getElem hi
    have e2 : hs[i]? = some (g L[i]) := by
      rw [← Array.getElem?_toList, hh, List.getElem?_map, e1]
      rfl
    rw [List.filterMap_cons_some e1, List.map_cons, List.map_cons, ordered_nth g d L hs hh o fun j hj => h j (List.mem_cons_of_mem _ hj)]
    simp [Array.getD_eq_getD_getElem?, e2]
theorem all_places {α : Type} : ∀ (L : List α), (List.range L.length).filterMap (fun i => L[i]?) = L := by
  intro L
  have step : ∀ n, n ≤ L.length → (List.range n).filterMap (fun i => L[i]?) = L.take n := by
    intro n
    induction n with
    | zero => exact fun _ => rfl
    | succ n ih =>
      intro le
      rw [List.range_succ, List.filterMap_append, ih (Nat.le_of_succ_le le), List.filterMap_cons_some (List.getElem?_eq_getElem le), List.take_add_one, List.getElem?_eq_getElem le]
      rfl
  rw [step _ (Nat.le_refl _), List.take_length]
section
variable {P : Program} {w : World} {A : Around} {E : Value → Shared → Prop} {s : Shared} {a : Addr} {L : List KA} {es : Array (Int × Value)} {ep : Nat} {t : SetTable}
theorem key_apart {h h' : Heap} {k : NestedKey} {b : Addr} {o : Obj} (hk : (nestedKind P w).is h k b) (hob : h.get? a = some o) (hdt : o.data = .set es ep t) (same : Heap.SameBut a h h') : (nestedKind P w).is h' k b :=
  ⟨NestedIs.at (fun c oc vs n e1 e2 => (same.2 c fun z => by
    rw [z, hob] at e1
    rw [← Option.some.inj e1, hdt] at e2
    exact nomatch e2).trans e1) k _ hk.1, hk.2⟩
/-- the larger table -/
theorem relaid_all {o : Obj} (hob : s.heap.get? a = some o) (hex : o.ExactSet) (hdt : o.data = .set es ep t) (rows : es.toList = lines w L) (hpl : t.place.size = L.length) (hdm : t.dummies = #[]) (hfl : L.length ≤ t.mask)
    (diff : (L.map Prod.fst).Nodup) (keys : ∀ p ∈ L, (nestedKind P w).is s.heap p.1 p.2) (led : w.params.followText "set-order" = true ∨ t.led = true) (few : L.length < 64) {wanted M : Nat}
    (hw : SetTable.sizeAbove wanted - 1 = M) (hM : MaskOk M) (hlow : SetTable.sizeAbove wanted ≤ 128) (hroom : L.length * 5 < M * 3) {Q : Unit → Shared → Prop}
    (q : ∀ h' L' es' ep' t', Heap.SameBut a s.heap h' → SetK P w h' a L' es' ep' t' → L'.Perm L → Q () { s with heap := h' }) : wpAny (model P w) A (setRelay a wanted) Q E s := by
  have hn := lines_size rows
  have hfit : t.fits es.size = true := by
    rw [hn]
    exact tab_fits hdm hpl hfl
  obtain ⟨t2, ord, e, per, T, em, el, _, _⟩ := relaid_ok t (hs := es.map (·.1)) (wanted := wanted) hw hM (by rw [Array.size_map, hn]; omega)
  rw [Array.size_map, hn] at per
  have inL : ∀ i ∈ ord.toList, i < L.length := fun i hi => List.mem_range.mp (per.mem_iff.mp hi)
  have r1 : (ord.filterMap (es[·]?)).toList = lines w (ord.toList.filterMap fun i => L[i]?) := by
    rw [Array.toList_filterMap]
    have := ordered (fun p : KA => (p.1.hash w, Value.ref p.2)) L es.toList rows ord.toList inL
    rw [lines, ← this]
    simp only [Array.getElem?_toList]
  have r2 : (ord.toList.filterMap fun i => L[i]?).Perm L := by
    have := per.filterMap fun i => L[i]?
    rwa [all_places] at this
  have r3 : hashesOf w (ord.toList.filterMap fun i => L[i]?) = ord.toList.map fun i => (es.map (·.1)).getD i 0 := ordered_nth (fun p : KA => p.1.hash w) 0 L (es.map (·.1)) (by
    rw [Array.toList_map, rows, lines, List.map_map]
    rfl) _ inL
  generalize (ord.toList.filterMap fun i => L[i]?) = L2 at r1 r2 r3
  rw [← r3] at T
  have hs2 : (ord.filterMap (es[·]?)).size = es.size := by rw [lines_size r1, hn, r2.length_eq]
  rw [setRelay_eq]
  refine wpAny_bind (wpAny_setState_of hob hdt hfit ?_)
  dsimp only
  refine wp_if_neg (by rw [sizeLine_eq]; omega) ?_
  try refine wpAny_bind (wpAny_pure ?_)
  rw [e]
  dsimp only
  refine wpAny_bind (wp_if_neg (by rw [hs2]; simp) ?_)
  try refine wpAny_bind (wpAny_pure ?_)
  refine wpAny_pure ?_
  dsimp only
  have same : Heap.SameBut a s.heap (s.heap.update a (Obj.putSet (ord.filterMap (es[·]?)) t2)) := Heap.SameBut.update ..
  refine wpAny_storeSet_of hob hdt (q _ L2 (ord.filterMap (es[·]?)) (ep + 1) t2 same ?_ r2) (by rw [hs2, hn, sizeLine_eq]; omega)
  exact ⟨⟨_, store_at hob hdt, ⟨hex.1, hex.2.1, hex.2.2⟩, rfl⟩, r1, T, (r2.map Prod.fst).nodup_iff.mpr diff, fun p hp => key_apart (keys p (r2.mem_iff.mp hp)) hob hdt same, by rw [el]; exact led, by rw [r2.length_eq, em]; exact hroom, by rw [r2.length_eq]; exact few⟩
/-- what adding leaves -/
def AddQ (P : Program) (w : World) (s : Shared) (a : Addr) (L : List KA) (k : NestedKey) (x : Addr) (Q : Bool → Shared → Prop) : Prop :=
  ∀ b h' L' es' ep' t', Heap.SameBut a s.heap h' → SetK P w h' a L' es' ep' t' → (k ∈ L.map Prod.fst ∧ L' = L ∨ k ∉ L.map Prod.fst ∧ L'.Perm ((k, x) :: L)) → Q b { s with heap := h' }
/-- behind the store: the table is laid anew where it is too full -/
theorem add_end {o : Obj} (hob : s.heap.get? a = some o) (hex : o.ExactSet) (hdt : o.data = .set es ep t) (rows : es.toList = lines w L) (T : TabOk t (hashesOf w L)) (diff : (L.map Prod.fst).Nodup) (keys : ∀ p ∈ L, (nestedKind P w).is s.heap p.1 p.2)
    (led : w.params.followText "set-order" = true ∨ t.led = true) (few : L.length < 64) {n : Nat} (hn : L.length = n + 1) (hbefore : n * 5 < t.mask * 3) (hfill : t.fill = n + 1) {Q : Bool → Shared → Prop}
    (q : ∀ h' L' es' ep' t', Heap.SameBut a s.heap h' → SetK P w h' a L' es' ep' t' → L'.Perm L → Q true { s with heap := h' }) :
    wpAny (model P w) A (do
      if (!false && t.tooFull) = true then setRelay a (SetTable.grown (n + 1))
      return true) Q E s := by
  have hpl : t.place.size = L.length := by rw [T.sz, List.length_map]
  by_cases full : t.tooFull = true
  · have hge : (n + 1) * 5 ≥ t.mask * 3 := by
      have z := full
      unfold SetTable.tooFull at z
      rw [decide_eq_true_eq, hfill] at z
      exact z
    have two : t.mask = 7 ∧ n = 4 ∨ t.mask = 31 ∧ n = 18 := by
      rcases T.mok with e | e | e <;> rw [e] at hge hbefore
      · exact .inl ⟨e, by omega⟩
      · exact .inr ⟨e, by omega⟩
      · omega
    have anew : ∀ M, SetTable.sizeAbove (SetTable.grown (n + 1)) - 1 = M → MaskOk M → SetTable.sizeAbove (SetTable.grown (n + 1)) ≤ 128 → (n + 1) * 5 < M * 3 →
        wpAny (model P w) A (setRelay a (SetTable.grown (n + 1))) (fun _ s' => wpAny (model P w) A (pure true) Q E s') E s := fun M a1 a2 a3 a4 =>
      relaid_all hob hex hdt rows hpl T.dm (by rcases two with ⟨e, e2⟩ | ⟨e, e2⟩ <;> rw [e, hn, e2] <;> decide) diff keys led few a1 a2 a3 (by rw [hn]; exact a4) fun h' L' es' ep' t' b1 b2 b3 => wpAny_pure (q h' L' es' ep' t' b1 b2 b3)
    refine wp_if_pos (by rw [full]; rfl) (wpAny_bind ?_)
    rcases two with ⟨_, rfl⟩ | ⟨_, rfl⟩
    · exact anew 31 (by rw [size_20]) (.inr (.inl rfl)) (by rw [size_20]; decide) (by decide)
    · exact anew 127 (by rw [size_76]) (.inr (.inr rfl)) (by rw [size_76]; decide) (by decide)
  · refine wp_if_neg (by simp [full]) ?_
    refine wpAny_pure (q s.heap L es ep t (Heap.SameBut.refl a s.heap) ⟨⟨o, hob, hex, hdt⟩, rows, T, diff, keys, led, ?_, few⟩ (List.Perm.refl _))
    have z := full
    unfold SetTable.tooFull at z
    rw [decide_eq_true_eq, hfill] at z
    rw [hn]
    omega
theorem add_key (R : SetK P w s.heap a L es ep t) {x : Addr} {k : NestedKey} (hx : (nestedKind P w).is s.heap k x) (hu : A.units + 8 < cLine) (few : L.length + 1 < 64) {Q : Bool → Shared → Prop} (q : AddQ P w s a L k x Q) :
    wpAny (model P w) A (setAddHashed a (.ref x) (k.hash w)) Q E s := by
  obtain ⟨o, hob, hex, hdt⟩ := R.here
  have hn := lines_size R.rows
  unfold setAddHashed
  refine wpAny_holding ?_
  rw [show (100000 : Nat) = 99999 + 1 from rfl, setAddHashedIn_succ]
  refine wpAny_bind (wpAny_setState_of hob hdt R.fits ?_)
  dsimp only
  refine wp_if_neg (by simp [byScan, Value.scannable]) ?_
  try refine wpAny_bind (wpAny_pure ?_)
  refine wpAny_bind (seek_all R hx hu (fun hm => ?_) fun K hm hfree hfull => ?_)
  · dsimp only
    exact wpAny_pure (q false s.heap L es ep t (Heap.SameBut.refl a s.heap) R (.inl ⟨hm, rfl⟩))
  dsimp only
  refine wpAny_bind (wpAny_setState_of hob hdt R.fits ?_)
  dsimp only
  obtain ⟨z1, z2, z3, z4, z5, z6, z7, z8, z9⟩ := R.tab.put hfree hfull
  generalize hpt : t.put (way t.mask (k.hash w) K) = out at z1 z3 z4 z5 z6 z7 z8 z9 ⊢
  obtain ⟨t1, p⟩ := out
  dsimp only at z1 z3 z4 z5 z6 z7 z8 z9 ⊢
  subst z1
  generalize hpp : SetTable.below t.place (way t.mask (k.hash w) K) = p at z2 z3 ⊢
  have rows1 : (SetTable.insertAt es p (k.hash w, Value.ref x)).toList = lines w (L.take p ++ (k, x) :: L.drop p) := by
    rw [SetTable.toList_insertAt, R.rows]
    simp only [lines, List.map_append, List.map_cons, List.map_take, List.map_drop]
  have per := insert_perm L p (k, x)
  have T1 : TabOk t1 (hashesOf w (L.take p ++ (k, x) :: L.drop p)) := by
    have e : hashesOf w (L.take p ++ (k, x) :: L.drop p) = (hashesOf w L).take p ++ k.hash w :: (hashesOf w L).drop p := by
      simp only [hashesOf, List.map_append, List.map_cons, List.map_take, List.map_drop]
    rw [e]
    exact z3
  generalize SetTable.insertAt es p (k.hash w, Value.ref x) = es1 at rows1 ⊢
  generalize L.take p ++ (k, x) :: L.drop p = L1 at per T1 rows1
  have hn1 : L1.length = L.length + 1 := per.length_eq
  have fill1 : t1.fill = L.length + 1 := by rw [z9, List.length_map]
  have room := R.space
  have led1 : w.params.followText "set-order" = true ∨ t1.led = true := by rw [z5]; exact R.led
  have diff1 : (L1.map Prod.fst).Nodup := (per.map Prod.fst).nodup_iff.mpr (by rw [List.map_cons]; exact List.nodup_cons.mpr ⟨hm, R.diff⟩)
  have fin : ∀ t2 : SetTable, TabOk t2 (hashesOf w L1) → t2.mask = t1.mask → t2.fill = t1.fill → (w.params.followText "set-order" = true ∨ t2.led = true) → wpAny (model P w) A (do
      storeSet a es1 t2
      if (!false && t2.tooFull) = true then setRelay a (SetTable.grown (es.size + 1))
      return true) Q E s := by
    intro t2 T2 em ef led2
    have same : Heap.SameBut a s.heap (s.heap.update a (Obj.putSet es1 t2)) := Heap.SameBut.update ..
    refine wpAny_bind (wpAny_storeSet_of hob hdt ?_ (by rw [lines_size rows1, hn1, sizeLine_eq]; omega))
    rw [hn]
    refine add_end (s := { s with heap := s.heap.update a (Obj.putSet es1 t2) }) (store_at hob hdt) ⟨hex.1, hex.2.1, hex.2.2⟩ rfl rows1 T2 diff1 (fun p hp => ?_) led2 (by rw [hn1]; exact few) hn1 (by rw [em, z4]; exact room) (by rw [ef, fill1])
      fun h' L' es' ep' t' b1 b2 b3 => q true h' L' es' ep' t' (same.trans b1) b2 (.inr ⟨hm, b3.trans per⟩)
    rcases List.mem_cons.mp (per.mem_iff.mp hp) with rfl | y
    · exact key_apart hx hob hdt same
    · exact key_apart (R.keys p y) hob hdt same
  by_cases pl : t1.plain = true
  · rw [if_pos pl]
    refine wpAny_bind (ask_byval k 8 _ _ hx.1 hx.2 _ _ _ fun b _ => ?_)
    cases b with
    | true =>
      simp only [if_true]
      exact fin t1 T1 rfl rfl led1
    | false =>
      simp only [Bool.false_eq_true, if_false]
      exact fin { t1 with plain := false } ⟨T1.ris, T1.dm, T1.sz, T1.mok, T1.bd, T1.reach⟩ rfl rfl led1
  · rw [if_neg pl]
    refine wpAny_bind (wpAny_pure ?_)
    simp only [if_true]
    exact fin t1 T1 rfl rfl led1
end
end Sn
/-! set(xs) of things that are all different, and sorted of it: an entry for each, a list of as many. -/
namespace Po
open PySem PySem.Spec PyProof.Rows L2 Lo
section
variable {P : Program} {w : World} {κ : Type} [DecidableEq κ]
/-- the set at a has as many entries as ks has keys, each of one of them; its table can be walked -/
def SetN (knd : KeyKind P w κ) (h : Heap) (a : Addr) (ks : List κ) : Prop :=
  ∃ (ob : Obj) (es : Array (Int × Value)) (ep : Nat) (tb : SetTable), h.get? a = some ob ∧ ob.ExactSet ∧ ob.data = .set es ep tb ∧
    (∀ e ∈ es.toList, (∃ k, k ∈ ks ∧ knd.is k e.2 = true ∧ e.1 = knd.hash k) ∧ e.2.scannable = true) ∧ (∀ k ∈ ks, ∃ e ∈ es.toList, knd.is k e.2 = true) ∧ es.size = ks.length ∧ es.size < scanBound ∧
    tb.fits es.size = true ∧ Ris tb.place.toList ∧ (w.params.followText "set-order" = true ∨ tb.led = true)
variable {knd : KeyKind P w κ} {A : Around} {E : Value → Shared → Prop} {s : Shared} {a : Addr} {ks : List κ}
theorem SetN.at {h h' : Heap} (N : SetN knd h a ks) (keep : ∀ o, h.get? a = some o → h'.get? a = some o) : SetN knd h' a ks := by
  obtain ⟨ob, es, ep, tb, hob, more⟩ := N
  exact ⟨ob, es, ep, tb, keep ob hob, more⟩
/-- behind the laying of an entry: the table is stored, and laid anew where it is too full -/
theorem setN_tail {give : Bool → Sem Unit} (hgive : ∀ (b : Bool) (s1 : Shared) (Q' : Unit → Shared → Prop), Q' () s1 → wpAny (model P w) A (give b) Q' E s1) {ob : Obj} {es : Array (Int × Value)} {ep : Nat} {tb : SetTable}
    (hob : s.heap.get? a = some ob) (hex : ob.ExactSet) (hdt : ob.data = .set es ep tb) {es1 : Array (Int × Value)} {tb2 : SetTable}
    (hall : ∀ e ∈ es1.toList, (∃ k, k ∈ ks ∧ knd.is k e.2 = true ∧ e.1 = knd.hash k) ∧ e.2.scannable = true) (hcov : ∀ k ∈ ks, ∃ e ∈ es1.toList, knd.is k e.2 = true) (hsz : es1.size = ks.length) (hbd : es1.size < scanBound) (hfit : tb2.fits es1.size = true)
    (hris : Ris tb2.place.toList) (hled : w.params.followText "set-order" = true ∨ tb2.led = true) {old : Bool} {R : Option Bool → Shared → Prop}
    (hR : ∀ h', Heap.SameBut a s.heap h' → SetN knd h' a ks → R (some true) { s with heap := h' }) :
    wpAny (model P w) A (do
        storeSet a es1 tb2
        if (!old && tb2.tooFull) = true then do
            give (relayAll tb2 es1 (SetTable.grown es1.size)).2.2
            storeSet a (relayAll tb2 es1 (SetTable.grown es1.size)).1 (relayAll tb2 es1 (SetTable.grown es1.size)).2.1
            pure (some true)
          else pure (some true)) R E s := by
  refine wpAny_bind (wpAny_storeSet_of hob hdt ?_ (fits_of_scanBound hbd))
  have hob1 := store_at (es' := es1) (t' := tb2) hob hdt
  have but1 := Heap.SameBut.update s.heap a (Obj.putSet es1 tb2)
  split
  · have pe := relayAll_perm tb2 es1 (SetTable.grown es1.size)
    have fi := relayAll_fits tb2 es1 (SetTable.grown es1.size)
    have ri := relayAll_ris tb2 es1 (SetTable.grown es1.size)
    have le := relayAll_led tb2 es1 (SetTable.grown es1.size)
    generalize relayAll tb2 es1 (SetTable.grown es1.size) = out at pe fi ri le ⊢
    obtain ⟨es2, tb3, gave⟩ := out
    dsimp only at pe fi ri le ⊢
    have hsz2 : es2.size = es1.size := by
      have q := pe.length_eq
      rw [Array.length_toList, Array.length_toList] at q
      exact q
    have hbd2 : es2.size < scanBound := hsz2 ▸ hbd
    refine wpAny_bind (hgive _ _ _ ?_)
    refine wpAny_bind (wpAny_storeSet_of hob1 rfl ?_ (fits_of_scanBound hbd2))
    have hob2 := store_at (es' := es2) (t' := tb3) hob1 rfl
    refine wpAny_pure (hR _ (but1.trans (Heap.SameBut.update _ a _)) ?_)
    exact ⟨_, es2, _, tb3, hob2, hex, rfl, fun e he => hall e (pe.mem_iff.mp he), (fun k hk => let ⟨e, he, q⟩ := hcov k hk; ⟨e, pe.mem_iff.mpr he, q⟩), hsz2.trans hsz, hbd2, fi, ri, hled.elim .inl fun z => .inr (le.trans z)⟩
  · exact wpAny_pure (hR _ but1 ⟨_, es1, _, tb2, hob1, hex, rfl, hall, hcov, hsz, hbd, hfit, hris, hled⟩)
/-- one more key, which is not among them -/
theorem setN_new {k : κ} {x : Value} {Q : Bool → Shared → Prop} (N : SetN knd s.heap a ks) (hkey : knd.is k x = true) (hscan : x.scannable = true) (hnew : k ∉ ks) (hroom : ks.length + 1 < scanBound)
    (hQ : ∀ h', Heap.SameBut a s.heap h' → SetN knd h' a (k :: ks) → Q true { s with heap := h' }) : wpAny (model P w) A (setAddHashed a x (knd.hash k)) Q E s := by
  obtain ⟨ob, es, ep, tb, hob, hex, hdt, hall, hcov, hsz, hbd, hfit, hris, hled⟩ := N
  have elems : ElemsOf knd es.toList := fun e he => by
    obtain ⟨⟨j, _, h2, h3⟩, h4⟩ := hall e he
    exact ⟨⟨j, h2, h3⟩, h4⟩
  have miss : List.findIdx? (fun e : Int × Value => knd.is k e.2) es.toList = none := by
    rw [List.findIdx?_eq_none_iff]
    intro e he
    cases q : knd.is k e.2 with
    | false => rfl
    | true =>
      obtain ⟨⟨j, h1, h2, _⟩, _⟩ := hall e he
      exact absurd (knd.inj e.2 k j q h2 ▸ h1) hnew
  unfold setAddHashed
  unfold setAddHashedIn
  refine wpAny_holding (wpAny_bind (wpAny_setState_of hob hdt hfit ?_))
  dsimp only
  rw [byScan_of hscan hbd elems]
  simp only [↓reduceIte]
  unfold setAddByScan
  refine wpAny_bind ?_
  refine wpAny_bind (wpAny_rule ?_)
  refine wpAny_bind (wpAny_setScan_of hkey hob hdt hfit elems ?_)
  rw [miss]
  dsimp only
  have quiet : ∀ (b : Bool) {s1 : Shared} {Q' : Unit → Shared → Prop}, Q' () s1 → wpAny (model P w) A (match b with | true => rule "set.scan.the-table-gave-way" | false => pure ()) Q' E s1 := fun b s1 Q' q => by
    cases b
    · exact wpAny_pure q
    · exact wpAny_rule q
  have pe := layNew_perm tb es (knd.hash k) x
  have fi := layNew_fits tb es (knd.hash k) x
  have ri := layNew_ris tb es (knd.hash k) x hris
  have le := layNew_led tb es (knd.hash k) x
  generalize layNew tb es (knd.hash k) x = out at pe fi ri le ⊢
  obtain ⟨es1, tb1, old, gave⟩ := out
  dsimp only at pe fi ri le ⊢
  rw [Array.toList_push] at pe
  have hsz1 : es1.size = (k :: ks).length := by
    have q := pe.length_eq
    rw [Array.length_toList, List.length_append, Array.length_toList, hsz] at q
    exact q
  have hbd1 : es1.size < scanBound := by
    rw [hsz1]
    exact hroom
  have hall1 : ∀ e ∈ es1.toList, (∃ j, j ∈ k :: ks ∧ knd.is j e.2 = true ∧ e.1 = knd.hash j) ∧ e.2.scannable = true := fun e he => by
    rcases List.mem_append.mp (pe.mem_iff.mp he) with z | z
    · obtain ⟨⟨j, h1, h2⟩, h3⟩ := hall e z
      exact ⟨⟨j, List.mem_cons_of_mem _ h1, h2⟩, h3⟩
    · rw [List.mem_singleton] at z
      subst z
      exact ⟨⟨k, List.mem_cons_self, hkey, rfl⟩, hscan⟩
  have hcov1 : ∀ j ∈ k :: ks, ∃ e ∈ es1.toList, knd.is j e.2 = true := fun j hj => by
    rcases List.mem_cons.mp hj with z | z
    · rw [z]
      exact ⟨_, pe.mem_iff.mpr (List.mem_append_right _ (List.mem_singleton.mpr rfl)), hkey⟩
    · obtain ⟨e, he, q⟩ := hcov j z
      exact ⟨e, pe.mem_iff.mpr (List.mem_append_left _ he), q⟩
  have led1 : w.params.followText "set-order" = true ∨ tb1.led = true := hled.elim .inl fun z => .inr (le.trans z)
  refine wpAny_bind (quiet _ ?_)
  split
  · refine wpAny_bind ?_
    rw [hashByValue_scannable 8 hscan]
    refine wpAny_pure ?_
    refine setN_tail ?_ hob hex hdt hall1 hcov1 hsz1 hbd1 ?_ ?_ ?_ ?_
    · intro b s1 Q' q
      cases b
      · exact wpAny_pure q
      · exact wpAny_rule q
    · first | (split <;> first | exact fi | exact SetTable.fits_plain_off fi) | exact fi
    · first | (split <;> exact ri) | exact ri
    · first | (split <;> exact led1) | exact led1
    · intro h' but N1
      dsimp only
      exact wpAny_pure (hQ h' but N1)
  · refine wpAny_bind (wpAny_pure ?_)
    simp only [↓reduceIte]
    refine setN_tail ?_ hob hex hdt hall1 hcov1 hsz1 hbd1 fi ri led1 ?_
    · intro b s1 Q' q
      cases b
      · exact wpAny_pure q
      · exact wpAny_rule q
    · intro h' but N1
      dsimp only
      exact wpAny_pure (hQ h' but N1)
end
section
variable {prog : Program} {w : World} {κ : Type} [DecidableEq κ] {knd : KeyKind prog w κ} {A : Around} {R : Result → Shared → Prop} {I : Addr} {fp wr : List Addr} {G : Array GenState → Array GenState → Prop} {n : Nat} {Pv : Nat → Value → Prop} {St : Nat → Shared → Prop}
/-- set.update's loop over keys that are all different -/
theorem setN_loop (W : WalksS prog w A.in1 I fp wr G n Pv St) (S : Addr) (hfp : S ∉ fp) (ks : List κ) (hlen : ks.length = n) (hdiff : ks.Nodup) (hroom : n + 1 < scanBound)
    (hval : ∀ i v, Pv i v → ∃ k, ks[i]? = some k ∧ knd.is k v = true ∧ v.scannable = true) :
    ∀ (m i : Nat) (s : Shared), n - i = m → i ≤ n → St i s → SetN knd s.heap S (ks.take i).reverse →
      (∀ s', Moved (S :: wr) G s s' → SetN knd s'.heap S ks.reverse → R (.ok (.ret .none)) s') → codeAny (model prog w) A (.builtin "set.update.loop" ⟨[.ref S, .ref I], []⟩) R s := by
  have hwr : S ∉ wr := fun z => hfp (W.sub _ z)
  have more : ∀ b ∈ wr, b ∈ S :: wr := fun b hb => List.mem_cons_of_mem _ hb
  intro m
  induction m with
  | zero =>
    intro i s hm hi st N fin
    obtain rfl : i = n := by omega
    refine codeAny_builtin PyProof.Rows.F.entry_set_update_loop ?_
    rw [Around.under_plainId PyProof.Rows.F.plain_set_update_loop _]
    show wpAny _ A.in1 (pyNext (.ref I) >>= _) _ _ s
    refine wpAny_bind (W.done s _ _ st fun s' mv => ?_)
    show wpAny _ A.in1 (ret Value.none) _ _ s'
    rw [List.take_of_length_le (Nat.le_of_eq hlen)] at N
    exact wpAny_pure (fin s' (mv.mono more) (N.at fun o e => mv.heap S _ hwr e))
  | succ m ih =>
    intro i s hm hi st N fin
    have hlt : i < n := by omega
    refine codeAny_builtin PyProof.Rows.F.entry_set_update_loop ?_
    rw [Around.under_plainId PyProof.Rows.F.plain_set_update_loop _]
    show wpAny _ A.in1 (pyNext (.ref I) >>= _) _ _ s
    refine wpAny_bind (W.item i s _ _ hlt st fun v s1 hv st1 mv => ?_)
    obtain ⟨k, hk, his, hsc⟩ := hval i v hv
    have N1 : SetN knd s1.heap S (ks.take i).reverse := N.at fun o e => mv.heap S _ hwr e
    have hi2 : i < ks.length := hlen ▸ hlt
    have ek : ks[i] = k := by
      rw [List.getElem?_eq_getElem hi2] at hk
      exact Option.some.inj hk
    have fresh : k ∉ (ks.take i).reverse := fun z => by
      rw [List.mem_reverse] at z
      have d := hdiff
      rw [← List.take_append_drop i ks] at d
      exact (List.nodup_append.mp d).2.2 k z k (by rw [List.drop_eq_getElem_cons hi2, ek]; exact List.mem_cons_self) rfl
    have etake : (ks.take (i + 1)).reverse = k :: (ks.take i).reverse := by
      rw [List.take_add_one, hk]
      show (ks.take i ++ [k]).reverse = _
      rw [List.reverse_append]
      rfl
    show wpAny _ A.in1 (holding [v] (setAdd S v) >>= _) _ _ s1
    refine wpAny_bind (wpAny_holding ?_)
    unfold setAdd
    refine wpAny_holding ?_
    refine wpAny_bind (knd.pyHash (k := k) his ?_)
    refine setN_new (s := { s1 with toks := s1.toks + 1 }) N1 his hsc fresh ?_ fun h' but N2 => ?_
    · rw [List.length_reverse, List.length_take]
      omega
    have N3 : SetN knd h' S (ks.take (i + 1)).reverse := by
      rw [etake]
      exact N2
    refine wpAny_pure ⟨plainId_quiet PyProof.Rows.F.plain_set_update_loop _, ih (i + 1) _ (by omega) hlt (W.frame _ s1 _ _ st1 (Nat.le_succ _) fun b hb o e => ?_) N3 fun s2 mv2 N4 => ?_⟩
    · have nb : b ≠ S := fun z => hfp (z ▸ hb)
      rw [but.2 b nb]
      exact e
    · refine fin s2 (Moved.trans W.gtrans ((mv.mono more).then_heap (Nat.le_succ _) fun b o hb e => ?_) mv2) N4
      have nb : b ≠ S := fun z => hb (z ▸ List.mem_cons_self)
      rw [but.2 b nb]
      exact e
end
section
variable {P : Program} {w : World} {κ : Type} [DecidableEq κ] {knd : KeyKind P w κ} {A : Around} {E : Value → Shared → Prop} {s : Shared}
abbrev bareSet (w : World) : Obj := { cls := .type "set", dict := none, data := .set #[] 0 (.fresh 0 0 (!w.params.followText "set-order")) }
theorem setN_bare {h : Heap} {a : Addr} (e : h.get? a = some (bareSet w)) : SetN knd h a [] := by
  refine ⟨_, #[], 0, _, e, ⟨rfl, rfl, rfl⟩, rfl, fun e he => ?_, (fun k hk => nomatch hk), rfl, by decide, by rfl, List.Pairwise.nil, ?_⟩
  · simp at he
  · show _ ∨ (!w.params.followText "set-order") = true
    cases w.params.followText "set-order"
    · exact .inr rfl
    · exact .inl rfl
set_option maxHeartbeats 3200000 in
/-- set(a list) -/
theorem call_setN {l : Addr} {its : Array Value} {ks : List κ} {Q : Value → Shared → Prop} (hand : A.handled = none) (hlist : s.heap.IsList l its) (hlen : ks.length = its.size) (hdiff : ks.Nodup) (hroom : its.size + 1 < scanBound)
    (hits : ∀ (i : Nat) (v : Value), its[i]? = some v → ∃ k, ks[i]? = some k ∧ knd.is k v = true ∧ v.scannable = true)
    (hQ : ∀ (h' : Heap) (tk : Nat), SetN knd h' s.heap.objs.size ks.reverse → (∀ b o, s.heap.get? b = some o → h'.get? b = some o) → Q (.ref s.heap.objs.size) { s with heap := h', toks := tk }) :
    wpAny (model P w) A (call (.type "set") [.ref l]) Q E s := by
  obtain ⟨c, tl, hmro⟩ := PySem.F.called_set.mro
  have hmade := PySem.F.called_set.made
  have hsub := PySem.F.called_set.sub
  refine wpAny_call (codeAny_of_tree ?_)
  show wpAny _ _ (callAny (.type "set") _) _ _ _
  refine wpAny_pure ⟨Code.quiet_builtin _ (by decide +kernel), codeAny_builtin PySem.F.entry_type_call ?_⟩
  rw [Around.under_plain (weight_type_call_type "set" [.ref l] []) rfl]
  have hnt := PySem.F.called_set.notType
  have hcc := PySem.F.called_set.canCreate
  have hct := PySem.F.typeCall_set_1 (.ref l)
  repeat (any_goals (first | assumption | wp_step))
  refine codeAny_mono (code_set_led1 (.ref l) (E := E) (Q₁ := fun ob s1 => ob = .ref s.heap.objs.size ∧ s1 = { s with heap := s.heap.push (bareSet w) }) ⟨rfl, rfl⟩) fun r s1 hr => ?_
  cases r with
  | error e => exact hr
  | ok fl =>
    cases fl with
    | ret ob =>
      obtain ⟨rfl, rfl⟩ := hr
      have hnew : (s.heap.push (bareSet w)).get? s.heap.objs.size = some (bareSet w) := Heap.get?_push_size _ rfl
      have hty : Shared.TypeIs { s with heap := s.heap.push (bareSet w) } (.ref s.heap.objs.size) "set" := ⟨_, hnew, rfl⟩
      have hli := PySem.F.called_set.init.lookup
      have hbi := PySem.F.called_set.init.bind (.ref s.heap.objs.size)
      repeat (any_goals (first | assumption | wp_step))
      refine codeAny_mono (codeAny_call_builtin (R := wants (fun r s2 => r = .none ∧ ∃ h' tk, s2 = { s with heap := h', toks := tk } ∧ SetN knd h' s.heap.objs.size ks.reverse ∧
          (∀ b o, s.heap.get? b = some o → h'.get? b = some o)) E) PySem.F.called_set.init.plain PySem.F.entry_set_init (check_set_init_1 hty ?_)) fun r2 s2 hr2 => ?_
      · obtain ⟨ol, hol, hcl, nl, hdl⟩ := hlist
        obtain ⟨ocls, odict, odata, oslots⟩ := ol
        simp only at hcl hdl
        subst hcl
        subst hdl
        have hol1 : (s.heap.push (bareSet w)).get? l = some { cls := .type "list", dict := odict, data := .seq its nl, slots := oslots } := Heap.get?_push_of_some _ hol
        have hsls := PySem.F.sub_list_set
        have hslf := PySem.F.sub_list_frozenset
        have hne : (Value.type "list" == Value.type "dict") = false := by decide
        have hl1 : (s.heap.push (bareSet w)).IsList l its := ⟨_, hol1, rfl, nl, rfl⟩
        unfold Builtin.«set.__init__»
        unfold noKeywords
        unfold Builtin.Frozenset.updateFrom
        generalize hPI : pyIter = PI
        wp_walk
        subst hPI
        refine wpAny_pyIter_list hl1 ?_
        refine wpAny_bind (wpAny_runValue ?_)
        have hlS : l < s.heap.objs.size := Heap.lt_size hol
        have hh3 : A.in1.in1.in1.handled = none := by simp [hand]
        have hzz : (s.heap.push (bareSet w)).objs.size = s.heap.objs.size + 1 := Heap.size_push ..
        have hneI : l ≠ (s.heap.push (bareSet w)).objs.size := by
          rw [hzz]
          exact Nat.ne_of_lt (Nat.lt_succ_of_lt hlS)
        have hfp : s.heap.objs.size ∉ [(s.heap.push (bareSet w)).objs.size, l] := by
          rw [hzz]
          intro z
          rcases List.mem_cons.mp z with z | z
          · exact absurd z (Nat.ne_of_lt (Nat.lt_succ_self _))
          · exact absurd (List.mem_singleton.mp z) (Nat.ne_of_gt hlS)
        refine setN_loop (knd := knd) ((Walks.list hh3 _ l hneI its).toS) s.heap.objs.size hfp ks hlen hdiff hroom hits (its.size - 0) 0 _ rfl (Nat.zero_le _) ⟨⟨_, Heap.get?_push_size _ rfl, rfl, rfl⟩, (hl1.push _)⟩ ?hS0 ?hR
        case hS0 => exact setN_bare (Heap.get?_push_of_some _ hnew)
        case hR =>
          intro s3 mv N
          obtain ⟨h', g2, d2, tk2, os2⟩ := s3
          have eg : g2 = s.gens := mv.gens
          have ed : d2 = s.drawn := mv.drawn
          have eo : os2 = s.os := mv.os
          subst eg
          subst ed
          subst eo
          show wpAny _ _ _ _ _ _
          refine wpAny_pure ?_
          show wpAny _ _ (ret Value.none) _ _ _
          refine wpAny_pure ⟨rfl, h', tk2, rfl, N, fun b o e => ?_⟩
          have hb := Heap.lt_size e
          refine mv.heap b o (fun z => ?_) (Heap.get?_push_of_some _ (Heap.get?_push_of_some _ e))
          rcases List.mem_cons.mp z with z | z
          · exact absurd z (Nat.ne_of_lt hb)
          · rw [List.mem_singleton, hzz] at z
            exact absurd z (Nat.ne_of_lt (Nat.lt_succ_of_lt hb))
      · cases r2 with
        | error e => exact hr2
        | ok fl2 =>
          cases fl2 with
          | ret r =>
            obtain ⟨rfl, h', tk, rfl, N, keep⟩ := hr2
            repeat (any_goals (first | assumption | wp_step))
            exact hQ _ _ N keep
          | _ => exact hr2.elim
    | _ => exact hr.elim
end
end Po
/-! set(a tuple): its length is the number of different things -/
namespace Sn
open PySem PySem.Spec PyProof.Rows L2
abbrev bare (w : World) : Obj := Po.bareSet w
/-- how a set grows from things of a tuple, what stood before being h0 -/
structure Grow (P : Program) (w : World) (u : Nat) (items : Array Value) (h0 : Heap) (Φ : Heap → Addr → Nat → Prop) : Prop where
  start : ∀ h a, h.get? a = some (bare w) → Φ h a 0
  stay : ∀ h h' a i, h0.get? a = none → Φ h a i → (∀ o, h.get? a = some o → h'.get? a = some o) → (∀ b o, h0.get? b = some o → h'.get? b = some o) → Φ h' a i
  step : ∀ (A : Around) (E : Value → Shared → Prop) (s : Shared) (a : Addr) (i : Nat) (v : Value) (Q : Bool → Shared → Prop), A.units ≤ u → items[i]? = some v → h0.get? a = none → (∀ b o, h0.get? b = some o → s.heap.get? b = some o) → Φ s.heap a i →
    (∀ b h' tk, s.toks ≤ tk → Heap.SameBut a s.heap h' → Φ h' a (i + 1) → Q b { s with heap := h', toks := tk }) → wpAny (model P w) A (setAdd a v) Q E s
section
variable {P : Program} {w : World} {A : Around} {R : Result → Shared → Prop} {I : Addr} {fp wr : List Addr} {G : Array GenState → Array GenState → Prop} {n : Nat} {Pv : Nat → Value → Prop} {St : Nat → Shared → Prop}
theorem grow_loop {u : Nat} {items : Array Value} {h0 : Heap} {Φ : Heap → Addr → Nat → Prop} (g : Grow P w u items h0 Φ) (W : WalksS P w A.in1 I fp wr G n Pv St) (S : Addr) (hu : A.in1.units ≤ u) (hfp : S ∉ fp) (hlen : n = items.size) (hval : ∀ i v, Pv i v → items[i]? = some v)
    (hS : h0.get? S = none) (hw : ∀ b ∈ wr, h0.get? b = none) : ∀ (m i : Nat) (s : Shared), n - i = m → i ≤ n → St i s → (∀ b o, h0.get? b = some o → s.heap.get? b = some o) → Φ s.heap S i →
      (∀ s', Moved (S :: wr) G s s' → Φ s'.heap S n → (∀ b o, h0.get? b = some o → s'.heap.get? b = some o) → R (.ok (.ret .none)) s') → codeAny (model P w) A (.builtin "set.update.loop" ⟨[.ref S, .ref I], []⟩) R s := by
  have hwr : S ∉ wr := fun z => hfp (W.sub _ z)
  have wide : ∀ b ∈ wr, b ∈ S :: wr := fun b hb => List.mem_cons_of_mem _ hb
  have old : ∀ {s s' : Shared}, Moved wr G s s' → (∀ b o, h0.get? b = some o → s.heap.get? b = some o) → ∀ b o, h0.get? b = some o → s'.heap.get? b = some o := fun mv k b o e =>
    mv.heap b o (fun hb => by rw [hw b hb] at e; exact nomatch e) (k b o e)
  intro m
  induction m with
  | zero =>
    intro i s em le st k N fin
    obtain rfl : i = n := by omega
    refine codeAny_builtin F.entry_set_update_loop ?_
    rw [Around.under_plainId F.plain_set_update_loop _]
    show wpAny _ A.in1 (pyNext (.ref I) >>= _) _ _ s
    refine wpAny_bind (W.done s _ _ st fun s' mv => ?_)
    show wpAny _ A.in1 (ret Value.none) _ _ s'
    exact wpAny_pure (fin s' (mv.mono wide) (g.stay _ _ _ _ hS N (fun o e => mv.heap S o hwr e) (old mv k)) (old mv k))
  | succ m ih =>
    intro i s em le st k N fin
    have lt : i < n := by omega
    refine codeAny_builtin F.entry_set_update_loop ?_
    rw [Around.under_plainId F.plain_set_update_loop _]
    show wpAny _ A.in1 (pyNext (.ref I) >>= _) _ _ s
    refine wpAny_bind (W.item i s _ _ lt st fun v s1 hv st1 mv => ?_)
    have k1 := old mv k
    show wpAny _ A.in1 (holding [v] (setAdd S v) >>= _) _ _ s1
    refine wpAny_bind (wpAny_holding ?_)
    refine g.step _ _ s1 S i v _ hu (hval i v hv) hS k1 (g.stay _ _ _ _ hS N (fun o e => mv.heap S o hwr e) k1) fun b h' tk tle but N2 => ?_
    have k2 : ∀ b o, h0.get? b = some o → h'.get? b = some o := fun b o e => (but.2 b fun z => by rw [z, hS] at e; exact nomatch e).trans (k1 b o e)
    refine wpAny_pure ⟨plainId_quiet F.plain_set_update_loop _, ih (i + 1) { s1 with heap := h', toks := tk } (by omega) lt ?_ k2 N2 fun s2 mv2 N4 k4 => ?_⟩
    · refine W.frame _ s1 h' tk st1 tle fun b hb o e => ?_
      exact (but.2 b fun z => hfp (z ▸ hb)).trans e
    · refine fin s2 (Moved.trans W.gtrans ((mv.mono wide).then_heap tle fun b o hb e => ?_) mv2) N4 k4
      exact (but.2 b fun z => hb (z ▸ List.mem_cons_self)).trans e
end
section
variable {P : Program} {w : World} {A : Around} {E : Value → Shared → Prop} {s : Shared}
set_option maxHeartbeats 3200000 in
/-- set(a tuple) -/
theorem call_set_tuple {l : Addr} {its : Array Value} {Φ : Heap → Addr → Nat → Prop} {Q : Value → Shared → Prop} (hand : A.handled = none) (htup : s.heap.IsTuple l its) (g : Grow P w (A.units + 8) its s.heap Φ)
    (hQ : ∀ (h' : Heap) (tk : Nat), Φ h' s.heap.objs.size its.size → (∀ b o, s.heap.get? b = some o → h'.get? b = some o) → Q (.ref s.heap.objs.size) { s with heap := h', toks := tk }) :
    wpAny (model P w) A (call (.type "set") [.ref l]) Q E s := by
  obtain ⟨c, tl, hmro⟩ := PySem.F.called_set.mro
  have hmade := PySem.F.called_set.made
  have hsub := PySem.F.called_set.sub
  refine wpAny_call (codeAny_of_tree ?_)
  show wpAny _ _ (callAny (.type "set") _) _ _ _
  refine wpAny_pure ⟨Code.quiet_builtin _ (by decide +kernel), codeAny_builtin PySem.F.entry_type_call ?_⟩
  rw [Around.under_plain (weight_type_call_type "set" [.ref l] []) rfl]
  have hnt := PySem.F.called_set.notType
  have hcc := PySem.F.called_set.canCreate
  have hct := PySem.F.typeCall_set_1 (.ref l)
  repeat (any_goals (first | assumption | wp_step))
  refine codeAny_mono (code_set_led1 (.ref l) (E := E) (Q₁ := fun ob s1 => ob = .ref s.heap.objs.size ∧ s1 = { s with heap := s.heap.push (bare w) }) ⟨rfl, rfl⟩) fun r s1 hr => ?_
  cases r with
  | error e => exact hr
  | ok fl =>
    cases fl with
    | ret ob =>
      obtain ⟨rfl, rfl⟩ := hr
      have hnew : (s.heap.push (bare w)).get? s.heap.objs.size = some (bare w) := Heap.get?_push_size _ rfl
      have hty : Shared.TypeIs { s with heap := s.heap.push (bare w) } (.ref s.heap.objs.size) "set" := ⟨_, hnew, rfl⟩
      have hli := PySem.F.called_set.init.lookup
      have hbi := PySem.F.called_set.init.bind (.ref s.heap.objs.size)
      repeat (any_goals (first | assumption | wp_step))
      refine codeAny_mono (codeAny_call_builtin (R := wants (fun r s2 => r = .none ∧ ∃ h' tk, s2 = { s with heap := h', toks := tk } ∧ Φ h' s.heap.objs.size its.size ∧
          (∀ b o, s.heap.get? b = some o → h'.get? b = some o)) E) PySem.F.called_set.init.plain PySem.F.entry_set_init (check_set_init_1 hty ?_)) fun r2 s2 hr2 => ?_
      · obtain ⟨ol, hol, hcl, nl, hdl⟩ := htup
        obtain ⟨ocls, odict, odata, oslots⟩ := ol
        simp only at hcl hdl
        subst hcl
        subst hdl
        have hol1 : (s.heap.push (bare w)).get? l = some { cls := .type "tuple", dict := odict, data := .seq its nl, slots := oslots } := Heap.get?_push_of_some _ hol
        have hsls := PySem.F.sub_tuple_set
        have hslf := PySem.F.sub_tuple_frozenset
        have hne : (Value.type "tuple" == Value.type "dict") = false := by decide
        have hl1 : (s.heap.push (bare w)).IsTuple l its := ⟨_, hol1, rfl, nl, rfl⟩
        unfold Builtin.«set.__init__»
        unfold noKeywords
        unfold Builtin.Frozenset.updateFrom
        generalize hPI : pyIter = PI
        wp_walk
        subst hPI
        refine wpAny_pyIter_tuple hl1 ?_
        refine wpAny_bind (wpAny_runValue ?_)
        have hlS : l < s.heap.objs.size := Heap.lt_size hol
        have hh3 : A.in1.in1.in1.handled = none := by simp [hand]
        have hzz : (s.heap.push (bare w)).objs.size = s.heap.objs.size + 1 := Heap.size_push ..
        have hneI : l ≠ (s.heap.push (bare w)).objs.size := by
          rw [hzz]
          exact Nat.ne_of_lt (Nat.lt_succ_of_lt hlS)
        have hfp : s.heap.objs.size ∉ [(s.heap.push (bare w)).objs.size, l] := by
          rw [hzz]
          intro z
          rcases List.mem_cons.mp z with z | z
          · exact absurd z (Nat.ne_of_lt (Nat.lt_succ_self _))
          · exact absurd (List.mem_singleton.mp z) (Nat.ne_of_gt hlS)
        have free : ∀ b, s.heap.objs.size ≤ b → s.heap.get? b = none := fun b hb => by
          cases e : s.heap.get? b with
          | none => rfl
          | some o => exact absurd (Heap.lt_size e) (Nat.not_lt.mpr hb)
        refine grow_loop g ((Walks.tuple hh3 _ l hneI its).toS) s.heap.objs.size (show A.units + 3 ≤ A.units + 8 by omega) hfp rfl (fun i v h => h) (free _ (Nat.le_refl _)) (fun b hb => free b ?_) (its.size - 0) 0 _ rfl (Nat.zero_le _) ⟨⟨_, Heap.get?_push_size _ rfl, rfl, rfl⟩, (hl1.push _)⟩
          (fun b o e => Heap.get?_push_of_some _ (Heap.get?_push_of_some _ e)) ?hS0 ?hR
        · rw [List.mem_singleton.mp hb, hzz]
          exact Nat.le_succ _
        case hS0 => exact g.start _ _ (Heap.get?_push_of_some _ hnew)
        case hR =>
          intro s3 mv N keep
          obtain ⟨h', g2, d2, tk2, os2⟩ := s3
          have eg : g2 = s.gens := mv.gens
          have ed : d2 = s.drawn := mv.drawn
          have eo : os2 = s.os := mv.os
          subst eg
          subst ed
          subst eo
          show wpAny _ _ _ _ _ _
          refine wpAny_pure ?_
          show wpAny _ _ (ret Value.none) _ _ _
          exact wpAny_pure ⟨rfl, h', tk2, rfl, N, keep⟩
      · cases r2 with
        | error e => exact hr2
        | ok fl2 =>
          cases fl2 with
          | ret r =>
            obtain ⟨rfl, h', tk, rfl, N, keep⟩ := hr2
            repeat (any_goals (first | assumption | wp_step))
            exact hQ _ _ N keep
          | _ => exact hr2.elim
    | _ => exact hr.elim
end
end Sn
/-! len(set(a tuple)) -/
namespace Sn
open PySem PySem.Spec PyProof.Rows L2
theorem sub_perm {α : Type} [DecidableEq α] : ∀ {ks ts : List α}, ks.Nodup → (∀ x ∈ ks, x ∈ ts) → ts.length = ks.length → ts.Perm ks
  | [], ts, _, _, h => by rw [List.length_eq_zero_iff.mp h]
  | k :: ks, ts, nd, sub, h => by
    obtain ⟨n1, n2⟩ := List.nodup_cons.mp nd
    have hp := List.perm_cons_erase (sub k List.mem_cons_self)
    refine hp.trans (List.Perm.cons k (sub_perm n2 (fun x hx => ?_) ?_))
    · exact (List.mem_erase_of_ne fun (e : x = k) => n1 (e ▸ hx)).mpr (sub x (List.mem_cons_of_mem _ hx))
    · have := hp.length_eq
      rw [List.length_cons] at this h
      omega
theorem nodup_le {α : Type} [DecidableEq α] : ∀ {ks ts : List α}, ks.Nodup → (∀ x ∈ ks, x ∈ ts) → ks.length ≤ ts.length
  | [], _, _, _ => Nat.zero_le _
  | k :: ks, ts, nd, sub => by
    obtain ⟨n1, n2⟩ := List.nodup_cons.mp nd
    have ih := nodup_le (ts := ts.erase k) n2 fun x hx => (List.mem_erase_of_ne fun (e : x = k) => n1 (e ▸ hx)).mpr (sub x (List.mem_cons_of_mem _ hx))
    have := (List.perm_cons_erase (sub k List.mem_cons_self)).length_eq
    rw [List.length_cons] at this ⊢
    omega
/-- D: what is different in ks -/
theorem different {α : Type} [DecidableEq α] {ks D : List α} (nd : D.Nodup) (sub : ∀ x ∈ D, x ∈ ks) (cov : ∀ x ∈ ks, x ∈ D) : D.length = ks.length ↔ ks.Nodup := by
  constructor
  · intro e
    exact (sub_perm nd sub e.symm).nodup_iff.mpr nd
  · intro n
    exact Nat.le_antisymm (nodup_le nd sub) (nodup_le n cov)
theorem take_one {α : Type} {l : List α} {i : Nat} {x : α} (h : l[i]? = some x) : l.take (i + 1) = l.take i ++ [x] := by
  rw [List.take_add_one, h]
  rfl
section
variable {P : Program} {w : World}
/-- what a set has of the first i of some things -/
structure Has {α : Type} (ks : List α) (i : Nat) (D : List α) : Prop where
  nd : D.Nodup
  sub : ∀ x ∈ D, x ∈ ks.take i
  cov : ∀ x ∈ ks.take i, x ∈ D
theorem Has.zero {α : Type} (ks : List α) : Has ks 0 [] := ⟨List.nodup_nil, (fun _ h => nomatch h), (fun x h => by simp at h)⟩
theorem Has.one {α : Type} {ks D D' : List α} {i : Nat} {x : α} (h : Has ks i D) (hx : ks[i]? = some x) (q : x ∈ D ∧ D' = D ∨ x ∉ D ∧ D'.Perm (x :: D)) : Has ks (i + 1) D' := by
  have e := take_one hx
  rcases q with ⟨m, rfl⟩ | ⟨m, per⟩
  · refine ⟨h.nd, fun y hy => by rw [e]; exact List.mem_append_left _ (h.sub y hy), fun y hy => ?_⟩
    rw [e] at hy
    rcases List.mem_append.mp hy with z | z
    · exact h.cov y z
    · rw [List.mem_singleton.mp z]
      exact m
  · refine ⟨per.nodup_iff.mpr (List.nodup_cons.mpr ⟨m, h.nd⟩), fun y hy => ?_, fun y hy => ?_⟩
    · rw [e]
      rcases List.mem_cons.mp (per.mem_iff.mp hy) with rfl | z
      · exact List.mem_append_right _ List.mem_cons_self
      · exact List.mem_append_left _ (h.sub y z)
    · rw [e] at hy
      refine per.mem_iff.mpr ?_
      rcases List.mem_append.mp hy with z | z
      · exact List.mem_cons_of_mem _ (h.cov y z)
      · rw [List.mem_singleton.mp z]
        exact List.mem_cons_self
theorem Has.few {α : Type} [DecidableEq α] {ks D : List α} {i : Nat} (h : Has ks i D) : D.length ≤ i :=
  Nat.le_trans (nodup_le h.nd h.sub) (by rw [List.length_take]; exact Nat.min_le_left _ _)
/-- a text that is there -/
theorem add_old {A : Around} {E : Value → Shared → Prop} {s : Shared} {a : Addr} {ks : List Str} {k : Str} {x : Value} {Q : Bool → Shared → Prop} (N : Po.SetN (PySem.strKind P w) s.heap a ks) (hkey : (PySem.strKind P w).is k x = true) (hscan : x.scannable = true) (hold : k ∈ ks) (hQ : Q false s) : wpAny (model P w) A (setAddHashed a x ((PySem.strKind P w).hash k)) Q E s := by
  obtain ⟨ob, es, ep, tb, hob, hex, hdt, hall, hcov, hsz, hbd, hfit, hris, hled⟩ := N
  have elems : ElemsOf (PySem.strKind P w) es.toList := fun e he => by
    obtain ⟨⟨j, _, h2, h3⟩, h4⟩ := hall e he
    exact ⟨⟨j, h2, h3⟩, h4⟩
  unfold setAddHashed
  unfold setAddHashedIn
  refine wpAny_holding (wpAny_bind (wpAny_setState_of hob hdt hfit ?_))
  dsimp only
  rw [byScan_of hscan hbd elems]
  simp only [↓reduceIte]
  unfold setAddByScan
  refine wpAny_bind ?_
  refine wpAny_bind (wpAny_rule ?_)
  refine wpAny_bind (wpAny_setScan_of hkey hob hdt hfit elems ?_)
  obtain ⟨e, he, q⟩ := hcov k hold
  cases hf : List.findIdx? (fun e : Int × Value => (PySem.strKind P w).is k e.2) es.toList with
  | none =>
    rw [List.findIdx?_eq_none_iff] at hf
    have := hf e he
    rw [q] at this
    cases this
  | some j =>
    dsimp only
    exact wpAny_pure (wpAny_pure hQ)
theorem grow_texts {u : Nat} {its : Array Value} {xs : List Str} {h0 : Heap} (hits : StrsAre its.toList xs) (hroom : xs.length + 1 < scanBound) : Grow P w u its h0 (fun h a i => ∃ D, Po.SetN (PySem.strKind P w) h a D ∧ Has xs i D) where
  start := fun h a e => ⟨[], Po.setN_bare e, Has.zero xs⟩
  stay := fun h h' a i _ ⟨D, N, H⟩ k _ => ⟨D, N.at k, H⟩
  step := fun A E s a i v Q _ hv _ _ ⟨D, N, H⟩ q => by
    have hv' : its.toList[i]? = some v := by rw [Array.getElem?_toList]; exact hv
    have hlen := StrsAre.length hits
    have hi : i < xs.length := by
      rw [← hlen]
      exact (List.getElem?_eq_some_iff.mp hv').1
    obtain ⟨t, rfl⟩ : ∃ t, v = .str xs[i] t := by
      have : ∀ {us : List Value} {ys : List Str} (h : StrsAre us ys) (j : Nat) (hj : j < ys.length), ∃ t, us[j]? = some (.str ys[j] t) := by
        intro us ys h
        induction h with
        | nil => intro j hj; exact absurd hj (Nat.not_lt_zero _)
        | cons y t _ ih =>
          intro j hj
          cases j with
          | zero => exact ⟨t, rfl⟩
          | succ j => exact ih j (Nat.lt_of_succ_lt_succ hj)
      obtain ⟨t, e⟩ := this hits i hi
      rw [hv'] at e
      exact ⟨t, Option.some.inj e⟩
    have hx : xs[i]? = some xs[i] := List.getElem?_eq_getElem hi
    have his : (PySem.strKind P w).is xs[i] (.str xs[i] t) = true := by
      show (xs[i] == xs[i]) = true
      exact beq_self_eq_true _
    unfold setAdd
    refine wpAny_holding ?_
    refine wpAny_bind ((PySem.strKind P w).pyHash (k := xs[i]) his ?_)
    by_cases m : xs[i] ∈ D
    · exact add_old (s := { s with toks := s.toks + 1 }) N his rfl m (q false s.heap _ (Nat.le_succ _) (Heap.SameBut.refl a s.heap) ⟨D, N, H.one hx (.inl ⟨m, rfl⟩)⟩)
    · refine Po.setN_new (s := { s with toks := s.toks + 1 }) N his rfl m ?_ fun h' but N2 => q true h' _ (Nat.le_succ _) but ⟨_, N2, H.one hx (.inr ⟨m, List.Perm.refl _⟩)⟩
      have := H.few
      omega
theorem keep_key {h h' : Heap} {k : NestedKey} {b : Addr} (hk : (nestedKind P w).is h k b) (same : ∀ c o, h.get? c = some o → h'.get? c = some o) : (nestedKind P w).is h' k b :=
  ⟨NestedIs.at (fun c oc _ _ e1 _ => same c oc e1) k _ hk.1, hk.2⟩
theorem grow_keys {u : Nat} {its : Array Value} {ks : List KA} {h0 : Heap} (hits : its.toList = ks.map fun p => Value.ref p.2) (hk : ∀ p ∈ ks, (nestedKind P w).is h0 p.1 p.2) (hfew : ks.length < 64) (hu : u + 8 < cLine) :
    Grow P w u its h0 (fun h a i => ∃ L es ep t, SetK P w h a L es ep t ∧ (∀ p ∈ L, p ∈ ks) ∧ Has (ks.map Prod.fst) i (L.map Prod.fst)) where
  start := fun h a e => ⟨[], #[], 0, .fresh 0 0 (!w.params.followText "set-order"), ⟨⟨_, e, ⟨rfl, rfl, rfl⟩, rfl⟩, rfl, ⟨List.Pairwise.nil, rfl, rfl, .inl rfl, (fun x hx => nomatch hx), (fun i h j hi => by simp at hi)⟩, List.nodup_nil, (fun p hp => nomatch hp), by
      show _ ∨ (!w.params.followText "set-order") = true
      cases w.params.followText "set-order"
      · exact .inr rfl
      · exact .inl rfl, (by decide : 0 * 5 < 7 * 3), (by decide : 0 < 64)⟩, fun p hp => (by cases hp), Has.zero _⟩
  stay := fun h h' a i _ ⟨L, es, ep, t, R, sub, H⟩ k old => by
    obtain ⟨o, ho, r⟩ := R.here
    exact ⟨L, es, ep, t, ⟨⟨o, k o ho, r⟩, R.rows, R.tab, R.diff, fun p hp => keep_key (hk p (sub p hp)) old, R.led, R.space, R.few⟩, sub, H⟩
  step := fun A E s a i v Q hA hv hnone old ⟨L, es, ep, t, R, sub, H⟩ q => by
    have hv' : its.toList[i]? = some v := by rw [Array.getElem?_toList]; exact hv
    rw [hits, List.getElem?_map] at hv'
    obtain ⟨p, hp, rfl⟩ : ∃ p, ks[i]? = some p ∧ v = .ref p.2 := by
      cases e : ks[i]? with
      | none => rw [e] at hv'; exact nomatch hv'
      | some p => rw [e] at hv'; exact ⟨p, rfl, (Option.some.inj hv').symm⟩
    have hkey : (nestedKind P w).is s.heap p.1 p.2 := keep_key (hk p (List.mem_of_getElem? hp)) old
    have hx : (ks.map Prod.fst)[i]? = some p.1 := by rw [List.getElem?_map, hp]; rfl
    have few : L.length ≤ i := by
      have := H.few
      rwa [List.length_map] at this
    have hi : i < ks.length := (List.getElem?_eq_some_iff.mp hp).1
    have hu' : A.units + 8 < cLine := by omega
    unfold setAdd
    refine wpAny_holding ?_
    refine wpAny_bind ((nestedKind P w).pyHash (k := p.1) hu' hkey ?_)
    refine add_key (s := { s with toks := s.toks + (nestedKind P w).draws p.1 }) R hkey hu' (by omega) fun b h' L' es' ep' t' but R' cases2 => q b h' _ (Nat.le_add_right _ _) but ⟨L', es', ep', t', R', fun p' hp' => ?_, H.one hx ?_⟩
    · rcases cases2 with ⟨_, rfl⟩ | ⟨_, per⟩
      · exact sub p' hp'
      · rcases List.mem_cons.mp (per.mem_iff.mp hp') with rfl | z
        · exact List.mem_of_getElem? hp
        · exact sub p' z
    · rcases cases2 with ⟨m, e⟩ | ⟨m, per⟩
      · exact .inl ⟨m, by rw [e]⟩
      · exact .inr ⟨m, per.map Prod.fst⟩
end
end Sn
/-! things as data: their kinds, their keys, len(set(row)) -/
namespace Kd
open PySem L2 Lo
/-- all is kept; tables of code may grow -/
structure SameG (H H' : Hp) : Prop where
  keep : ∀ b o, H b = some o → (∀ ps, o ≠ .tbl ps) → H' b = some o
  tab : ∀ T, GxR.TabG H T → GxR.TabG H' T
theorem SameG.refl (H : Hp) : SameG H H := ⟨fun b o e _ => e, fun _ h => h⟩
theorem SameG.trans {H H' H'' : Hp} (h : SameG H H') (k : SameG H' H'') : SameG H H'' := ⟨fun b o e n => k.keep b o (h.keep b o e n) n, fun T t => k.tab T (h.tab T t)⟩
theorem SameG.of {H H' : Hp} (s : Same H H') : SameG H H' := ⟨fun b o e _ => s b o e, fun T ⟨ps, e, t⟩ => ⟨ps, s _ _ e, t⟩⟩
theorem SameG.tabbed {T : Addr} {H H' : Hp} (t0 : GxR.TabG H T) (t : GxR.Tabbed T H H') : SameG H H' := ⟨fun b o e n => by
  have hb : b ≠ T := fun z => by
    obtain ⟨ps, e2, _⟩ := t0
    rw [z, e2] at e
    exact n ps (Option.some.inj e).symm
  rw [t.2 b hb]
  exact e, fun T' h' => by
  by_cases z : T' = T
  · rw [z]
    exact t.1
  · obtain ⟨ps, e, r⟩ := h'
    exact ⟨ps, (t.2 T' z).trans e, r⟩⟩
section
variable {K : PySem.W.Frag} {H H' : Hp}
theorem sqT_g {a : Addr} {xs : List V} (s : SameG H H') (h : SqT K H a xs) : SqT K H' a xs := by
  rcases h with (h | ⟨o, h⟩) | h
  · exact .inl (.inl (s.keep _ _ h fun ps z => nomatch z))
  · exact .inl (.inr ⟨o, s.keep _ _ h fun ps z => nomatch z⟩)
  · exact .inr h
theorem sqL_g {a : Addr} {xs : List V} (s : SameG H H') (h : SqL K H a xs) : SqL K H' a xs := by
  rcases h with (h | ⟨o, h⟩) | h
  · exact .inl (.inl (s.keep _ _ h fun ps z => nomatch z))
  · exact .inl (.inr ⟨o, s.keep _ _ h fun ps z => nomatch z⟩)
  · exact .inr h
mutual
theorem dp_g (s : SameG H H') : ∀ (d : PyData) (v : V), Dp K H v d → Dp K H' v d
  | .none, _, h => by cases h; exact .non
  | .bool b, _, h => by cases h; exact .bl b
  | .int i, _, h => by cases h; exact .int i
  | .str x, _, h => by cases h; exact .str x
  | .list ds, _, h => by
    cases h with
    | lst a b => exact .lst (sqL_g s a) (dps_g s ds _ b)
  | .tuple ds, _, h => by
    cases h with
    | tup a b => exact .tup (sqT_g s a) (dps_g s ds _ b)
  | .dict _, _, h => nomatch h
theorem dps_g (s : SameG H H') : ∀ (ds : List PyData) (vs : List V), DpAll K H vs ds → DpAll K H' vs ds
  | [], _, h => by cases h; exact .nil
  | d :: ds, _, h => by
    cases h with
    | cons a b => exact .cons (dp_g s d _ a) (dps_g s ds _ b)
end
theorem dps_len : ∀ {ds : List PyData} {vs : List V}, DpAll K H vs ds → vs.length = ds.length
  | [], _, h => by cases h; rfl
  | _ :: ds, _, h => by
    cases h with
    | cons _ b => rw [List.length_cons, List.length_cons, dps_len b]
theorem dps_at : ∀ {ds : List PyData} {vs : List V}, DpAll K H vs ds → ∀ {i : Nat} {v : V}, vs[i]? = some v → ∃ d, ds[i]? = some d ∧ Dp K H v d
  | [], _, h, i, v, e => by cases h; exact nomatch e
  | d :: ds, _, h, i, v, e => by
    cases h with
    | cons a b =>
      cases i with
      | zero => exact ⟨d, rfl, Option.some.inj e ▸ a⟩
      | succ i => exact dps_at b e
theorem dps_at' : ∀ {ds : List PyData} {vs : List V}, DpAll K H vs ds → ∀ {i : Nat} {d : PyData}, ds[i]? = some d → ∃ v, vs[i]? = some v ∧ Dp K H v d
  | [], _, h, i, v, e => nomatch e
  | d :: ds, _, h, i, v, e => by
    cases h with
    | cons a b =>
      cases i with
      | zero => exact ⟨_, rfl, Option.some.inj e ▸ a⟩
      | succ i => exact dps_at' b e
end
/-! ### kinds -/
def tyOf : PyData → String
  | .none => "NoneType"
  | .bool _ => "bool"
  | .int _ => "int"
  | .str _ => "str"
  | .list _ => "list"
  | .tuple _ => "tuple"
  | .dict _ => "dict"
def isTup : PyData → Bool
  | .tuple _ => true
  | _ => false
def isStrD : PyData → Bool
  | .str _ => true
  | _ => false
def isIntD : PyData → Bool
  | .int _ => true
  | .bool _ => true
  | _ => false
def isBoolD : PyData → Bool
  | .bool _ => true
  | _ => false
theorem kit_tup (d : PyData) : kitB (tyOf d) "tuple" = some (isTup d) := by cases d <;> simp only [tyOf, isTup] <;> decide +kernel
theorem kit_str (d : PyData) : kitB (tyOf d) "str" = some (isStrD d) := by cases d <;> simp only [tyOf, isStrD] <;> decide +kernel
theorem kit_int (d : PyData) : kitB (tyOf d) "int" = some (isIntD d) := by cases d <;> simp only [tyOf, isIntD] <;> decide +kernel
theorem kit_bool (d : PyData) : kitB (tyOf d) "bool" = some (isBoolD d) := by cases d <;> simp only [tyOf, isBoolD] <;> decide +kernel
theorem dp_ty {K : PySem.W.Frag} {H : Hp} {v : V} {d : PyData} (h : Dp K H v d) : TyX K H v (.type (tyOf d)) := by
  cases h with
  | non => exact .base .non
  | bl b => exact .base (.bl b)
  | int i => exact .base (.int i)
  | str x => exact .base (.str x)
  | lst a b =>
    rcases a with (a | ⟨o, a⟩) | ⟨o, its, r, h1, h2, _⟩
    · exact .base (.lst a)
    · exact .base (.frz a)
    · exact .kList h1 h2
  | tup a b =>
    rcases a with (a | ⟨o, a⟩) | ⟨o, its, r, h1, h2, _⟩
    · exact .base (.tup a)
    · exact .fTuple a
    · exact .kTuple h1 h2
def rIsD (K : PySem.W.Frag) (T : String) (r : PyData → Bool) : List V → Hp → VK → Prop := fun xs H Q => ∃ v d, xs = [v, .ty T] ∧ Dp K H v d ∧ Q (.bl (r d)) H
theorem call_isD {X : Cx} {T : String} {r : PyData → Bool} (h : ∀ d, kitB (tyOf d) T = some (r d)) : CallR X (.builtin "isinstance") (rIsD X.K T r) := fun pins s σ H xs us Q I rx ⟨v, d, e, hd, q⟩ =>
  call_isi pins s σ H xs us Q I rx ⟨v, .ty T, _, _, r d, e, .ty T, dp_ty hd, kit_ty (h d), q⟩
/-! ### keys -/
mutual
def keyD : PyData → NestedKey
  | .none => .none
  | .bool b => .num (if b = true then 1 else 0)
  | .int i => .num i
  | .str x => .text x
  | .tuple ds => .tup (keysD ds)
  | .list _ => .none
  | .dict _ => .none
def keysD : List PyData → List NestedKey
  | [] => []
  | d :: ds => keyD d :: keysD ds
end
mutual
/-- can stand in a set -/
def hashable : PyData → Bool
  | .list _ => false
  | .dict _ => false
  | .tuple ds => hashables ds
  | .none => true
  | .bool _ => true
  | .int _ => true
  | .str _ => true
def hashables : List PyData → Bool
  | [] => true
  | d :: ds => hashable d && hashables ds
end
theorem keysD_map : ∀ ds : List PyData, keysD ds = ds.map keyD
  | [] => by rw [keysD]; rfl
  | d :: ds => by rw [keysD, keysD_map ds]; rfl
theorem hashables_all : ∀ ds : List PyData, hashables ds = ds.all hashable
  | [] => by rw [hashables]; rfl
  | d :: ds => by rw [hashables, hashables_all ds]; rfl
section
variable {X : Cx} {pins : List (Addr × Obj)} {σ : St} {H : Hp} {s : Shared}
mutual
theorem dp_key (I : Inv X pins σ H s) : ∀ (d : PyData) (v : V) (u : Value), hashable d = true → Dp X.K H v d → RelV v u → NestedIs s.heap (keyD d) u
  | .none, _, u, _, h, r => by
    cases h
    cases (show u = Value.none from r)
    rw [keyD]
    exact .none
  | .bool b, _, u, _, h, r => by
    cases h
    cases (show u = Value.bool b from r)
    rw [keyD]
    exact .bool rfl
  | .int i, _, u, _, h, r => by
    cases h
    obtain ⟨t, rfl⟩ := (show ∃ t, u = Value.int i t from r)
    rw [keyD]
    exact .int i t
  | .str x, _, u, _, h, r => by
    cases h
    obtain ⟨t, rfl⟩ := (show ∃ t, u = Value.str x t from r)
    rw [keyD]
    exact .text x t
  | .list ds, _, _, e, _, _ => by rw [hashable] at e; exact nomatch e
  | .dict ds, _, _, _, h, _ => nomatch h
  | .tuple ds, _, u, e, h, r => by
    cases h with
    | @tup a xs _ hT hA =>
      cases (show u = Value.ref a from r)
      obtain ⟨its, rv, ⟨o, ho, hc, n, hd⟩, hz⟩ := I.tuple hT
      rw [keyD]
      rw [hashable] at e
      exact .tup ho hc hd (by simpa using dps_key I ds xs its e hA rv)
theorem dps_key (I : Inv X pins σ H s) : ∀ (ds : List PyData) (vs : List V) (us : List Value), hashables ds = true → DpAll X.K H vs ds → Vals vs us → NestedAll s.heap (keysD ds) us
  | [], _, _, _, h, r => by
    cases h
    cases r
    rw [keysD]
    exact .nil
  | d :: ds, _, _, e, h, r => by
    rw [hashables, Bool.and_eq_true] at e
    cases h with
    | cons a b =>
      cases r with
      | cons r1 r2 =>
        rw [keysD]
        exact .cons (dp_key I d _ _ e.1 a r1) (dps_key I ds _ _ e.2 b r2)
end
end
/-! ### len(set(row)) -/
def rowOk (ds : List PyData) : Prop := (∃ xs : List Str, ds = xs.map PyData.str) ∨ (∀ d ∈ ds, isTup d = true ∧ hashable d = true ∧ (keyD d).depth ≤ 8)
def tLenSetD (K : PySem.W.Frag) (ta : TE) : TE := fun σ H Q => ta σ H fun x H1 => ∃ (ds : List PyData), Dp K H1 x (.tuple ds) ∧ ds.length < 60 ∧ rowOk ds ∧ ∀ n : Nat, (n = ds.length ↔ (ds.map keyD).Nodup) → Q (.int n) H1
theorem texts_nodup (xs : List Str) : ((xs.map PyData.str).map keyD).Nodup ↔ xs.Nodup := by
  induction xs with
  | nil => exact ⟨fun _ => List.nodup_nil, fun _ => List.nodup_nil⟩
  | cons x xs ih =>
    rw [List.map_cons, List.map_cons, List.nodup_cons, List.nodup_cons, ih]
    refine and_congr_left fun _ => not_congr ?_
    rw [List.map_map, List.mem_map]
    constructor
    · rintro ⟨y, hy, e⟩
      have e' : NestedKey.text y = NestedKey.text x := by simpa [keyD] using e
      injection e' with e''
      exact e'' ▸ hy
    · intro h
      exact ⟨x, h, rfl⟩
theorem set_texts {K : PySem.W.Frag} {H : Hp} : ∀ {xs : List Str} {vs : List V} {us : List Value}, DpAll K H vs (xs.map PyData.str) → Vals vs us → PyProof.Rows.StrsAre us xs
  | [], _, _, h, r => by
    cases h
    cases r
    exact .nil
  | x :: xs, _, _, h, r => by
    cases h with
    | cons a b =>
      cases a
      cases r with
      | cons r1 r2 =>
        obtain ⟨t, rfl⟩ := r1
        exact .cons x t (set_texts b r2)
theorem tup_refs {K : PySem.W.Frag} {H : Hp} : ∀ {ds : List PyData} {vs : List V} {us : List Value}, (∀ d ∈ ds, isTup d = true) → DpAll K H vs ds → Vals vs us → ∃ as : List Addr, us = as.map Value.ref ∧ as.length = ds.length
  | [], _, _, _, h, r => by
    cases h
    cases r
    exact ⟨[], rfl, rfl⟩
  | d :: ds, _, _, q, h, r => by
    cases h with
    | cons a b =>
      cases r with
      | cons r1 r2 =>
        obtain ⟨as, e, l⟩ := tup_refs (fun d' hd' => q d' (List.mem_cons_of_mem _ hd')) b r2
        have qd := q d List.mem_cons_self
        cases a with
        | @tup a xs ds' h1 h2 =>
          cases r1
          exact ⟨a :: as, by rw [e]; rfl, by rw [List.length_cons, List.length_cons, l]⟩
        | non => exact nomatch qd
        | bl => exact nomatch qd
        | int => exact nomatch qd
        | str => exact nomatch qd
        | lst => exact nomatch qd
theorem nested_at {h : Heap} : ∀ {ks : List NestedKey} {as : List Addr}, NestedAll h ks (as.map Value.ref) → ∀ p ∈ ks.zip as, NestedIs h p.1 (.ref p.2)
  | [], as, _, p, hp => by simp at hp
  | k :: ks, [], x, p, hp => by simp at hp
  | k :: ks, a :: as, x, p, hp => by
    cases x with
    | cons h1 h2 =>
      rw [List.zip_cons_cons] at hp
      rcases List.mem_cons.mp hp with rfl | z
      · exact h1
      · exact nested_at h2 p z
section
variable {X : Cx}
theorem pe_lenSetD {a : Expr} {ta : TE} {p p2 q pos : Pos} (hc : X.calm = true) (hu : X.A.units + 64 < cLine) (hg : Gl X "len") (hm : X.mg "len" = none) (hg2 : Gl X "set") (hm2 : X.mg "set" = none) (ha : PE X a ta)
    (na : starEach [a] X.env = (false, eval a X.env) :: starEach [] X.env := by rfl) : PE X (.Call (.Name "len" p) [.Call (.Name "set" p2) [a] [] q] [] pos) (tLenSetD X.K ta) := by
  refine ⟨fun pins s σ H Q I h => ?_⟩
  refine PyProof.Rows.Call_ (ld_blt I hg hm PySem.boot_len ?_)
  refine PyProof.Rows.callWith_builtin1 (PyProof.Rows.args_cons ?_ rfl) rfl rfl
  refine PyProof.Rows.Call_ (ld_blt I hg2 hm2 PyProof.Rows.boot_set ?_)
  refine PyProof.Rows.callWith_type1 (PyProof.Rows.args_cons (thn (ha.run pins s σ H _ I h) fun v s1 ⟨x, H1, I1, r1, q1⟩ => PyProof.Rows.args_nil ?_) na) na rfl
  obtain ⟨ds, hd, hlen, hok, q1⟩ := q1
  cases hd with
  | @tup l vs _ hT hA =>
    cases (show v = Value.ref l from r1)
    obtain ⟨its, rv, pl, hz⟩ := I1.tuple hT
    have hl : its.toArray.size = ds.length := by rw [List.size_toArray, ← rv.length, dps_len hA]
    rcases hok with ⟨xs, rfl⟩ | hk
    · rw [List.length_map] at hl hlen
      refine Sn.call_set_tuple (I1.ok.hd hc) pl (Sn.grow_texts (xs := xs) (by simpa using set_texts hA rv) (by unfold scanBound; omega)) fun h' tk ⟨D, N, Hs⟩ keep => ?_
      obtain ⟨ob, es, ep, tb, hob, hex, hdt, _, _, hsz, hbd, hfit, _, _⟩ := N
      refine PyProof.Rows.args_nil ?_
      have I2 : Inv X pins σ H1 { s1 with heap := h', toks := tk } := I1.kept keep
      refine call_len_set hob hex hdt hfit (by rw [hsz]; have := Hs.few; omega) ⟨.int es.size, H1, I2.tok _, ⟨_, rfl⟩, q1 es.size ?_⟩
      rw [hsz, List.length_map, texts_nodup]
      refine Sn.different Hs.nd (fun y hy => ?_) fun y hy => ?_
      · exact List.mem_of_mem_take (Hs.sub y hy)
      · refine Hs.cov y ?_
        rw [hl, List.take_length]
        exact hy
    · obtain ⟨as, rfl, la⟩ := tup_refs (fun d hd => (hk d hd).1) hA rv
      have hn := dps_key I1 ds vs _ (by rw [hashables_all, List.all_eq_true]; exact fun d hd => (hk d hd).2.1) hA rv
      rw [keysD_map] at hn
      have lk : (ds.map keyD).length = as.length := by rw [List.length_map, la]
      have ef : ((ds.map keyD).zip as).map Prod.fst = ds.map keyD := List.map_fst_zip (Nat.le_of_eq lk)
      have es2 : ((ds.map keyD).zip as).map (fun p => Value.ref p.2) = as.map Value.ref := by
        have e2 : ((ds.map keyD).zip as).map Prod.snd = as := List.map_snd_zip (Nat.le_of_eq lk.symm)
        have e3 := congrArg (List.map Value.ref) e2
        rw [List.map_map] at e3
        exact e3
      have lz : ((ds.map keyD).zip as).length = ds.length := by
        have := congrArg List.length ef
        rw [List.length_map, List.length_map] at this
        exact this
      refine Sn.call_set_tuple (I1.ok.hd hc) pl (Sn.grow_keys (ks := (ds.map keyD).zip as) (by rw [es2]) (fun p hp => ⟨nested_at hn p hp, ?_⟩) (by omega) (by omega)) fun h' tk ⟨L, es, ep, t, R, sub, Hs⟩ keep => ?_
      · obtain ⟨d, hd, e⟩ := List.mem_map.mp (List.of_mem_zip hp).1
        rw [← e]
        exact (hk d hd).2.2
      obtain ⟨o, ho, hex, hdt⟩ := R.here
      have hsz := Sn.lines_size R.rows
      refine PyProof.Rows.args_nil ?_
      have I2 : Inv X pins σ H1 { s1 with heap := h', toks := tk } := I1.kept keep
      have few := R.few
      refine call_len_set ho hex hdt (Sn.SetK.fits (s := { s1 with heap := h', toks := tk }) R) (by rw [hsz]; omega) ⟨.int es.size, H1, I2.tok _, ⟨_, rfl⟩, q1 es.size ?_⟩
      rw [ef] at Hs
      have e5 := Sn.different Hs.nd (fun y hy => List.mem_of_mem_take (Hs.sub y hy)) (fun y hy => Hs.cov y (by rw [hl, List.take_of_length_le (by rw [List.length_map]; exact Nat.le_refl _)]; exact hy))
      rw [List.length_map, List.length_map] at e5
      rw [hsz]
      exact e5
end
end Kd
/-! is_whole, is_nest_number, is_row, _is_side_of, is_nest_name: of any data -/
namespace Kd
open PySem L2 Lo
def LET : Str := "abcdefghijklmnopqrstuvwxyz"
def SIG : Str := "abcdefghijklmnopqrstuvwxyz0123456789_"
def resv : List Str := ["sizes", "given", "room", "keep", "up", "down", "from", "to", "when", "and"]
/-- a def whose code object stands at c -/
structure FunC (K : PySem.W.Frag) (x qual : Str) (st : Stmt) (f : Addr) (fd : FuncData) (c : Addr) : Prop where
  ex : ∃ (oc : Value) (od : Option Addr) (kV doc pm : Value) (an : Option Addr) (ct : Value) (osl : Array (Option Value)),
    fd = PySem.W.fnOf x qual (defArgs st) (defBody st) (defScope st) .none kV doc pm an (.ref c) ct ∧ K.lookup f = some ⟨oc, od, .func fd, osl⟩ ∧ PySem.W.codeIn K (.ref c) qual = true
  kp : PySem.W.keepIn K (.ref f) = true
theorem inV_strs (x : Str) : ∀ zs : List Str, inV (.str x) (zs.map V.str) = decide (x ∈ zs)
  | [] => by simp [inV]
  | z :: zs => by
    have ih := inV_strs x zs
    unfold inV at ih ⊢
    rw [List.map_cons, List.any_cons, ih]
    show ((z == x) || decide (x ∈ zs)) = decide (x ∈ z :: zs)
    by_cases e : z = x
    · subst e
      simp
    · have e' : (z == x) = false := by simpa using e
      rw [e', Bool.false_or]
      have : (x ∈ z :: zs) ↔ x ∈ zs := by
        rw [List.mem_cons]
        exact ⟨fun h => h.resolve_left fun y => e y.symm, .inr⟩
      rw [decide_eq_decide.mpr this]
theorem flat_strs : ∀ ns : List Str, (ns.map V.str).all flatV = true
  | [] => rfl
  | n :: ns => by
    rw [List.map_cons, List.all_cons, flat_strs ns]
    rfl
/-! ### what they answer -/
def pWhole (d : PyData) : Bool := isIntD d && !isBoolD d
def pNum (d : PyData) : Bool := match d with
  | .int i => decide (-9999 ≤ i) && decide (i ≤ 9999)
  | _ => false
def pRow (a b : Int) (d : PyData) : Bool := match d with
  | .tuple ds => decide (a ≤ (ds.length : Nat)) && decide (((ds.length : Nat) : Int) ≤ b)
  | _ => false
def pSide (ns : List Str) (d : PyData) : Bool := match d with
  | .str x => decide (x = "0") || decide (x ∈ ns)
  | _ => false
def nestName (x : Str) : Bool := match x.cps.toList with
  | [] => false
  | c :: cs => decide (x.length ≤ 12) && !decide (x ∈ resv) && decide (c ∈ LET.cps.toList) && (c :: cs).all fun c => decide (c ∈ SIG.cps.toList)
def pName (d : PyData) : Bool := match d with
  | .str x => nestName x
  | _ => false
/-- the texts within are no longer than the line -/
def txtOk (d : PyData) : Prop := match d with
  | .str x => x.length ≤ 1000
  | _ => True
section
variable {P : Program} {w : World} {K : PySem.W.Frag} {mg : Str → Option Value} {base : Heap}
theorem FunC.ok {x qual : Str} {st : Stmt} {f c : Addr} {fd : FuncData} {N ps : List Str} {k : Nat} {sp : Sp} (F : FunC K x qual st f fd c) (S : FnScope N ps (defScope st)) (len : ∀ vs H Q E, sp vs H Q E → vs.length = ps.length)
    (hbody : ∀ (A : Around) (outer : List Env) (s : Shared) (H : Hp) (vs : List V) (Q : VK) (E : XK), Room k (A.deeper (PyProof.Rows.envOfC qual (defScope st) s.heap.objs.size f (.ref c))) → sp vs H Q E →
      ∃ t, PSs (cxOf CX0 P w K mg base N qual (defScope st) f (.ref c) A outer s H E).nox (defBody st) t ∧ t { nx := fun _ H' => Q .non H', rt := Q } (start N vs) H) : FnOk P w K mg base CX0 (k + 1) f fd ps sp := by
  obtain ⟨oc, od, kV, doc, pm, an, ct, osl, rfl, lk, hcd⟩ := F.ex
  refine fn_of lk hcd S len fun A outer s H vs Q E hr hsp => ?_
  obtain ⟨t, h, q⟩ := hbody A outer s H vs Q E hr hsp
  exact ⟨t, h.nox, q⟩
/-- the same for a def that may raise -/
theorem FunC.okX {x qual : Str} {st : Stmt} {f c : Addr} {fd : FuncData} {N ps : List Str} {k : Nat} {sp : Sp} (F : FunC K x qual st f fd c) (S : FnScope N ps (defScope st)) (len : ∀ vs H Q E, sp vs H Q E → vs.length = ps.length)
    (hbody : ∀ (A : Around) (outer : List Env) (s : Shared) (H : Hp) (vs : List V) (Q : VK) (E : XK), Room k (A.deeper (PyProof.Rows.envOfC qual (defScope st) s.heap.objs.size f (.ref c))) → sp vs H Q E →
      ∃ t, PSs (cxOf (L2.CX P w) P w K mg base N qual (defScope st) f (.ref c) A outer s H E) (defBody st) t ∧ t { nx := fun _ H' => Q .non H', rt := Q } (start N vs) H) : FnOk P w K mg base (L2.CX P w) (k + 1) f fd ps sp := by
  obtain ⟨oc, od, kV, doc, pm, an, ct, osl, rfl, lk, hcd⟩ := F.ex
  exact fn_of lk hcd S len fun A outer s H vs Q E hr hsp => hbody A outer s H vs Q E hr hsp
/-- what the top has left -/
structure CstN (K : PySem.W.Frag) (mg : Str → Option Value) (aR : Addr) : Prop where
  let_ : ∃ t, mg "LETTERS" = some (.str LET t)
  sig_ : ∃ t, mg "SIGNS" = some (.str SIG t)
  res : mg "RESERVED" = some (.ref aR)
  resT : ∀ H : Hp, SqT K H aR (resv.map V.str)
/-! ### is_whole, is_nest_number, is_row, _is_side_of -/
def spWhole (K : PySem.W.Frag) : Sp := fun vs H Q _ => ∃ (v : V) (d : PyData), vs = [v] ∧ Dp K H v d ∧ Q (.bl (pWhole d)) H
theorem scWhole : FnScope ["thing"] ["thing"] (defScope sIsWhole) := ⟨rfl, rfl, rfl, by decide +kernel, rfl, by decide +kernel, by decide +kernel⟩
theorem ok_whole {f : Addr} {fd : FuncData} (F : Fun K "is_whole" "is_whole" sIsWhole f fd) (T : Blt mg) : FnOk P w K mg base CX0 1 f fd ["thing"] (spWhole K) := by
  refine F.ok scWhole (fun vs H Q E h => ?_) (fun cdv A outer s H vs Q E hr h => ?_)
  · obtain ⟨v, d, rfl, _⟩ := h
    rfl
  · obtain ⟨v, d, rfl, hd, q⟩ := h
    refine ⟨_, pss_one (ps_ret (pe_and (pe_callB (call_isD kit_int) (by rfl) T.isi PyProof.Rows.boot_isinstance (pa_cons (pv 0) (pa_cons (pe_bltn (v := .ty "int") rfl T.int PyProof.Rows.boot_int rfl) pa_nil)))
      (pe_one (pe_not (pe_callB (call_isD kit_bool) (by rfl) T.isi PyProof.Rows.boot_isinstance (pa_cons (pv 0) (pa_cons (pe_bltn (v := .ty "bool") rfl T.bool PyProof.Rows.boot_bool rfl) pa_nil))))))), ?_⟩
    refine ⟨_, rfl, v, d, rfl, hd, isIntD d, rfl, ?_⟩
    unfold pWhole at q
    cases e : isIntD d with
    | false =>
      rw [e] at q
      exact iteF q
    | true =>
      rw [e, Bool.true_and] at q
      exact iteT ⟨_, rfl, v, d, rfl, hd, isBoolD d, rfl, q⟩
def spNestNumber (K : PySem.W.Frag) : Sp := fun vs H Q _ => ∃ (v : V) (d : PyData), vs = [v] ∧ Dp K H v d ∧ Q (.bl (pNum d)) H
theorem scNestNumber : FnScope ["thing"] ["thing"] (defScope sIsNestNumber) := ⟨rfl, rfl, rfl, by decide +kernel, rfl, by decide +kernel, by decide +kernel⟩
theorem ok_nestnumber {f fW : Addr} {fd fdW : FuncData} {t : Nat} (F : Fun K "is_nest_number" "is_nest_number" sIsNestNumber f fd) (hn : mg "MOST_NUMBER" = some (.int 9999 t)) (GW : FnOk P w K mg base CX0 1 fW fdW ["thing"] (spWhole K)) (kW : PySem.W.keepIn K (.ref fW) = true) (bW : Binds K fdW ["thing"] []) (gW : mg "is_whole" = some (.ref fW)) : FnOk P w K mg base CX0 2 f fd ["thing"] (spNestNumber K) := by
  refine F.ok scNestNumber (fun vs H Q E h => ?_) (fun cdv A outer s H vs Q E hr h => ?_)
  · obtain ⟨v, d, rfl, _⟩ := h
    rfl
  · obtain ⟨v, d, rfl, hd, q⟩ := h
    refine ⟨_, pss_one (ps_ret (pe_and (pe_call GW hr (by rfl) gW kW bW .nil pass0 (pa_cons (pv 0) pa_nil))
      (pe_one (pe_chain op_le op_le (pe_un un_neg (pe_glob (v := .int 9999) (by rfl) hn ⟨_, rfl⟩)) (pv 0) (pe_glob (v := .int 9999) (by rfl) hn ⟨_, rfl⟩))))), ?_⟩
    refine ⟨_, rfl, v, d, rfl, hd, pWhole d, rfl, ?_⟩
    cases hd with
    | int i =>
      refine iteT ⟨_, rfl, _, rfl, _, _, rfl, rfl, _, rfl, ?_⟩
      show if decide (-(9999 : Int) ≤ i) = true then _ else _
      have q' : Q (.bl (decide (-9999 ≤ i) && decide (i ≤ 9999))) H := q
      cases e : decide (-(9999 : Int) ≤ i) with
      | false =>
        rw [e] at q'
        exact iteF q'
      | true =>
        rw [e, Bool.true_and] at q'
        exact iteT ⟨_, _, rfl, rfl, q'⟩
    | bl b => exact iteF q
    | non => exact iteF q
    | str x => exact iteF q
    | lst a b => exact iteF q
    | tup a b => exact iteF q
def spIsRow (K : PySem.W.Frag) : Sp := fun vs H Q _ => ∃ (v : V) (d : PyData) (a b : Int), vs = [v, .int a, .int b] ∧ Dp K H v d ∧ Q (.bl (pRow a b d)) H
theorem scIsRow : FnScope ["thing", "least", "most"] ["thing", "least", "most"] (defScope sIsRow) := ⟨rfl, rfl, rfl, by decide +kernel, rfl, by decide +kernel, by decide +kernel⟩
theorem ok_isrow {f : Addr} {fd : FuncData} (F : Fun K "is_row" "is_row" sIsRow f fd) (T : Blt mg) : FnOk P w K mg base CX0 1 f fd ["thing", "least", "most"] (spIsRow K) := by
  refine F.ok scIsRow (fun vs H Q E h => ?_) (fun cdv A outer s H vs Q E hr h => ?_)
  · obtain ⟨p, xs, a, b, rfl, _⟩ := h
    rfl
  · obtain ⟨v, d, a, b, rfl, hd, q⟩ := h
    refine ⟨_, pss_one (ps_ret (pe_and (pe_callB (call_isD kit_tup) (by rfl) T.isi PyProof.Rows.boot_isinstance (pa_cons (pv 0) (pa_cons (pe_bltn (v := .ty "tuple") rfl T.tuple PyProof.Rows.boot_tuple rfl) pa_nil)))
      (pe_one (pe_chain op_le op_le (pv 1) (pe_callB call_len_seq (by rfl) T.len PySem.boot_len (pa_cons (pv 0) pa_nil)) (pv 2))))), ?_⟩
    refine ⟨_, rfl, v, d, rfl, hd, isTup d, rfl, ?_⟩
    cases hd with
    | @tup p xs ds hp hA =>
      have hl := dps_len hA
      have q' : Q (.bl (decide (a ≤ (xs.length : Nat)) && decide (((xs.length : Nat) : Int) ≤ b))) H := by
        rw [hl]
        exact q
      refine iteT ⟨_, rfl, _, rfl, p, xs, rfl, .inr hp, _, _, rfl, rfl, _, rfl, ?_⟩
      cases e : decide (a ≤ (xs.length : Int)) with
      | false =>
        rw [e] at q'
        exact iteF q'
      | true =>
        rw [e, Bool.true_and] at q'
        exact iteT ⟨_, rfl, _, _, rfl, rfl, q'⟩
    | bl b => exact iteF q
    | non => exact iteF q
    | str x => exact iteF q
    | lst a b => exact iteF q
    | int i => exact iteF q
/-- a name of the scope, or "0" -/
def spIsSide (K : PySem.W.Frag) : Sp := fun vs H Q _ => ∃ (v : V) (d : PyData) (sc : Addr) (ns : List Str), vs = [v, .ref sc] ∧ Dp K H v d ∧ SqT K H sc (ns.map V.str) ∧ Q (.bl (pSide ns d)) H
theorem scIsSide : FnScope ["thing", "scope"] ["thing", "scope"] (defScope sIsSideOf) := ⟨rfl, rfl, rfl, by decide +kernel, rfl, by decide +kernel, by decide +kernel⟩
theorem ok_isside {f : Addr} {fd : FuncData} (F : Fun K "_is_side_of" "_is_side_of" sIsSideOf f fd) (T : Blt mg) : FnOk P w K mg base CX0 1 f fd ["thing", "scope"] (spIsSide K) := by
  refine F.ok scIsSide (fun vs H Q E h => ?_) (fun cdv A outer s H vs Q E hr h => ?_)
  · obtain ⟨x, d, sc, ns, rfl, _⟩ := h
    rfl
  · obtain ⟨v, d, sc, ns, rfl, hd, hs, q⟩ := h
    refine ⟨_, pss_one (ps_ret (pe_and (pe_callB (call_isD kit_str) (by rfl) T.isi PyProof.Rows.boot_isinstance (pa_cons (pv 0) (pa_cons (pe_bltn (v := .ty "str") rfl T.str PyProof.Rows.boot_str rfl) pa_nil)))
      (pe_one (pe_or (pe_cmpR op_eq (pv 0) pe_str (nomark _)) (pe_one (pe_cmpR op_in_seq (pv 0) (pv 1) (by rfl))))))), ?_⟩
    refine ⟨_, rfl, v, d, rfl, hd, isStrD d, rfl, ?_⟩
    cases hd with
    | str x =>
      refine iteT ⟨_, rfl, rfl, _, rfl, ?_⟩
      have q' : Q (.bl (decide (x = "0") || decide (x ∈ ns))) H := q
      have e0 : decide (V.str x = V.str "0") = decide (x = "0") := decide_eq_decide.mpr ⟨fun z => V.str.inj z, fun z => by rw [z]⟩
      rw [e0]
      cases e : decide (x = "0") with
      | true =>
        rw [e, Bool.true_or] at q'
        exact iteT q'
      | false =>
        rw [e, Bool.false_or] at q'
        refine iteF ⟨_, rfl, _, rfl, sc, _, rfl, .inr hs, rfl, flat_strs ns, ?_⟩
        rw [inV_strs]
        exact q'
    | bl b => exact iteF q
    | non => exact iteF q
    | int x => exact iteF q
    | lst a b => exact iteF q
    | tup a b => exact iteF q
/-! ### is_nest_name -/
def spNestName (K : PySem.W.Frag) (T : Addr) : Sp := fun vs H Q _ => ∃ (v : V) (d : PyData), vs = [v] ∧ Dp K H v d ∧ txtOk d ∧ GxR.TabG H T ∧ ∀ H', SameG H H' → Q (.bl (pName d)) H'
abbrev nNestName : List Str := ["thing", "sign"]
theorem scNestName : FnScope nNestName ["thing"] (defScope sIsNestName) := ⟨rfl, rfl, rfl, by decide +kernel, rfl, by decide +kernel, by decide +kernel⟩
theorem name_none {x : Str} (h : x.cps.toList = []) : nestName x = false := by
  unfold nestName
  rw [h]
theorem name_some {x : Str} {c : Nat} {cs : List Nat} (h : x.cps.toList = c :: cs) : nestName x = (decide (x.length ≤ 12) && !decide (x ∈ resv) && decide (c ∈ LET.cps.toList) && x.cps.toList.all fun c => decide (c ∈ SIG.cps.toList)) := by
  unfold nestName
  rw [h]
theorem ok_nestname {f c T aR : Addr} {fd : FuncData} (F : FunC K "is_nest_name" "is_nest_name" sIsNestName f fd c) (B : Blt mg) (hall : mg "all" = none) (C : CstN K mg aR) (TB : GxR.TabB base mg c T) : FnOk P w K mg base CX0 2 f fd ["thing"] (spNestName K T) := by
  refine F.ok scNestName (fun vs H Q E h => ?_) (fun A outer s H vs Q E hr h => ?_)
  · obtain ⟨x, d, rfl, _⟩ := h
    rfl
  · obtain ⟨v, d, rfl, hd, htx, hT, q⟩ := h
    have nd := scNestName.nd
    obtain ⟨tL, gL⟩ := C.let_
    obtain ⟨tS, gS⟩ := C.sig_
    refine ⟨_, pss_cons (ps_if (PW.pt (pw_or (pt_not (pt_val (pe_callB (call_isD kit_str) (by rfl) B.isi PyProof.Rows.boot_isinstance (pa_cons (pv 0) (pa_cons (pe_bltn (v := .ty "str") rfl B.str PyProof.Rows.boot_str rfl) pa_nil)))))
        (pw_or (pt_not (pt_chain op_le op_le pe_int (pe_callB call_len_str (by rfl) B.len PySem.boot_len (pa_cons (pv 0) pa_nil)) pe_int))
          (pw_or1 (pt_cmpR op_in_seq (pv 0) (pe_glob (v := .ref aR) (by rfl) C.res rfl) (by rfl)))))) (pss_one (ps_ret pe_bl)) pss_nil)
      (pss_one (ps_ret (pe_and (pe_cmpR op_in_sign (pe_ix ix_str (pv 0) pe_int (fun _ _ => rfl)) (pe_glob (v := .str LET) (by rfl) gL ⟨_, rfl⟩) (by rfl))
        (pe_one (GxC.pe_allG (k := 0) (own := [("sign", 1)]) (g := gName 1) hr rfl nd (by rfl) hall PyProof.Rows.boot_all TB rfl (pi_str (pv 0)) (blkOk_by (N := nNestName) (sc := defScope sIsNestName) (by decide +kernel))
          (fun _ _ _ _ _ _ _ _ => pg_name (i := 1) nd rfl (.inl rfl)) (fun _ _ _ _ _ _ _ _ => pe_cmpR op_in_sign (pv 1) (pe_glob (v := .str SIG) (by rfl) gS ⟨_, rfl⟩) (by rfl)) (fun _ => rfl)))))), ?_⟩
    refine ⟨_, rfl, v, d, rfl, hd, isStrD d, rfl, ?_⟩
    have q0 := q H (SameG.refl H)
    cases hd with
    | bl b => exact iteT q0
    | non => exact iteT q0
    | int x => exact iteT q0
    | lst a b => exact iteT q0
    | tup a b => exact iteT q0
    | str x =>
      have hlen : x.length ≤ sizeLine := Nat.le_trans htx (by decide)
      have q1 : ∀ H', SameG H H' → Q (.bl (nestName x)) H' := q
      refine iteF ⟨_, rfl, x, rfl, hlen, _, _, rfl, rfl, _, rfl, ?_⟩
      have hsz : x.length = x.cps.toList.length := (Array.length_toList ..).symm
      cases e : x.cps.toList with
      | nil =>
        rw [name_none e] at q1
        have : x.length = 0 := by rw [hsz, e]; rfl
        rw [this]
        exact iteF ⟨false, rfl, iteT (iteT (q1 H (SameG.refl H)))⟩
      | cons c0 rest =>
        rw [name_some e] at q1
        have pos : 1 ≤ x.length := by rw [hsz, e, List.length_cons]; omega
        rw [show decide ((1 : Int) ≤ (x.length : Nat)) = true from decide_eq_true (by omega)]
        refine iteT ⟨_, _, rfl, rfl, _, rfl, ?_⟩
        by_cases few : x.length ≤ 12
        · rw [show decide (((x.length : Nat) : Int) ≤ 12) = true from decide_eq_true (by omega)]
          rw [decide_eq_true few, Bool.true_and] at q1
          refine iteF ⟨_, rfl, aR, _, rfl, .inr (C.resT H), rfl, by decide +kernel, ?_⟩
          rw [inV_strs]
          refine ⟨_, rfl, ?_⟩
          by_cases rs : x ∈ resv
          · rw [decide_eq_true rs]
            rw [decide_eq_true rs] at q1
            exact iteT (q1 H (SameG.refl H))
          rw [decide_eq_false rs]
          rw [decide_eq_false rs, Bool.not_false, Bool.true_and] at q1
          refine iteF ⟨_, rfl, x, 0, c0, rfl, rfl, hlen, by rw [e]; exact atI_nat (j := 0) rfl, c0, LET, rfl, rfl, ?_⟩
          by_cases lt : c0 ∈ LET.cps.toList
          · rw [decide_eq_true lt]
            rw [decide_eq_true lt, Bool.true_and] at q1
            refine ⟨true, rfl, iteT ⟨_, rfl, x, rfl, hT, fun H2 h2 => ?_⟩⟩
            have sg := SameG.tabbed hT h2
            refine ⟨fun i m H' => m = x.cps.size - i ∧ H' = H2 ∧ ∀ c ∈ x.cps.toList.take i, c ∈ SIG.cps.toList, ⟨x.cps.size, by simp, rfl, fun c hc => by simp at hc⟩, ?_⟩
            rintro i m H' ⟨rfl, rfl, done⟩
            by_cases k : i < x.cps.size
            · refine .inr ⟨k, fun H'' => H'' = H' ∧ ∀ c ∈ x.cps.toList.take (i + 1), c ∈ SIG.cps.toList, fun H'' ⟨e2, dn⟩ => ⟨x.cps.size - (i + 1), by omega, rfl, e2, dn⟩, ?_⟩
              rintro y H'' ⟨rfl, c1, hc1, rfl⟩
              have eg : x.cps.toList[i]? = some c1 := (Array.getElem?_toList (xs := x.cps) (i := i)).trans hc1
              refine ⟨rfl, _, rfl, c1, SIG, rfl, rfl, _, rfl, fun z => ⟨rfl, fun c hc => ?_⟩, fun z => ?_⟩
              · rw [List.take_add_one, eg] at hc
                rcases List.mem_append.mp hc with hc | hc
                · exact done c hc
                · rw [Option.toList_some, List.mem_singleton] at hc
                  rw [hc]
                  exact of_decide_eq_true z
              · have : (x.cps.toList.all fun c => decide (c ∈ SIG.cps.toList)) = false := by
                  rw [List.all_eq_false]
                  exact ⟨c1, List.mem_of_getElem? eg, by rw [z]; decide⟩
                rw [this] at q1
                exact q1 _ sg
            · refine .inl ⟨by show x.cps.size ≤ i; omega, ?_⟩
              have : (x.cps.toList.all fun c => decide (c ∈ SIG.cps.toList)) = true := by
                rw [List.all_eq_true]
                intro c hc
                refine decide_eq_true (done c ?_)
                rw [List.take_of_length_le (by rw [Array.length_toList]; omega)]
                exact hc
              rw [this] at q1
              exact q1 _ sg
          · rw [decide_eq_false lt]
            rw [decide_eq_false lt, Bool.false_and] at q1
            exact ⟨false, rfl, iteF (q1 H (SameG.refl H))⟩
        · rw [show decide (((x.length : Nat) : Int) ≤ 12) = false from decide_eq_false (by omega)]
          rw [decide_eq_false few] at q1
          exact iteT (iteT (q1 H (SameG.refl H)))
end
end Kd
/-! is_atom_of, is_difference_of, are_atoms: of any data -/
namespace Kd
open PySem L2 Lo
def pAtom (ns : List Str) (d : PyData) : Bool := match d with
  | .tuple [n, i] => pSide ns n && pNum i
  | _ => false
def neD (a b : PyData) : Bool := match a, b with
  | .str x, .str y => !decide (x = y)
  | _, _ => true
def pDiff (ns : List Str) (d : PyData) : Bool := match d with
  | .tuple [l, r, i] => pSide ns l && (pSide ns r && (neD l r && pNum i))
  | _ => false
def pAtoms (ns : List Str) (m : Int) (d : PyData) : Bool := match d with
  | .tuple ds => decide (((ds.length : Nat) : Int) ≤ m) && ds.all (pAtom ns)
  | _ => false
theorem side_str {ns : List Str} {d : PyData} (h : pSide ns d = true) : ∃ x, d = .str x := by
  cases d with
  | str x => exact ⟨x, rfl⟩
  | _ => exact nomatch h
/-- two things -/
theorem row_two {d : PyData} (h : pRow 2 2 d = true) : ∃ a b, d = .tuple [a, b] := by
  cases d with
  | tuple ds =>
    have h' : (decide ((2 : Int) ≤ (ds.length : Nat)) && decide (((ds.length : Nat) : Int) ≤ 2)) = true := h
    rw [Bool.and_eq_true, decide_eq_true_eq, decide_eq_true_eq] at h'
    match ds, h' with
    | [a, b], _ => exact ⟨a, b, rfl⟩
    | [], h' => simp at h'
    | [a], h' => simp at h'
    | a :: b :: c :: r, h' =>
      simp only [List.length_cons] at h'
      omega
  | _ => exact nomatch h
theorem row_three {d : PyData} (h : pRow 3 3 d = true) : ∃ a b c, d = .tuple [a, b, c] := by
  cases d with
  | tuple ds =>
    have h' : (decide ((3 : Int) ≤ (ds.length : Nat)) && decide (((ds.length : Nat) : Int) ≤ 3)) = true := h
    rw [Bool.and_eq_true, decide_eq_true_eq, decide_eq_true_eq] at h'
    match ds, h' with
    | [a, b, c], _ => exact ⟨a, b, c, rfl⟩
    | [], h' => simp at h'
    | [a], h' => simp at h'
    | [a, b], h' => simp at h'
    | a :: b :: c :: e :: r, h' =>
      simp only [List.length_cons] at h'
      omega
  | _ => exact nomatch h
theorem atom_row {ns : List Str} {d : PyData} (h : pRow 2 2 d = false) : pAtom ns d = false := by
  cases d with
  | tuple ds =>
    match ds with
    | [a, b] => exact absurd h (by simp [pRow])
    | [] => rfl
    | [a] => rfl
    | a :: b :: c :: r => rfl
  | _ => rfl
theorem diff_row {ns : List Str} {d : PyData} (h : pRow 3 3 d = false) : pDiff ns d = false := by
  cases d with
  | tuple ds =>
    match ds with
    | [a, b, c] => exact absurd h (by simp [pRow])
    | [] => rfl
    | [a] => rfl
    | [a, b] => rfl
    | a :: b :: c :: e :: r => rfl
  | _ => rfl
theorem dp_pair {K : PySem.W.Frag} {H : Hp} {v : V} {a b : PyData} (h : Dp K H v (.tuple [a, b])) : ∃ p x y, v = .ref p ∧ SqT K H p [x, y] ∧ Dp K H x a ∧ Dp K H y b := by
  cases h with
  | tup hp hA =>
    cases hA with
    | cons h1 hA =>
      cases hA with
      | cons h2 hA =>
        cases hA
        exact ⟨_, _, _, rfl, hp, h1, h2⟩
theorem dp_three {K : PySem.W.Frag} {H : Hp} {v : V} {a b c : PyData} (h : Dp K H v (.tuple [a, b, c])) : ∃ p x y z, v = .ref p ∧ SqT K H p [x, y, z] ∧ Dp K H x a ∧ Dp K H y b ∧ Dp K H z c := by
  cases h with
  | tup hp hA =>
    cases hA with
    | cons h1 hA =>
      cases hA with
      | cons h2 hA =>
        cases hA with
        | cons h3 hA =>
          cases hA
          exact ⟨_, _, _, _, rfl, hp, h1, h2, h3⟩
/-- an `and`'s answer -/
theorem and_q {Q : VK} {H : Hp} {a b : Bool} {R : Prop} (q : Q (.bl (a && b)) H) (h : Q (.bl b) H → R) : if a = true then R else Q (.bl false) H := by
  cases a with
  | false => exact iteF q
  | true => exact iteT (h q)
section
variable {P : Program} {w : World} {K : PySem.W.Frag} {mg : Str → Option Value} {base : Heap}
def spIsAtom (K : PySem.W.Frag) : Sp := fun vs H Q _ => ∃ (v : V) (d : PyData) (sc : Addr) (ns : List Str), vs = [v, .ref sc] ∧ Dp K H v d ∧ SqT K H sc (ns.map V.str) ∧ Q (.bl (pAtom ns d)) H
abbrev nIsAtom : List Str := ["thing", "scope", "name", "shift"]
theorem scIsAtom : FnScope nIsAtom ["thing", "scope"] (defScope sIsAtomOf) := ⟨rfl, rfl, rfl, by decide +kernel, rfl, by decide +kernel, by decide +kernel⟩
theorem ok_isatom {f fR fS fN : Addr} {fd fdR fdS fdN : FuncData} (F : Fun K "is_atom_of" "is_atom_of" sIsAtomOf f fd)
    (GR : FnOk P w K mg base CX0 1 fR fdR ["thing", "least", "most"] (spIsRow K)) (kR : PySem.W.keepIn K (.ref fR) = true) (bR : Binds K fdR ["thing", "least", "most"] []) (gR : mg "is_row" = some (.ref fR))
    (GS : FnOk P w K mg base CX0 1 fS fdS ["thing", "scope"] (spIsSide K)) (kS : PySem.W.keepIn K (.ref fS) = true) (bS : Binds K fdS ["thing", "scope"] []) (gS : mg "_is_side_of" = some (.ref fS))
    (GN : FnOk P w K mg base CX0 2 fN fdN ["thing"] (spNestNumber K)) (kN : PySem.W.keepIn K (.ref fN) = true) (bN : Binds K fdN ["thing"] []) (gN : mg "is_nest_number" = some (.ref fN)) :
    FnOk P w K mg base CX0 3 f fd ["thing", "scope"] (spIsAtom K) := by
  refine F.ok scIsAtom (fun vs H Q E h => ?_) (fun cdv A outer s H vs Q E hr h => ?_)
  · obtain ⟨v, d, sc, ns, rfl, _⟩ := h
    rfl
  · obtain ⟨v, d, sc, ns, rfl, hd, hs, q⟩ := h
    have nd := scIsAtom.nd
    have r1 := hr.mono (show 1 ≤ 2 by decide)
    refine ⟨_, pss_cons (ps_if (pt_not (pt_val (pe_call GR r1 (by rfl) gR kR bR .nil pass0 (pa_cons (pv 0) (pa_cons pe_int (pa_cons pe_int pa_nil)))))) (pss_one (ps_ret pe_bl)) pss_nil)
      (pss_cons (ps_asg (pv 0) (pg_tup rfl (pgs_cons (pg_name (i := 2) nd rfl (.inl rfl)) (pgs_cons (pg_name (i := 3) nd rfl (.inl rfl)) pgs_nil))))
      (pss_one (ps_ret (pe_and (pe_call GS r1 (by rfl) gS kS bS .nil pass0 (pa_cons (pv 2) (pa_cons (pv 1) pa_nil))) (pe_one (pe_call GN hr (by rfl) gN kN bN .nil pass0 (pa_cons (pv 3) pa_nil))))))), ?_⟩
    refine ⟨_, rfl, v, d, 2, 2, rfl, hd, pRow 2 2 d, rfl, ?_⟩
    cases e : pRow 2 2 d with
    | false =>
      rw [atom_row e] at q
      exact iteT q
    | true =>
      obtain ⟨a, b, rfl⟩ := row_two e
      obtain ⟨p, x, y, rfl, hp, h1, h2⟩ := dp_pair hd
      refine iteF ⟨_, rfl, p, _, rfl, hp, rfl, _, _, rfl, _, _, rfl, rfl, ?_⟩
      refine ⟨_, rfl, _, rfl, x, a, sc, ns, rfl, h1, hs, pSide ns a, rfl, and_q q fun q' => ?_⟩
      exact ⟨_, rfl, y, b, rfl, h2, q'⟩
def spIsDiff (K : PySem.W.Frag) : Sp := fun vs H Q _ => ∃ (v : V) (d : PyData) (sc : Addr) (ns : List Str), vs = [v, .ref sc] ∧ Dp K H v d ∧ SqT K H sc (ns.map V.str) ∧ Q (.bl (pDiff ns d)) H
abbrev nIsDiff : List Str := ["thing", "scope", "left", "right", "limit"]
theorem scIsDiff : FnScope nIsDiff ["thing", "scope"] (defScope sIsDifferenceOf) := ⟨rfl, rfl, rfl, by decide +kernel, rfl, by decide +kernel, by decide +kernel⟩
theorem ok_isdiff {f fR fS fN : Addr} {fd fdR fdS fdN : FuncData} (F : Fun K "is_difference_of" "is_difference_of" sIsDifferenceOf f fd)
    (GR : FnOk P w K mg base CX0 1 fR fdR ["thing", "least", "most"] (spIsRow K)) (kR : PySem.W.keepIn K (.ref fR) = true) (bR : Binds K fdR ["thing", "least", "most"] []) (gR : mg "is_row" = some (.ref fR))
    (GS : FnOk P w K mg base CX0 1 fS fdS ["thing", "scope"] (spIsSide K)) (kS : PySem.W.keepIn K (.ref fS) = true) (bS : Binds K fdS ["thing", "scope"] []) (gS : mg "_is_side_of" = some (.ref fS))
    (GN : FnOk P w K mg base CX0 2 fN fdN ["thing"] (spNestNumber K)) (kN : PySem.W.keepIn K (.ref fN) = true) (bN : Binds K fdN ["thing"] []) (gN : mg "is_nest_number" = some (.ref fN)) :
    FnOk P w K mg base CX0 3 f fd ["thing", "scope"] (spIsDiff K) := by
  refine F.ok scIsDiff (fun vs H Q E h => ?_) (fun cdv A outer s H vs Q E hr h => ?_)
  · obtain ⟨v, d, sc, ns, rfl, _⟩ := h
    rfl
  · obtain ⟨v, d, sc, ns, rfl, hd, hs, q⟩ := h
    have nd := scIsDiff.nd
    have r1 := hr.mono (show 1 ≤ 2 by decide)
    refine ⟨_, pss_cons (ps_if (pt_not (pt_val (pe_call GR r1 (by rfl) gR kR bR .nil pass0 (pa_cons (pv 0) (pa_cons pe_int (pa_cons pe_int pa_nil)))))) (pss_one (ps_ret pe_bl)) pss_nil)
      (pss_cons (ps_asg (pv 0) (pg_tup rfl (pgs_cons (pg_name (i := 2) nd rfl (.inl rfl)) (pgs_cons (pg_name (i := 3) nd rfl (.inl rfl)) (pgs_cons (pg_name (i := 4) nd rfl (.inl rfl)) pgs_nil)))))
      (pss_one (ps_ret (pe_and (pe_call GS r1 (by rfl) gS kS bS .nil pass0 (pa_cons (pv 2) (pa_cons (pv 1) pa_nil))) (pe_and (pe_call GS r1 (by rfl) gS kS bS .nil pass0 (pa_cons (pv 3) (pa_cons (pv 1) pa_nil)))
        (pe_and (pe_cmpR op_ne (pv 2) (pv 3) (nomark _)) (pe_one (pe_call GN hr (by rfl) gN kN bN .nil pass0 (pa_cons (pv 4) pa_nil))))))))), ?_⟩
    refine ⟨_, rfl, v, d, 3, 3, rfl, hd, pRow 3 3 d, rfl, ?_⟩
    cases e : pRow 3 3 d with
    | false =>
      rw [diff_row e] at q
      exact iteT q
    | true =>
      obtain ⟨a, b, c, rfl⟩ := row_three e
      obtain ⟨p, x, y, z, rfl, hp, h1, h2, h3⟩ := dp_three hd
      refine iteF ⟨_, rfl, p, _, rfl, hp, rfl, _, _, rfl, _, _, rfl, _, _, rfl, rfl, ?_⟩
      have q1 : Q (.bl (pSide ns a && (pSide ns b && (neD a b && pNum c)))) H := q
      refine ⟨_, rfl, _, rfl, x, a, sc, ns, rfl, h1, hs, pSide ns a, rfl, ?_⟩
      cases ea : pSide ns a with
      | false =>
        rw [ea] at q1
        exact iteF q1
      | true =>
        rw [ea, Bool.true_and] at q1
        refine iteT ⟨_, rfl, _, rfl, y, b, sc, ns, rfl, h2, hs, pSide ns b, rfl, ?_⟩
        cases eb : pSide ns b with
        | false =>
          rw [eb] at q1
          exact iteF q1
        | true =>
          rw [eb, Bool.true_and] at q1
          obtain ⟨xa, rfl⟩ := side_str ea
          obtain ⟨xb, rfl⟩ := side_str eb
          cases h1
          cases h2
          refine iteT ⟨_, rfl, _, rfl, rfl, _, rfl, ?_⟩
          have e0 : (!decide (V.str xa = V.str xb)) = neD (.str xa) (.str xb) := congrArg not (decide_eq_decide.mpr ⟨fun z => V.str.inj z, fun z => by rw [z]⟩)
          rw [e0]
          exact and_q q1 fun q' => ⟨_, rfl, z, c, rfl, h3, q'⟩
/-! ### are_atoms -/
def spAreAtoms (K : PySem.W.Frag) (T : Addr) : Sp := fun vs H Q _ => ∃ (v : V) (d : PyData) (sc : Addr) (m : Int) (ns : List Str), vs = [v, .ref sc, .int m] ∧ Dp K H v d ∧ SqT K H sc (ns.map V.str) ∧ GxR.TabG H T ∧ ∀ H', SameG H H' → Q (.bl (pAtoms ns m d)) H'
abbrev nAreAtoms : List Str := ["thing", "scope", "most", "atom"]
theorem scAreAtoms : FnScope nAreAtoms ["thing", "scope", "most"] (defScope sAreAtoms) := ⟨rfl, rfl, rfl, by decide +kernel, rfl, by decide +kernel, by decide +kernel⟩
theorem ok_areatoms {f c T fR fA : Addr} {fd fdR fdA : FuncData} (F : FunC K "are_atoms" "are_atoms" sAreAtoms f fd c) (B : Blt mg) (hall : mg "all" = none) (TB : GxR.TabB base mg c T)
    (GR : FnOk P w K mg base CX0 1 fR fdR ["thing", "least", "most"] (spIsRow K)) (kR : PySem.W.keepIn K (.ref fR) = true) (bR : Binds K fdR ["thing", "least", "most"] []) (gR : mg "is_row" = some (.ref fR))
    (GA : FnOk P w K mg base CX0 3 fA fdA ["thing", "scope"] (spIsAtom K)) (kA : PySem.W.keepIn K (.ref fA) = true) (bA : Binds K fdA ["thing", "scope"] []) (gA : mg "is_atom_of" = some (.ref fA)) :
    FnOk P w K mg base CX0 5 f fd ["thing", "scope", "most"] (spAreAtoms K T) := by
  refine F.ok scAreAtoms (fun vs H Q E h => ?_) (fun A outer s H vs Q E hr h => ?_)
  · obtain ⟨v, d, sc, m, ns, rfl, _⟩ := h
    rfl
  · obtain ⟨v, d, sc, m, ns, rfl, hd, hs, hT, q⟩ := h
    have nd := scAreAtoms.nd
    refine ⟨_, pss_one (ps_ret (pe_and (pe_call GR (hr.mono (by decide)) (by rfl) gR kR bR .nil pass0 (pa_cons (pv 0) (pa_cons pe_int (pa_cons (pv 2) pa_nil))))
      (pe_one (GxC.pe_allG (k := 3) (own := [("atom", 3)]) (g := gName 3) hr rfl nd (by rfl) hall PyProof.Rows.boot_all TB rfl (pi_tup (pv 0)) (blkOk_by (N := nAreAtoms) (sc := defScope sAreAtoms) (by decide +kernel))
          (fun _ _ _ _ _ _ _ _ => pg_name (i := 3) nd rfl (.inl rfl)) (fun _ _ _ _ _ _ _ hr' => pe_call GA hr' (by rfl) gA kA bA .nil pass0 (pa_cons (pv 3) (pa_cons (pv 1) pa_nil))) (fun _ => rfl))))), ?_⟩
    refine ⟨_, rfl, _, rfl, v, d, 0, m, rfl, hd, pRow 0 m d, rfl, ?_⟩
    have qH := q H (SameG.refl H)
    cases d with
    | tuple ds =>
      have er : pRow 0 m (.tuple ds) = decide (((ds.length : Nat) : Int) ≤ m) := by
        show (decide ((0 : Int) ≤ (ds.length : Nat)) && _) = _
        rw [show decide ((0 : Int) ≤ (ds.length : Nat)) = true from decide_eq_true (by omega)]
        rfl
      have q1 : ∀ H', SameG H H' → Q (.bl (pRow 0 m (.tuple ds) && ds.all (pAtom ns))) H' := by
        rw [er]
        exact q
      cases el : pRow 0 m (.tuple ds) with
      | false =>
        rw [el] at q1
        exact iteF (q1 H (SameG.refl H))
      | true =>
        rw [el] at q1
        cases hd with
        | @tup p xs _ hp hA =>
          refine iteT ⟨_, rfl, p, rfl, ⟨_, hp⟩, hT, fun H2 h2 => ?_⟩
          have sg := SameG.tabbed hT h2
          have hp2 := sqT_g sg hp
          have hA2 := dps_g sg _ _ hA
          have hs2 := sqT_g sg hs
          have hl := dps_len hA
          refine ⟨fun i m' H' => m' = xs.length - i ∧ i ≤ xs.length ∧ H' = H2 ∧ ∀ d ∈ ds.take i, pAtom ns d = true, ⟨xs.length, rfl, Nat.zero_le _, rfl, fun d hd => by simp at hd⟩, ?_⟩
          rintro i m' H' ⟨rfl, hi, rfl, done⟩
          by_cases k : i < xs.length
          · have ex := List.getElem?_eq_getElem k
            obtain ⟨d, ed, dd⟩ := dps_at hA2 ex
            refine .inr ⟨⟨_, _, hp2, ex⟩, fun H'' => H'' = H' ∧ ∀ d ∈ ds.take (i + 1), pAtom ns d = true, fun H'' ⟨e1, e2⟩ => ⟨xs.length - (i + 1), by omega, rfl, k, e1, e2⟩, ?_⟩
            rintro y H'' ⟨rfl, hy⟩
            have e1 := hy _ hp2
            rw [ex] at e1
            obtain rfl := Option.some.inj e1
            refine ⟨rfl, _, rfl, _, rfl, _, d, sc, ns, rfl, dd, hs2, pAtom ns d, rfl, fun z => ⟨rfl, fun d' hd' => ?_⟩, fun z => ?_⟩
            · rw [List.take_add_one, ed] at hd'
              rcases List.mem_append.mp hd' with hd' | hd'
              · exact done d' hd'
              · rw [Option.toList_some, List.mem_singleton] at hd'
                rw [hd']
                exact z
            · have : ds.all (pAtom ns) = false := by
                rw [List.all_eq_false]
                exact ⟨d, List.mem_of_getElem? ed, by rw [z]; decide⟩
              rw [this] at q1
              exact q1 _ sg
          · refine .inl ⟨⟨_, hp2, by omega⟩, ?_⟩
            have : ds.all (pAtom ns) = true := by
              rw [List.all_eq_true]
              intro d hd'
              refine done d ?_
              rw [List.take_of_length_le (by omega)]
              exact hd'
            rw [this] at q1
            exact q1 _ sg
    | none => exact iteF qH
    | bool b => exact iteF qH
    | int b => exact iteF qH
    | str b => exact iteF qH
    | list b => exact iteF qH
    | dict b => exact iteF qH
end
end Kd
/-! check, check_different; all(..) over a tuple of data -/
namespace Kd
open PySem L2 Lo
/-- what is asked of the class of an error without fields -/
structure Err (K : PySem.W.Frag) (mg : Str → Option Value) (x : Str) (C : Addr) : Prop where
  g : mg x = some (.ref C)
  x : PySem.W.excIn K C [.type "ValueError", .type "Exception", .type "BaseException", .type "object"] "ValueError.__new__" = true
  k : PySem.W.keepIn K (.ref C) = true
  b : PySem.W.subIn K (.ref C) (.type "BaseException") = some true
  t : PySem.W.typeIn K (.ref C) = some (.type "type")
  e : PySem.W.exmOne K (.ref C) (.ref C) = some true
/-- returns None where it is well, and else raises; all is kept -/
def Fin (C : Addr) (H : Hp) (Q : VK) (E : XK) (ok : Bool) : Prop := (ok = true → ∀ H', SameG H H' → Q .non H') ∧ (ok = false → ∀ H', SameG H H' → E (.ref C) none H')
theorem Fin.from {C : Addr} {H H' : Hp} {Q : VK} {E : XK} {ok : Bool} (h : Fin C H Q E ok) (s : SameG H H') : Fin C H' Q E ok := ⟨fun e H2 k => h.1 e H2 (s.trans k), fun e H2 k => h.2 e H2 (s.trans k)⟩
theorem Fin.and {C : Addr} {H : Hp} {Q : VK} {E : XK} {a b : Bool} (h : Fin C H Q E (a && b)) (e : a = true) : Fin C H Q E b := by rw [e, Bool.true_and] at h; exact h
theorem Fin.bad {C : Addr} {H : Hp} {Q : VK} {E : XK} {a b : Bool} (h : Fin C H Q E (a && b)) (e : a = false) : ∀ H', SameG H H' → E (.ref C) none H' := by rw [e, Bool.false_and] at h; exact h.2 rfl
section
variable {P : Program} {w : World} {K : PySem.W.Frag} {mg : Str → Option Value} {base : Heap}
def spCheck (C : Addr) : Sp := fun vs H Q E => ∃ b : Bool, vs = [.bl b] ∧ (b = true → Q .non H) ∧ (b = false → E (.ref C) none H)
theorem scCheck : FnScope ["fits"] ["fits"] (defScope sCheck) := ⟨rfl, rfl, rfl, by decide +kernel, rfl, by decide +kernel, by decide +kernel⟩
theorem ok_check {C f : Addr} {fd : FuncData} (F : Fun K "check" "check" sCheck f fd) (N : Err K mg "BadNest" C) : FnOk P w K mg base (L2.CX P w) 1 f fd ["fits"] (spCheck C) := by
  refine F.okX scCheck (fun vs H Q E h => ?_) (fun cdv A outer s H vs Q E hr h => ?_)
  · obtain ⟨b, rfl, _⟩ := h
    rfl
  · obtain ⟨b, rfl, q1, q2⟩ := h
    refine ⟨_, pss_one (ps_if (pt_not (pt_val (pv 0))) (pss_one (ps_raise rfl (takes_of rfl rfl rfl rfl) (pmk_own PySem.F.excBase_ValueError N.x N.g N.k (raises_own N.b N.t) rfl))) pss_nil), ?_⟩
    refine ⟨_, rfl, b, rfl, ?_⟩
    cases b with
    | true => exact iteF (q1 rfl)
    | false => exact iteT (q2 rfl)
def spDifferent (K : PySem.W.Frag) (C : Addr) : Sp := fun vs H Q E => ∃ (v : V) (ds : List PyData), vs = [v] ∧ Dp K H v (.tuple ds) ∧ ds.length < 60 ∧ rowOk ds ∧ Fin C H Q E (decide (ds.map keyD).Nodup)
theorem scDifferent : FnScope ["row"] ["row"] (defScope sCheckDifferent) := ⟨rfl, rfl, rfl, by decide +kernel, rfl, by decide +kernel, by decide +kernel⟩
theorem ok_different {C f fC : Addr} {fd fdC : FuncData} (F : Fun K "check_different" "check_different" sCheckDifferent f fd) (T : Blt mg) (hset : mg "set" = none) (GC : FnOk P w K mg base (L2.CX P w) 1 fC fdC ["fits"] (spCheck C)) (kC : PySem.W.keepIn K (.ref fC) = true) (bC : Binds K fdC ["fits"] []) (gC : mg "check" = some (.ref fC)) :
    FnOk P w K mg base (L2.CX P w) 2 f fd ["row"] (spDifferent K C) := by
  refine F.okX scDifferent (fun vs H Q E h => ?_) (fun cdv A outer s H vs Q E hr h => ?_)
  · obtain ⟨b, ds, rfl, _⟩ := h
    rfl
  · obtain ⟨v, ds, rfl, hd, few, ok, fin⟩ := h
    refine ⟨_, pss_one (ps_expr (pe_callS GC hr (by rfl) gC kC bC (fun σ => passAt (takes_of rfl rfl rfl rfl) σ) (pa_cons (pe_cmpR op_eq (pe_lenSetD rfl hr.units (by rfl) T.len (by rfl) hset (pv 0)) (pe_callB call_len_seq (by rfl) T.len PySem.boot_len (pa_cons (pv 0) pa_nil)) (nomark _)) pa_nil))), ?_⟩
    refine ⟨_, rfl, ds, hd, few, ok, fun n hn => ?_⟩
    cases hd with
    | @tup p xs _ hp hA =>
      have hl := dps_len hA
      refine ⟨_, rfl, p, xs, rfl, .inr hp, rfl, _, rfl, ?_, ?_⟩
      · intro e
        refine fin.1 (decide_eq_true (hn.mp ?_)) _ (SameG.refl _)
        have e' := of_decide_eq_true e
        injection e' with e'
        rw [hl] at e'
        omega
      · intro e
        refine fin.2 (decide_eq_false fun z => ?_) _ (SameG.refl _)
        refine of_decide_eq_false e ?_
        rw [hn.mpr z, hl]
end
/-- all(..) over a tuple of data, whose element answers r -/
theorem all_tup {K : PySem.W.Frag} {p : Addr} {xs : List V} {ds : List PyData} {H2 : Hp} {r : PyData → Bool} {Q : VK} {g : TG} {te : TE} {vs : List Nat} {σ : L2.St} (hp : SqT K H2 p xs) (hA : DpAll K H2 xs ds) (q : ∀ H', SameG H2 H' → Q (.bl (ds.all r)) H')
    (turn : ∀ (x : V) (d : PyData) (H' : Hp) (N : Hp → Prop), SameG H2 H' → d ∈ ds → Dp K H' x d → (r d = true → ∀ H3, SameG H2 H3 → N H3) → (r d = false → ∀ H3, SameG H2 H3 → Q (.bl false) H3) →
      g x (wipe σ vs) H' fun σ2 H3 => wipe σ2 vs = wipe σ vs ∧ te σ2 H3 fun y H4 => ∃ b : Bool, y = .bl b ∧ (b = true → N H4) ∧ (b = false → Q (.bl false) H4)) :
    ∃ W : Nat → Nat → Hp → Prop, (∃ m, W 0 m H2) ∧ GxC.tAllW (Itt K p) g te vs σ W Q := by
  have hl := dps_len hA
  refine ⟨fun i m H' => m = xs.length - i ∧ i ≤ xs.length ∧ SameG H2 H' ∧ ∀ d ∈ ds.take i, r d = true, ⟨xs.length, rfl, Nat.zero_le _, SameG.refl _, fun d hd => by simp at hd⟩, ?_⟩
  rintro i m' H' ⟨rfl, hi, sg, done⟩
  have hp2 := sqT_g sg hp
  by_cases k : i < xs.length
  · have ex := List.getElem?_eq_getElem k
    obtain ⟨d, ed, dd⟩ := dps_at (dps_g sg _ _ hA) ex
    refine .inr ⟨⟨_, _, hp2, ex⟩, fun H'' => SameG H2 H'' ∧ ∀ d ∈ ds.take (i + 1), r d = true, fun H'' ⟨e1, e2⟩ => ⟨xs.length - (i + 1), by omega, rfl, k, e1, e2⟩, ?_⟩
    rintro y H'' ⟨rfl, hy⟩
    have e1 := hy _ hp2
    rw [ex] at e1
    obtain rfl := Option.some.inj e1
    refine turn _ d H'' _ sg (List.mem_of_getElem? ed) dd (fun z H3 s3 => ⟨s3, fun d' hd' => ?_⟩) fun z H3 s3 => ?_
    · rw [List.take_add_one, ed] at hd'
      rcases List.mem_append.mp hd' with hd' | hd'
      · exact done d' hd'
      · rw [Option.toList_some, List.mem_singleton] at hd'
        rw [hd']
        exact z
    · have : ds.all r = false := by
        rw [List.all_eq_false]
        exact ⟨d, List.mem_of_getElem? ed, by rw [z]; decide⟩
      rw [this] at q
      exact q _ s3
  · refine .inl ⟨⟨_, hp2, by omega⟩, ?_⟩
    have : ds.all r = true := by
      rw [List.all_eq_true]
      intro d hd'
      refine done d ?_
      rw [List.take_of_length_le (by omega)]
      exact hd'
    rw [this] at q
    exact q _ sg
end Kd
/-! check_heading -/
namespace Kd
open PySem L2 Lo
def items : PyData → List PyData
  | .tuple ds => ds
  | _ => []
mutual
/-- texts and rows of it are short -/
def small : PyData → Bool
  | .none => true
  | .bool _ => true
  | .int _ => true
  | .str x => decide (x.length ≤ 1000) && PyData.strOk x
  | .list ds => decide (ds.length < 60) && smalls ds
  | .tuple ds => decide (ds.length < 60) && smalls ds
  | .dict _ => false
def smalls : List PyData → Bool
  | [] => true
  | d :: ds => small d && smalls ds
end
theorem smalls_all : ∀ ds : List PyData, smalls ds = ds.all small
  | [] => by rw [smalls]; rfl
  | d :: ds => by rw [smalls, smalls_all ds]; rfl
theorem small_tup {ds : List PyData} (h : small (.tuple ds) = true) : ds.length < 60 ∧ ∀ d ∈ ds, small d = true := by
  rw [small, Bool.and_eq_true, decide_eq_true_eq, smalls_all, List.all_eq_true] at h
  exact h
theorem small_txt {d : PyData} (h : small d = true) : txtOk d := by
  cases d with
  | str x =>
    rw [small, Bool.and_eq_true, decide_eq_true_eq] at h
    exact h.1
  | _ => exact trivial
theorem names_strs : ∀ {ds : List PyData}, ds.all pName = true → ∃ xs : List Str, ds = xs.map PyData.str ∧ ∀ x ∈ xs, nestName x = true
  | [], _ => ⟨[], rfl, fun _ h => nomatch h⟩
  | d :: ds, h => by
    rw [List.all_cons, Bool.and_eq_true] at h
    obtain ⟨xs, rfl, hx⟩ := names_strs h.2
    cases d with
    | str x => exact ⟨x :: xs, rfl, fun y hy => (List.mem_cons.mp hy).elim (fun e => e ▸ h.1) (hx y)⟩
    | _ => exact nomatch h.1
def okSizes (d : PyData) : Bool := (pRow 1 3 d && (items d).all pName) && decide ((items d).map keyD).Nodup
def okGiven (ns : List Str) (d : PyData) : Bool := pRow 0 12 d && (items d).all (pDiff ns)
def okKept (d : PyData) : Bool := (isTup d && (items d).all pName) && decide ((items d).map keyD).Nodup
def strsOf : List PyData → List Str
  | [] => []
  | .str x :: ds => x :: strsOf ds
  | _ :: ds => strsOf ds
theorem strsOf_map : ∀ xs : List Str, strsOf (xs.map PyData.str) = xs
  | [] => rfl
  | x :: xs => by
    show x :: strsOf (xs.map PyData.str) = _
    rw [strsOf_map xs]
def keyPd : Key → PyData
  | .inl i => .int i
  | .inr x => .str x
def okPair (ns : List Str) (d : PyData) : Bool := pRow 2 2 d && pAtoms ns 2 d
def okRoom (ns : List Str) (kd : Key × PyData) : Bool := (pName (keyPd kd.1) && pRow 0 4 kd.2) && (items kd.2).all (okPair ns)
/-- what is given for rooms: no dict, or a dict -/
inductive RD where
  | data (d : PyData)
  | dict (kvs : List (Key × PyData))
def RoomIs (K : PySem.W.Frag) (H : Hp) (v : V) : RD → Prop
  | .data d => Dp K H v d
  | .dict kvs => ∃ (a : Addr) (vs : List (Key × V)), v = .ref a ∧ H a = some (.dK vs) ∧ vs.map Prod.fst = kvs.map Prod.fst ∧ DpAll K H (vs.map Prod.snd) (kvs.map Prod.snd)
def smallR : RD → Bool
  | .data d => small d
  | .dict kvs => kvs.all fun kd => small (keyPd kd.1) && small kd.2
def okRooms (ns : List Str) : RD → Bool
  | .data _ => false
  | .dict kvs => kvs.all (okRoom ns)
def okHead (z g : PyData) (r : RD) (k : PyData) : Bool := okSizes z && (okGiven (strsOf (items z)) g && (okRooms (strsOf (items z)) r && okKept k))
/-- all but the thing v is kept -/
structure SameB (v : V) (H H' : Hp) : Prop where
  keep : ∀ b o, v ≠ .ref b → H b = some o → (∀ ps, o ≠ .tbl ps) → H' b = some o
  tab : ∀ T, GxR.TabG H T → GxR.TabG H' T
theorem SameB.of {v : V} {H H' : Hp} (s : SameG H H') : SameB v H H' := ⟨fun b o _ e n => s.keep b o e n, s.tab⟩
theorem SameB.trans {v : V} {H H' H'' : Hp} (h : SameB v H H') (k : SameB v H' H'') : SameB v H H'' := ⟨fun b o n e t => k.keep b o n (h.keep b o n e t) t, fun T t => k.tab T (h.tab T t)⟩
theorem sqT_b {K : PySem.W.Frag} {v : V} {H H' : Hp} {a : Addr} {xs : List V} (s : SameB v H H') (ne : v ≠ .ref a) (h : SqT K H a xs) : SqT K H' a xs := by
  rcases h with (h | ⟨o, h⟩) | h
  · exact .inl (.inl (s.keep _ _ ne h fun ps z => nomatch z))
  · exact .inl (.inr ⟨o, s.keep _ _ ne h fun ps z => nomatch z⟩)
  · exact .inr h
/-- all is kept, but for the rooms where they are a dict -/
def SameR (r : RD) (v : V) (H H' : Hp) : Prop := match r with
  | .data _ => SameG H H'
  | .dict _ => SameB v H H'
theorem SameR.of {r : RD} {v : V} {H H' : Hp} (s : SameG H H') : SameR r v H H' := by
  cases r with
  | data d => exact s
  | dict kvs => exact SameB.of s
theorem SameR.trans {r : RD} {v : V} {H H' H'' : Hp} (h : SameR r v H H') (k : SameR r v H' H'') : SameR r v H H'' := by
  cases r with
  | data d => exact SameG.trans h k
  | dict kvs => exact SameB.trans h k
/-- returns None where it is well, and else raises; then the rooms may be locked -/
def FinR (r : RD) (v : V) (C : Addr) (H : Hp) (Q : VK) (E : XK) (ok : Bool) : Prop := (ok = true → ∀ H', SameG H H' → Q .non H') ∧ (ok = false → ∀ H', SameR r v H H' → E (.ref C) none H')
theorem isDict_no {d : PyData} {K : PySem.W.Frag} {H : Hp} {v : V} (h : Dp K H v d) : kitB (tyOf d) "dict" = some false := by
  cases h <;> simp only [tyOf] <;> decide +kernel
def rIsDict (K : PySem.W.Frag) : List V → Hp → VK → Prop := fun xs H Q => ∃ (v : V) (r : RD), xs = [v, .ty "dict"] ∧ RoomIs K H v r ∧ Q (.bl (match r with | .data _ => false | .dict _ => true)) H
theorem call_isDict {X : Cx} : CallR X (.builtin "isinstance") (rIsDict X.K) := fun pins s σ H xs us Q I rx ⟨v, r, e, hd, q⟩ => by
  cases r with
  | data d => exact call_isi pins s σ H xs us Q I rx ⟨v, .ty "dict", _, _, false, e, .ty "dict", dp_ty hd, kit_ty (isDict_no hd), q⟩
  | dict kvs =>
    obtain ⟨a, vs, rfl, ha, _, _⟩ := hd
    exact call_isi pins s σ H xs us Q I rx ⟨.ref a, .ty "dict", _, _, true, e, .ty "dict", .base (.dK ha), kit_ty (by decide +kernel), q⟩
end Kd
/-! check_heading -/
namespace Kd
open PySem L2 Lo
section
variable {K : PySem.W.Frag} {H H' : Hp} {rd : Addr} {u : List (Key × V)}
theorem sqT_x {a : Addr} {xs : List V} (s : SameB (.ref rd) H H') (e : H rd = some (.dK u)) (h : SqT K H a xs) : SqT K H' a xs := by
  have ne : ∀ o, H a = some o → (∀ k, o ≠ .dK k) → V.ref rd ≠ .ref a := fun o h n z => by
    injection z with z
    rw [z, h] at e
    exact n _ (Option.some.inj e)
  rcases h with (h | ⟨o, h⟩) | h
  · exact .inl (.inl (s.keep _ _ (ne _ h fun k z => nomatch z) h fun ps z => nomatch z))
  · exact .inl (.inr ⟨o, s.keep _ _ (ne _ h fun k z => nomatch z) h fun ps z => nomatch z⟩)
  · exact .inr h
theorem sqL_x {a : Addr} {xs : List V} (s : SameB (.ref rd) H H') (e : H rd = some (.dK u)) (h : SqL K H a xs) : SqL K H' a xs := by
  have ne : ∀ o, H a = some o → (∀ k, o ≠ .dK k) → V.ref rd ≠ .ref a := fun o h n z => by
    injection z with z
    rw [z, h] at e
    exact n _ (Option.some.inj e)
  rcases h with (h | ⟨o, h⟩) | h
  · exact .inl (.inl (s.keep _ _ (ne _ h fun k z => nomatch z) h fun ps z => nomatch z))
  · exact .inl (.inr ⟨o, s.keep _ _ (ne _ h fun k z => nomatch z) h fun ps z => nomatch z⟩)
  · exact .inr h
mutual
theorem dp_x (s : SameB (.ref rd) H H') (e : H rd = some (.dK u)) : ∀ (d : PyData) (v : V), Dp K H v d → Dp K H' v d
  | .none, _, h => by cases h; exact .non
  | .bool b, _, h => by cases h; exact .bl b
  | .int i, _, h => by cases h; exact .int i
  | .str x, _, h => by cases h; exact .str x
  | .list ds, _, h => by
    cases h with
    | lst a b => exact .lst (sqL_x s e a) (dps_x s e ds _ b)
  | .tuple ds, _, h => by
    cases h with
    | tup a b => exact .tup (sqT_x s e a) (dps_x s e ds _ b)
  | .dict _, _, h => nomatch h
theorem dps_x (s : SameB (.ref rd) H H') (e : H rd = some (.dK u)) : ∀ (ds : List PyData) (vs : List V), DpAll K H vs ds → DpAll K H' vs ds
  | [], _, h => by cases h; exact .nil
  | d :: ds, _, h => by
    cases h with
    | cons a b => exact .cons (dp_x s e d _ a) (dps_x s e ds _ b)
end
theorem tab_upd {T : Addr} {o : HO} (h : GxR.TabG H T) (ne : T ≠ rd) : GxR.TabG (upd H rd o) T := by
  obtain ⟨ps, e, r⟩ := h
  exact ⟨ps, by rw [upd_ne ne]; exact e, r⟩
theorem tab_ne {T : Addr} {o : HO} (h : GxR.TabG H T) (e : H rd = some o) (n : ∀ ps, o ≠ .tbl ps) : T ≠ rd := fun z => by
  obtain ⟨ps, e2, _⟩ := h
  rw [z, e] at e2
  exact n ps (Option.some.inj e2)
/-- locked -/
theorem SameB.lock {od : Obj} {o : HO} (e : H rd = some o) (n : ∀ ps, o ≠ .tbl ps) : SameB (.ref rd) H (upd H rd (.frz od o)) :=
  ⟨fun b x ne h _ => by rw [upd_ne fun z => ne (by rw [z])]; exact h, fun T h => tab_upd h (tab_ne h e n)⟩
/-- unlocked again -/
theorem SameB.back {od : Obj} {o : HO} (s : SameB (.ref rd) H H') (e : H rd = some o) (e' : H' rd = some (.frz od o)) : SameG H (upd H' rd o) :=
  ⟨fun b x h n => by
    by_cases z : b = rd
    · rw [z, upd_same]
      rw [z] at h
      exact e.symm.trans h
    · rw [upd_ne z]
      exact s.keep b x (fun y => z (by injection y with y; exact y.symm)) h n, fun T h => tab_upd (s.tab T h) (tab_ne (s.tab T h) e' fun ps z => nomatch z)⟩
end
theorem dp_kV {K : PySem.W.Frag} {H : Hp} : ∀ k : Key, Dp K H (kV k) (keyPd k)
  | .inl i => .int i
  | .inr x => .str x
section
variable {P : Program} {w : World} {K : PySem.W.Frag} {mg : Str → Option Value} {base : Heap}
def spHead (K : PySem.W.Frag) (C TN TA TH : Addr) : Sp := fun vs H Q E => ∃ (vz vg vr vk : V) (z g k : PyData) (r : RD), vs = [vz, vg, vr, vk] ∧ Dp K H vz z ∧ Dp K H vg g ∧ RoomIs K H vr r ∧ Dp K H vk k ∧
  small z = true ∧ small g = true ∧ smallR r = true ∧ small k = true ∧ GxR.TabG H TN ∧ GxR.TabG H TA ∧ GxR.TabG H TH ∧
  (∀ (x : V) (d : PyData) (kvs : List (Key × PyData)), r = .dict kvs → True) ∧ FinR r vr C H Q E (okHead z g r k)
abbrev nHead : List Str := ["sizes", "given", "rooms", "kept", "array", "pairs", "name", "entry", "pair"]
theorem scHead : FnScope nHead ["sizes", "given", "rooms", "kept"] (defScope sCheckHeading) := ⟨rfl, rfl, rfl, by decide +kernel, rfl, by decide +kernel, by decide +kernel⟩
theorem ok_head {C f c TN TA TH fC fD fR fN fF fA : Addr} {fd fdC fdD fdR fdN fdF fdA : FuncData} {t1 t2 t3 : Nat} (F : FunC K "check_heading" "check_heading" sCheckHeading f fd c) (B : Blt mg) (hall : mg "all" = none) (hdict : mg "dict" = none) (TB : GxR.TabB base mg c TH)
    (h3 : mg "MOST_SIZES" = some (.int 3 t1)) (h12 : mg "MOST_ROW" = some (.int 12 t2)) (h4 : mg "MOST_INDEXES" = some (.int 4 t3))
    (GC : FnOk P w K mg base (L2.CX P w) 1 fC fdC ["fits"] (spCheck C)) (kC : PySem.W.keepIn K (.ref fC) = true) (bC : Binds K fdC ["fits"] []) (gC : mg "check" = some (.ref fC))
    (GD : FnOk P w K mg base (L2.CX P w) 2 fD fdD ["row"] (spDifferent K C)) (kD : PySem.W.keepIn K (.ref fD) = true) (bD : Binds K fdD ["row"] []) (gD : mg "check_different" = some (.ref fD))
    (GR : FnOk P w K mg base CX0 1 fR fdR ["thing", "least", "most"] (spIsRow K)) (kR : PySem.W.keepIn K (.ref fR) = true) (bR : Binds K fdR ["thing", "least", "most"] []) (gR : mg "is_row" = some (.ref fR))
    (GN : FnOk P w K mg base CX0 2 fN fdN ["thing"] (spNestName K TN)) (kN : PySem.W.keepIn K (.ref fN) = true) (bN : Binds K fdN ["thing"] []) (gN : mg "is_nest_name" = some (.ref fN))
    (GF : FnOk P w K mg base CX0 3 fF fdF ["thing", "scope"] (spIsDiff K)) (kF : PySem.W.keepIn K (.ref fF) = true) (bF : Binds K fdF ["thing", "scope"] []) (gF : mg "is_difference_of" = some (.ref fF))
    (GA : FnOk P w K mg base CX0 5 fA fdA ["thing", "scope", "most"] (spAreAtoms K TA)) (kA : PySem.W.keepIn K (.ref fA) = true) (bA : Binds K fdA ["thing", "scope", "most"] []) (gA : mg "are_atoms" = some (.ref fA)) :
    FnOk P w K mg base (L2.CX P w) 7 f fd ["sizes", "given", "rooms", "kept"] (spHead K C TN TA TH) := by
  refine F.okX scHead (fun vs H Q E h => ?_) (fun A outer s H vs Q E hr h => ?_)
  · obtain ⟨vz, vg, vr, vk, z, g, k, r, rfl, _⟩ := h
    rfl
  · obtain ⟨vz, vg, vr, vk, z, g, k, r, rfl, hz, hg, hrm, hk, sz, sg, sr, sk, tN, tA, tH, _, fin⟩ := h
    have nd := scHead.nd
    have r1 := hr.mono (show 1 ≤ 6 by decide)
    have r2 := hr.mono (show 2 ≤ 6 by decide)
    have body : PSs (cxOf (L2.CX P w) P w K mg base nHead "check_heading" (defScope sCheckHeading) f (.ref c) A outer s H E) (defBody sCheckHeading) _ := pss_cons (ps_expr (pe_callS GC r1 (by rfl) gC kC bC (fun σ => passAt (takes_of rfl rfl rfl rfl) σ) (pa_cons (pe_and (pe_call GR r1 (by rfl) gR kR bR .nil pass0 (pa_cons (pv 0) (pa_cons pe_int (pa_cons (pe_glob (v := .int 3) (by rfl) h3 ⟨_, rfl⟩) pa_nil))))
        (pe_one (GxC.pe_allG (k := 5) (own := [("name", 6)]) (g := gName 6) hr rfl nd (by rfl) hall PyProof.Rows.boot_all TB rfl (pi_tup (pv 0)) (blkOk_by (N := nHead) (sc := defScope sCheckHeading) (by decide +kernel))
          (fun _ _ _ _ _ _ _ _ => pg_name (i := 6) nd rfl (.inl rfl)) (fun _ _ _ _ _ _ _ hr' => pe_call GN (hr'.mono (by decide)) (by rfl) gN kN bN .nil pass0 (pa_cons (pv 6) pa_nil)) (fun _ => rfl)))) pa_nil)))
      (pss_cons (ps_expr (pe_callS GD r2 (by rfl) gD kD bD (fun σ => passAt (takes_of rfl rfl rfl rfl) σ) (pa_cons (pv 0) pa_nil)))
      (pss_cons (ps_expr (pe_callS GC r1 (by rfl) gC kC bC (fun σ => passAt (takes_of rfl rfl rfl rfl) σ) (pa_cons (pe_and (pe_call GR r1 (by rfl) gR kR bR .nil pass0 (pa_cons (pv 1) (pa_cons pe_int (pa_cons (pe_glob (v := .int 12) (by rfl) h12 ⟨_, rfl⟩) pa_nil))))
        (pe_one (GxC.pe_allG (k := 5) (own := [("entry", 7)]) (g := gName 7) hr rfl nd (by rfl) hall PyProof.Rows.boot_all TB rfl (pi_tup (pv 1)) (blkOk_by (N := nHead) (sc := defScope sCheckHeading) (by decide +kernel))
          (fun _ _ _ _ _ _ _ _ => pg_name (i := 7) nd rfl (.inl rfl)) (fun _ _ _ _ _ _ _ hr' => pe_call GF (hr'.mono (by decide)) (by rfl) gF kF bF .nil pass0 (pa_cons (pv 7) (pa_cons (pv 0) pa_nil))) (fun _ => rfl)))) pa_nil)))
      (pss_cons (ps_expr (pe_callS GC r1 (by rfl) gC kC bC (fun σ => passAt (takes_of rfl rfl rfl rfl) σ) (pa_cons (pe_callB call_isDict (by rfl) B.isi PyProof.Rows.boot_isinstance (pa_cons (pv 2) (pa_cons (pe_bltn (v := .ty "dict") rfl hdict PyProof.Rows.boot_dict rfl) pa_nil))) pa_nil)))
      (pss_cons (ps_lock (ps_for (passes_of rfl) rfl (pi_items (pv 2)) (pg_tup rfl (pgs_cons (pg_name (i := 4) nd rfl (.inl rfl)) (pgs_cons (pg_name (i := 5) nd rfl (.inl rfl)) pgs_nil)))
        (pss_cons (ps_expr (pe_callS GC r1 (by rfl) gC kC bC (fun σ => passAt (takes_of rfl rfl rfl rfl) σ) (pa_cons (pe_and (pe_call GN r2 (by rfl) gN kN bN .nil pass0 (pa_cons (pv 4) pa_nil)) (pe_one (pe_call GR r1 (by rfl) gR kR bR .nil pass0 (pa_cons (pv 5) (pa_cons pe_int (pa_cons (pe_glob (v := .int 4) (by rfl) h4 ⟨_, rfl⟩) pa_nil)))))) pa_nil)))
        (pss_one (ps_expr (pe_callS GC r1 (by rfl) gC kC bC (fun σ => passAt (takes_of rfl rfl rfl rfl) σ) (pa_cons (GxC.pe_allG (k := 5) (own := [("pair", 8)]) (g := gName 8) hr rfl nd (by rfl) hall PyProof.Rows.boot_all TB rfl (pi_tup (pv 5)) (blkOk_by (N := nHead) (sc := defScope sCheckHeading) (by decide +kernel))
          (fun _ _ _ _ _ _ _ _ => pg_name (i := 8) nd rfl (.inl rfl)) (fun _ _ _ _ _ _ _ hr' => pe_and (pe_call GR (hr'.mono (by decide)) (by rfl) gR kR bR .nil pass0 (pa_cons (pv 8) (pa_cons pe_int (pa_cons pe_int pa_nil)))) (pe_one (pe_call GA hr' (by rfl) gA kA bA .nil pass0 (pa_cons (pv 8) (pa_cons (pv 0) (pa_cons pe_int pa_nil)))))) (fun _ => rfl)) pa_nil)))))))
      (pss_cons (ps_expr (pe_callS GC r1 (by rfl) gC kC bC (fun σ => passAt (takes_of rfl rfl rfl rfl) σ) (pa_cons (pe_and (pe_callB (call_isD kit_tup) (by rfl) B.isi PyProof.Rows.boot_isinstance (pa_cons (pv 3) (pa_cons (pe_bltn (v := .ty "tuple") rfl B.tuple PyProof.Rows.boot_tuple rfl) pa_nil)))
        (pe_one (GxC.pe_allG (k := 5) (own := [("array", 4)]) (g := gName 4) hr rfl nd (by rfl) hall PyProof.Rows.boot_all TB rfl (pi_tup (pv 3)) (blkOk_by (N := nHead) (sc := defScope sCheckHeading) (by decide +kernel))
          (fun _ _ _ _ _ _ _ _ => pg_name (i := 4) nd rfl (.inl rfl)) (fun _ _ _ _ _ _ _ hr' => pe_call GN (hr'.mono (by decide)) (by rfl) gN kN bN .nil pass0 (pa_cons (pv 4) pa_nil)) (fun _ => rfl)))) pa_nil)))
      (pss_one (ps_expr (pe_callS GD r2 (by rfl) gD kD bD (fun σ => passAt (takes_of rfl rfl rfl rfl) σ) (pa_cons (pv 3) pa_nil)))))))))
    refine ⟨_, body, ?_⟩
    have bad : okHead z g r k = false → ∀ H', SameR r vr H H' → E (.ref C) none H' := fin.2
    -- the sizes
    refine ⟨_, rfl, vz, z, 1, 3, rfl, hz, pRow 1 3 z, rfl, ?_⟩
    cases e1 : pRow 1 3 z with
    | false => exact iteF ⟨false, rfl, (fun q => nomatch q), fun _ => bad (by simp [okHead, okSizes, e1]) H (SameR.of (SameG.refl H))⟩
    | true =>
    obtain ⟨zs, rfl⟩ : ∃ zs, z = .tuple zs := by
      cases z with
      | tuple zs => exact ⟨zs, rfl⟩
      | _ => exact nomatch e1
    have zsmall := small_tup sz
    cases hz with
    | @tup pz xz _ hpz hAz =>
    refine iteT ⟨_, rfl, pz, rfl, ⟨_, hpz⟩, tH, fun H1 h1 => ?_⟩
    have s1 := SameG.tabbed tH h1
    have tN1 := s1.tab _ tN
    refine all_tup (r := pName) (sqT_g s1 hpz) (dps_g s1 _ _ hAz) (fun H2 s2 => ?_) (fun x d H2 N s2 md dd yes no => ?_)
    rotate_left
    · refine ⟨rfl, _, rfl, x, d, rfl, dd, small_txt (zsmall.2 d md), s2.tab _ tN1, fun H3 s3 => ⟨pName d, rfl, fun q => yes q H3 (s2.trans s3), fun q => no q H3 (s2.trans s3)⟩⟩
    refine ⟨_, rfl, fun e2 => ?_, fun e2 => bad (by simp [okHead, okSizes, items, e2]) H2 (SameR.of (s1.trans s2))⟩
    obtain ⟨ns, rfl, hns⟩ := names_strs e2
    have u2 := s1.trans s2
    refine ⟨_, rfl, .ref pz, ns.map PyData.str, rfl, .tup (sqT_g u2 hpz) (dps_g u2 _ _ hAz), zsmall.1, .inl ⟨ns, rfl⟩, ?_, fun e3 H3 s3 => bad (by unfold okHead okSizes items; rw [e3, Bool.and_false]; rfl) H3 (SameR.of (u2.trans s3))⟩
    intro e3 H3 s3
    have u3 := u2.trans s3
    have ez : okSizes (.tuple (ns.map PyData.str)) = true := by
      unfold okSizes items
      rw [e3, e1, e2]
      rfl
    have en : strsOf (items (.tuple (ns.map PyData.str))) = ns := strsOf_map ns
    -- what is given
    have bad2 : (okGiven ns g && (okRooms ns r && okKept k)) = false → ∀ H', SameR r vr H H' → E (.ref C) none H' := fun e => bad (by
      unfold okHead
      rw [en, ez, Bool.true_and]
      exact e)
    have good2 : (okGiven ns g && (okRooms ns r && okKept k)) = true → ∀ H', SameG H H' → Q .non H' := fun e => fin.1 (by
      unfold okHead
      rw [en, ez, Bool.true_and]
      exact e)
    have hz3 : SqT K H3 pz (ns.map V.str) := by
      have hx : xz = ns.map V.str := by
        have : ∀ (ns : List Str) (xz : List V), DpAll K H xz (ns.map PyData.str) → xz = ns.map V.str := by
          intro ns
          induction ns with
          | nil => intro xz h; cases h; rfl
          | cons n ns ih =>
            intro xz h
            cases h with
            | cons a b =>
              cases a
              rw [ih _ b]
              rfl
        exact this ns xz hAz
      rw [← hx]
      exact sqT_g u3 hpz
    refine ⟨_, rfl, vg, g, 0, 12, rfl, dp_g u3 _ _ hg, pRow 0 12 g, rfl, ?_⟩
    cases e4 : pRow 0 12 g with
    | false => exact iteF ⟨false, rfl, (fun q => nomatch q), fun _ => bad2 (by simp [okGiven, e4]) H3 (SameR.of u3)⟩
    | true =>
    obtain ⟨gs, rfl⟩ : ∃ gs, g = .tuple gs := by
      cases g with
      | tuple gs => exact ⟨gs, rfl⟩
      | _ => exact nomatch e4
    have gsmall := small_tup sg
    cases hg with
    | @tup pg xg _ hpg hAg =>
    refine iteT ⟨_, rfl, pg, rfl, ⟨_, sqT_g u3 hpg⟩, u3.tab _ tH, fun H4 h4 => ?_⟩
    have u4 := u3.trans (SameG.tabbed (u3.tab _ tH) h4)
    have hz4 := sqT_g (SameG.tabbed (u3.tab _ tH) h4) hz3
    refine all_tup (r := pDiff ns) (sqT_g u4 hpg) (dps_g u4 _ _ hAg) (fun H5 s5 => ?_) (fun x d H5 N s5 md dd yes no => ?_)
    rotate_left
    · refine ⟨rfl, _, rfl, _, rfl, x, d, pz, ns, rfl, dd, sqT_g s5 hz4, pDiff ns d, rfl, fun q => yes q H5 s5, fun q => no q H5 s5⟩
    refine ⟨_, rfl, fun e5 => ?_, fun e5 => bad2 (by simp [okGiven, items, e5]) H5 (SameR.of (u4.trans s5))⟩
    have u5 := u4.trans s5
    have eg : okGiven ns (.tuple gs) = true := by simp only [okGiven, items, e4, e5, Bool.and_true]
    have bad3 : (okRooms ns r && okKept k) = false → ∀ H', SameR r vr H H' → E (.ref C) none H' := fun e => bad2 (by rw [eg, Bool.true_and]; exact e)
    have good3 : (okRooms ns r && okKept k) = true → ∀ H', SameG H H' → Q .non H' := fun e => good2 (by rw [eg, Bool.true_and]; exact e)
    -- the rooms
    have hrm5 : RoomIs K H5 vr r := by
      cases r with
      | data d => exact dp_g u5 _ _ hrm
      | dict kvs =>
        obtain ⟨a, ws, rfl, ha, h1, h2⟩ := hrm
        exact ⟨a, ws, rfl, u5.keep _ _ ha (fun ps z => nomatch z), h1, dps_g u5 _ _ h2⟩
    refine ⟨_, rfl, vr, r, rfl, hrm5, _, rfl, ?_⟩
    cases r with
    | data d => exact ⟨(fun q => nomatch q), fun _ => bad3 rfl H5 (SameR.of u5)⟩
    | dict kvs =>
    refine ⟨fun _ => ?_, fun q => nomatch q⟩
    obtain ⟨rd, ws, rfl, hrd, hks, hvs⟩ := hrm5
    have hwl : ws.length = kvs.length := by
      have := congrArg List.length hks
      rwa [List.length_map, List.length_map] at this
    have sr' : ∀ kd ∈ kvs, small (keyPd kd.1) = true ∧ small kd.2 = true := fun kd hm => by
      have := (List.all_eq_true.mp sr) kd hm
      rwa [Bool.and_eq_true] at this
    have tN5 := u5.tab _ tN
    have tA5 := u5.tab _ tA
    have tH5 := u5.tab _ tH
    have hz5 := sqT_g s5 hz4
    have hk5 := dp_g u5 _ _ hk
    refine ⟨rd, _, hrd, trivial, fun od => ?_⟩
    have sl : SameB (.ref rd) H5 (upd H5 rd (.frz od (.dK ws))) := SameB.lock hrd fun ps z => nomatch z
    refine ⟨.ref rd, rfl, rd, od, ws, rfl, upd_same, for_it walk_items (fun i σ H' => ∃ y4 y5 : Option V, σ = [some (.ref pz), some (.ref pg), some (.ref rd), some vk, y4, y5, none, none, none] ∧ SameB (.ref rd) H5 H' ∧ H' rd = some (.frz od (.dK ws)) ∧ ∀ kd ∈ kvs.take i, okRoom ns kd = true)
      ⟨none, none, rfl, sl, upd_same, fun kd h => by simp at h⟩ (fun i σ H' _ ⟨_, _, _, _, e, _⟩ => e) ?_ ?_⟩
    · rintro i x σ H6 H7 hi ⟨y4, y5, rfl, s6, hv6, done⟩ ⟨tp, x1, x2, rfl, ntp, rfl, ea, eb⟩
      dsimp only at ea eb
      have hi' : i < kvs.length := hwl ▸ hi
      rw [List.getElem?_eq_getElem hi] at ea eb
      obtain rfl := Option.some.inj ea
      obtain rfl := Option.some.inj eb
      have ekey : (ws[i]).1 = (kvs[i]).1 := by
        have := congrArg (fun l => l[i]?) hks
        simp only [List.getElem?_map, List.getElem?_eq_getElem hi, List.getElem?_eq_getElem hi', Option.map_some] at this
        exact Option.some.inj this
      have dval : Dp K H5 (ws[i]).2 (kvs[i]).2 := by
        obtain ⟨d, ed, dd⟩ := dps_at hvs (i := i) (v := (ws[i]).2) (by rw [List.getElem?_map, List.getElem?_eq_getElem hi]; rfl)
        rw [List.getElem?_map, List.getElem?_eq_getElem hi'] at ed
        exact Option.some.inj ed ▸ dd
      have hm : kvs[i] ∈ kvs := List.getElem_mem hi'
      have s7 : SameB (.ref rd) H5 (upd H6 tp (.tup [kV (ws[i]).1, (ws[i]).2])) := s6.trans (SameB.of (SameG.of (same_upd ntp)))
      have hv7 : upd H6 tp (.tup [kV (ws[i]).1, (ws[i]).2]) rd = some (.frz od (.dK ws)) := same_upd ntp _ _ hv6
      refine ⟨tp, _, rfl, SqT.of upd_same, rfl, _, _, rfl, _, _, rfl, rfl, ?_⟩
      generalize upd H6 tp (.tup [kV (ws[i]).1, (ws[i]).2]) = H7 at s7 hv7 ⊢
      have bad4 : okRoom ns kvs[i] = false → ∀ H', SameB (.ref rd) H5 H' → E (.ref C) none H' := fun e H' s' => bad3 (by
        have : kvs.all (okRoom ns) = false := by
          rw [List.all_eq_false]
          exact ⟨_, hm, by rw [e]; decide⟩
        show (kvs.all (okRoom ns) && _) = false
        rw [this]
        rfl) H' ((SameB.of u5).trans s')
      refine ⟨_, rfl, kV (ws[i]).1, keyPd (kvs[i]).1, rfl, by rw [ekey]; exact dp_kV _, small_txt (sr' _ hm).1, s7.tab _ tN5, fun H8 s8 => ⟨pName (keyPd (kvs[i]).1), rfl, ?_⟩⟩
      have v8 := s7.trans (SameB.of s8)
      cases e6 : pName (keyPd (kvs[i]).1) with
      | false => exact iteF ⟨false, rfl, (fun q => nomatch q), fun _ => bad4 (by simp [okRoom, e6]) H8 v8⟩
      | true =>
      refine iteT ⟨_, rfl, (ws[i]).2, (kvs[i]).2, 0, 4, rfl, dp_x v8 hrd _ _ dval, pRow 0 4 (kvs[i]).2, rfl, fun e7 => ?_, fun e7 => bad4 (by simp [okRoom, e7]) H8 v8⟩
      obtain ⟨ps, eps⟩ : ∃ ps, (kvs[i]).2 = .tuple ps := by
        cases ed : (kvs[i]).2 with
        | tuple ps => exact ⟨ps, rfl⟩
        | _ => rw [ed] at e7; exact nomatch e7
      have dval8 := dp_x v8 hrd _ _ dval
      generalize (ws[i]).2 = wv at dval8 ⊢
      rw [eps] at dval8
      cases dval8 with
      | @tup pp xp _ hpp hAp =>
      refine ⟨_, rfl, pp, rfl, ⟨_, hpp⟩, v8.tab _ tH5, fun H9 h9 => ?_⟩
      have s9 := SameG.tabbed (v8.tab _ tH5) h9
      have v9 := v8.trans (SameB.of s9)
      refine all_tup (r := okPair ns) (sqT_g s9 hpp) (dps_g s9 _ _ hAp) (fun H10 s10 => ?_) (fun x d H10 N s10 md dd yes no => ?_)
      rotate_left
      · refine ⟨rfl, _, rfl, x, d, 2, 2, rfl, dd, pRow 2 2 d, rfl, ?_⟩
        have eok : okPair ns d = (pRow 2 2 d && pAtoms ns 2 d) := rfl
        rw [eok] at yes no
        cases e8 : pRow 2 2 d with
        | false =>
          rw [e8] at no
          exact iteF ⟨false, rfl, (fun q => nomatch q), fun _ => no rfl H10 s10⟩
        | true =>
          rw [e8, Bool.true_and] at yes no
          refine iteT ⟨_, rfl, _, rfl, x, d, pz, 2, ns, rfl, dd, sqT_x (v9.trans (SameB.of s10)) hrd hz5, (v9.trans (SameB.of s10)).tab _ tA5, fun H11 s11 => ⟨pAtoms ns 2 d, rfl, fun q => yes q H11 (s10.trans s11), fun q => no q H11 (s10.trans s11)⟩⟩
      refine ⟨_, rfl, fun e8 => ?_, fun e8 => bad4 (by
        unfold okRoom
        rw [eps]
        show (_ && ps.all (okPair ns)) = false
        rw [e8, Bool.and_false]) H10 (v9.trans (SameB.of s10))⟩
      have sall := v9.trans (SameB.of s10)
      refine ⟨_, _, rfl, sall, ?_, fun kd hkd => ?_⟩
      · exact (s8.trans (s9.trans s10)).keep _ _ hv7 fun ps z => nomatch z
      · rw [List.take_add_one, List.getElem?_eq_getElem hi'] at hkd
        rcases List.mem_append.mp hkd with hkd | hkd
        · exact done kd hkd
        · rw [Option.toList_some, List.mem_singleton] at hkd
          subst hkd
          unfold okRoom
          rw [e6, e7, eps]
          exact e8
    · rintro σ H6 ⟨y4, y5, rfl, s6, hv6, done⟩
      refine ⟨hv6, ?_⟩
      have u6 := u5.trans (s6.back hrd hv6)
      have er : okRooms ns (.dict kvs) = true := List.all_eq_true.mpr fun kd hkd => done kd (by rw [hwl, List.take_length]; exact hkd)
      have bad5 : okKept k = false → ∀ H', SameB (.ref rd) H H' → E (.ref C) none H' := fun e => bad3 (by rw [er]; exact e)
      have good5 : okKept k = true → ∀ H', SameG H H' → Q .non H' := fun e => good3 (by rw [er]; exact e)
      generalize upd H6 rd (.dK ws) = H7 at u6 ⊢
      have kd := dp_g u6 _ _ hk
      refine ⟨_, rfl, vk, k, rfl, kd, isTup k, rfl, ?_⟩
      cases e9 : isTup k with
      | false => exact iteF ⟨false, rfl, (fun q => nomatch q), fun _ => bad5 (by simp [okKept, e9]) H7 (SameB.of u6)⟩
      | true =>
      obtain ⟨ls, rfl⟩ : ∃ ls, k = .tuple ls := by
        cases k with
        | tuple ls => exact ⟨ls, rfl⟩
        | _ => exact nomatch e9
      have ksmall := small_tup sk
      cases kd with
      | @tup pk xk _ hpk hAk =>
      refine iteT ⟨_, rfl, pk, rfl, ⟨_, hpk⟩, u6.tab _ tH, fun H8 h8 => ?_⟩
      have s8 := SameG.tabbed (u6.tab _ tH) h8
      have v8 := u6.trans s8
      refine all_tup (r := pName) (sqT_g s8 hpk) (dps_g s8 _ _ hAk) (fun H9 s9 => ?_) (fun x d H9 N s9 md dd yes no => ?_)
      rotate_left
      · refine ⟨rfl, _, rfl, x, d, rfl, dd, small_txt (ksmall.2 d md), s9.tab _ (v8.tab _ tN), fun H10 s10 => ⟨pName d, rfl, fun q => yes q H10 (s9.trans s10), fun q => no q H10 (s9.trans s10)⟩⟩
      have v9 := v8.trans s9
      refine ⟨_, rfl, fun e10 => ?_, fun e10 => bad5 (by
        unfold okKept items
        rw [e10, Bool.and_false]
        rfl) H9 (SameB.of v9)⟩
      obtain ⟨ks, rfl, hks'⟩ := names_strs e10
      have s79 := s8.trans s9
      refine ⟨_, rfl, .ref pk, ks.map PyData.str, rfl, .tup (sqT_g s79 hpk) (dps_g s79 _ _ hAk), ksmall.1, .inl ⟨ks, rfl⟩, ?_, fun e11 H10 s10 => bad5 (by
        unfold okKept items
        rw [e11, Bool.and_false]) H10 (SameB.of (v9.trans s10))⟩
      intro e11 H10 s10
      exact good5 (by
        unfold okKept items
        rw [e11, e10]
        rfl) H10 (v9.trans s10)
end
end Kd
/-! numbers_of -/
namespace Kd
open PySem L2 Lo
abbrev Fact : Type := Str × PyData
/-- an int, or a pair of ints -/
def manyOk : PyData → Bool
  | .int _ => true
  | .tuple [.int _, .int _] => true
  | _ => false
theorem many_cases {d : PyData} (h : manyOk d = true) : (∃ i, d = .int i) ∨ ∃ i j, d = .tuple [.int i, .int j] := by
  cases d with
  | int i => exact .inl ⟨i, rfl⟩
  | tuple ds =>
    match ds, h with
    | [.int i, .int j], _ => exact .inr ⟨i, j, rfl⟩
  | _ => exact nomatch h
theorem many_shaped {d : PyData} (h : manyOk d = true) : SeqAt.shaped d = true := by
  rcases many_cases h with ⟨i, rfl⟩ | ⟨i, j, rfl⟩ <;> rfl
theorem many_eqv {d : PyData} (h : manyOk d = true) : PyData.eqv d d = true := by
  rcases many_cases h with ⟨i, rfl⟩ | ⟨i, j, rfl⟩ <;> simp [PyData.eqv, PyData.eqvAll]
def firstOf (fs : List Fact) (x : Str) : Option PyData := (fs.find? fun p => decide (p.1 = x)).map Prod.snd
def agree (fs : List Fact) (p : Fact) : Bool := match firstOf fs p.1 with
  | some d => PyData.eqv d p.2
  | none => false
/-- all that is told of a name is the same -/
def numsOk (fs : List Fact) : Bool := fs.all (agree fs)
theorem first_more {fs gs : List Fact} {x : Str} {d : PyData} (h : firstOf fs x = some d) : firstOf (fs ++ gs) x = some d := by
  unfold firstOf at h ⊢
  rw [List.find?_append]
  cases e : fs.find? fun p => decide (p.1 = x) with
  | none => rw [e] at h; exact nomatch h
  | some q => rw [e] at h; exact h
theorem first_new {fs : List Fact} {p : Fact} (h : firstOf fs p.1 = none) : firstOf (fs ++ [p]) p.1 = some p.2 := by
  unfold firstOf at h ⊢
  rw [List.find?_append]
  cases e : fs.find? fun q => decide (q.1 = p.1) with
  | none =>
    show (([p]).find? fun q => decide (q.1 = p.1)).map Prod.snd = some p.2
    rw [List.find?_cons_of_pos (by simp)]
    rfl
  | some q => rw [e] at h; exact nomatch h
theorem first_keep {fs : List Fact} {p : Fact} {x : Str} (h : x ≠ p.1) : firstOf (fs ++ [p]) x = firstOf fs x := by
  unfold firstOf
  rw [List.find?_append]
  cases e : fs.find? fun q => decide (q.1 = x) with
  | none =>
    show (([p]).find? fun q => decide (q.1 = x)).map Prod.snd = none
    rw [List.find?_cons_of_neg (by simpa using fun z => h z.symm)]
    rfl
  | some q => rfl
theorem first_mem {fs : List Fact} {x : Str} {d : PyData} (h : firstOf fs x = some d) : (x, d) ∈ fs := by
  unfold firstOf at h
  cases e : fs.find? fun p => decide (p.1 = x) with
  | none => rw [e] at h; exact nomatch h
  | some q =>
    rw [e] at h
    have h1 := List.find?_some e
    have h2 := List.mem_of_find?_eq_some e
    have e1 : q.1 = x := of_decide_eq_true h1
    have e2 : q.2 = d := Option.some.inj h
    rw [← e1, ← e2]
    exact h2
/-- the names in the order in which they come -/
def namesIn (fs : List Fact) : List Str := fs.foldl (fun ks p => addN ks p.1) []
theorem namesIn_snoc (fs : List Fact) (p : Fact) : namesIn (fs ++ [p]) = addN (namesIn fs) p.1 := by
  unfold namesIn
  rw [List.foldl_append]
  rfl
theorem namesIn_first (fs : List Fact) (x : Str) : x ∈ namesIn fs ↔ ∃ d, firstOf fs x = some d := by
  have key : ∀ n, n ≤ fs.length → (x ∈ namesIn (fs.take n) ↔ ∃ d, firstOf (fs.take n) x = some d) := by
    intro n
    induction n with
    | zero =>
      intro _
      rw [List.take_zero]
      exact ⟨(fun h => nomatch h), (fun ⟨d, h⟩ => nomatch h)⟩
    | succ n ih =>
      intro hn
      have ih := ih (Nat.le_of_succ_le hn)
      rw [List.take_add_one, List.getElem?_eq_getElem hn, Option.toList_some, namesIn_snoc, mem_addN, ih]
      by_cases e : x = (fs[n]).1
      · refine ⟨fun _ => ?_, fun _ => .inr e⟩
        rw [e]
        cases f : firstOf (fs.take n) (fs[n]).1 with
        | some d => exact ⟨d, first_more f⟩
        | none => exact ⟨_, first_new f⟩
      · rw [first_keep e]
        exact ⟨fun h => h.resolve_right e, .inl⟩
  have := key fs.length (Nat.le_refl _)
  rwa [List.take_length] at this
theorem namesIn_nodup (fs : List Fact) : (namesIn fs).Nodup ∧ (namesIn fs).length ≤ fs.length := by
  have key : ∀ n, n ≤ fs.length → (namesIn (fs.take n)).Nodup ∧ (namesIn (fs.take n)).length ≤ n := by
    intro n
    induction n with
    | zero => exact fun _ => ⟨List.nodup_nil, Nat.le_refl _⟩
    | succ n ih =>
      intro hn
      obtain ⟨a, b⟩ := ih (Nat.le_of_succ_le hn)
      rw [List.take_add_one, List.getElem?_eq_getElem hn, Option.toList_some, namesIn_snoc]
      unfold addN
      split
      · exact ⟨a, Nat.le_succ_of_le b⟩
      · rename_i h
        refine ⟨List.nodup_append.mpr ⟨a, List.nodup_cons.mpr ⟨List.not_mem_nil, List.nodup_nil⟩, fun x hx y hy e => h ?_⟩, ?_⟩
        · rw [List.mem_singleton] at hy
          rw [← hy, ← e]
          exact hx
        · rw [List.length_append]
          simpa using b
  have := key fs.length (Nat.le_refl _)
  rwa [List.take_length] at this
/-- another thing is stored there -/
theorem SameB.set {H : Hp} {rd : Addr} {o o' : HO} (e : H rd = some o) (n : ∀ ps, o ≠ .tbl ps) : SameB (.ref rd) H (upd H rd o') :=
  ⟨fun b x ne h _ => by rw [upd_ne fun z => ne (by rw [z])]; exact h, fun T h => tab_upd h (tab_ne h e n)⟩
def factD (p : Fact) : PyData := .tuple [.str p.1, p.2]
section
variable {P : Program} {w : World} {K : PySem.W.Frag} {mg : Str → Option Value} {base : Heap}
def spNums (K : PySem.W.Frag) (C : Addr) : Sp := fun vs H Q E => ∃ (l : Addr) (xs : List V) (fs : List Fact), vs = [.ref l] ∧ SqL K H l xs ∧ DpAll K H xs (fs.map factD) ∧ fs.length < 60 ∧ (∀ p ∈ fs, manyOk p.2 = true) ∧
  (numsOk fs = true → ∀ (H' : Hp) (p : Addr) (ys : List Str) (f : Str → V), Same H H' → H p = none → H' p = some (.dK (dS ys f)) → ys.Perm (namesIn fs) → PyProof.Rows.sortedS ys = true → (∀ x ∈ ys, ∃ d, firstOf fs x = some d ∧ Dp K H' (f x) d) → Q (.ref p) H') ∧
  (numsOk fs = false → ∀ H', SameG H H' → E (.ref C) none H')
abbrev nNums : List Str := ["facts", "found", "name", "many"]
theorem scNums : FnScope nNums ["facts"] (defScope sNumbersOf) := ⟨rfl, rfl, rfl, by decide +kernel, rfl, by decide +kernel, by decide +kernel⟩
theorem ok_nums {C f fC : Addr} {fd fdC : FuncData} (F : Fun K "numbers_of" "numbers_of" sNumbersOf f fd) (hsorted : mg "sorted" = none)
    (GC : FnOk P w K mg base (L2.CX P w) 1 fC fdC ["fits"] (spCheck C)) (kC : PySem.W.keepIn K (.ref fC) = true) (bC : Binds K fdC ["fits"] []) (gC : mg "check" = some (.ref fC)) :
    FnOk P w K mg base (L2.CX P w) 2 f fd ["facts"] (spNums K C) := by
  refine F.okX scNums (fun vs H Q E h => ?_) (fun cdv A outer s H vs Q E hr h => ?_)
  · obtain ⟨l, xs, fs, rfl, _⟩ := h
    rfl
  · obtain ⟨l, xs, fs, rfl, hl, hA, few, mok, good, bad⟩ := h
    have nd := scNums.nd
    have hu := hu_of hr
    refine ⟨_, pss_cons (ps_set (i := 1) nd rfl (.inr rfl) pe_dnewK)
      (pss_cons (ps_for (passes_of rfl) rfl (pi_list (pv 0)) (pg_tup rfl (pgs_cons (pg_name (i := 2) nd rfl (.inl rfl)) (pgs_cons (pg_name (i := 3) nd rfl (.inl rfl)) pgs_nil)))
        (pss_one (ps_expr (pe_callS GC hr (by rfl) gC kC bC (fun σ => passAt (takes_of rfl rfl rfl rfl) σ) (pa_cons (pe_cmpR (op_eqD hr.units) (pe_dsetd (pv 1) (pv 2) (pv 3) ⟨rfl, rfl, rfl, rfl⟩) (pv 3) (nomark _)) pa_nil)))))
      (pss_one (ps_ret (pe_dc (own := [("name", 2)]) (g := gName 2) (tt := tYes) rfl nd (pi_list (pe_callB (call_sortedD rfl) (by rfl) hsorted PyProof.Rows.boot_sorted (pa_cons (pv 1) pa_nil))) (blkOk_by (N := nNums) (sc := defScope sNumbersOf) (by decide +kernel))
        (fun _ _ _ _ _ => pg_name (i := 2) nd rfl (.inl rfl)) (fun _ _ _ _ _ => pts_nil) (fun _ _ _ _ _ => pv 2) (fun _ _ _ _ _ => pe_dget hu (pv 1) (pv 2) (fun _ _ => rfl)))))), ?_⟩
    refine fun d nd0 => ?_
    have hlx := dps_len hA
    rw [List.length_map] at hlx
    have s0 := same_upd (o := HO.dK []) nd0
    refine ⟨_, rfl, l, rfl, ⟨_, s0.seq hl⟩, for_list (K := K) (a := l) (xs := xs) (fun i σ H' => ∃ (y2 y3 : Option V) (f : Str → V), σ = [some (.ref l), some (.ref d), y2, y3] ∧ Same H H' ∧ H' d = some (.dK (dS (namesIn (fs.take i)) f)) ∧ (∀ p ∈ fs.take i, agree fs p = true) ∧ ∀ x ∈ namesIn (fs.take i), ∃ e, firstOf fs x = some e ∧ Dp K H' (f x) e)
      ⟨none, none, fun _ => .non, rfl, s0, upd_same, fun p h => by simp at h, fun x h => by simp [namesIn] at h⟩ (fun i σ H' _ ⟨_, _, _, _, k, _⟩ => k.seq hl) ?_ ?_⟩
    · rintro i x σ H1 hx ⟨y2, y3, f, rfl, s1, hd, done, hf⟩
      have hi : i < fs.length := by
        rw [← hlx]
        exact (List.getElem?_eq_some_iff.mp hx).1
      obtain ⟨e, ee, dd⟩ := dps_at hA hx
      rw [List.getElem?_map, List.getElem?_eq_getElem hi] at ee
      obtain rfl := Option.some.inj ee
      obtain ⟨p, vn, vm, rfl, hp, dn, dm⟩ := dp_pair dd
      have hp1 := sqT_g (SameG.of s1) hp
      have dn1 := dp_g (SameG.of s1) _ _ dn
      have dm1 := dp_g (SameG.of s1) _ _ dm
      cases dn1
      refine ⟨p, _, rfl, hp1, rfl, _, _, rfl, _, _, rfl, rfl, ?_⟩
      have hm : fs[i] ∈ fs := List.getElem_mem hi
      have ok := mok _ hm
      have etake : fs.take (i + 1) = fs.take i ++ [fs[i]] := by rw [List.take_add_one, List.getElem?_eq_getElem hi]; rfl
      have efs : fs = fs.take (i + 1) ++ fs.drop (i + 1) := (List.take_append_drop (i + 1) fs).symm
      have hlen : (dS (namesIn (fs.take i)) f).length < sizeLine := by
        rw [dS_len]
        have h1 := (namesIn_nodup (fs.take i)).2
        rw [List.length_take] at h1
        exact Nat.lt_of_le_of_lt (Nat.le_trans h1 (Nat.min_le_right _ _)) (Nat.lt_of_lt_of_le few (by decide))
      have agr : ∀ e, firstOf fs (fs[i]).1 = some e → agree fs fs[i] = PyData.eqv e (fs[i]).2 := fun e he => by
        unfold agree
        rw [he]
      have wrong : agree fs fs[i] = false → numsOk fs = false := fun e => by
        unfold numsOk
        rw [List.all_eq_false]
        exact ⟨_, hm, by rw [e]; decide⟩
      have done' : agree fs fs[i] = true → ∀ p ∈ fs.take (i + 1), agree fs p = true := fun e p hp => by
        rw [etake] at hp
        rcases List.mem_append.mp hp with hp | hp
        · exact done p hp
        · rw [List.mem_singleton.mp hp]
          exact e
      refine ⟨_, rfl, d, rfl, .inl ⟨_, Rd.of hd⟩, _, rfl, _, rfl, _, Sum.inr (fs[i]).1, hd, rfl, hlen, fun v hv => ?_, fun hv => ?_⟩
      · have hin : (fs[i]).1 ∈ namesIn (fs.take i) := by
          rw [dS_val] at hv
          by_cases z : (fs[i]).1 ∈ namesIn (fs.take i)
          · exact z
          · rw [if_neg z] at hv
            exact nomatch hv
        rw [dS_in hin] at hv
        obtain rfl := Option.some.inj hv
        obtain ⟨e, he, de⟩ := hf _ hin
        have ek := mok _ (first_mem he)
        refine ⟨_, rfl, e, _, de, dm1, many_shaped ek, many_shaped ok, _, rfl, fun eb => ?_, fun eb => bad (wrong (by rw [agr e he]; exact eb)) _ (SameG.of s1)⟩
        have enames : namesIn (fs.take (i + 1)) = namesIn (fs.take i) := by
          rw [etake, namesIn_snoc]
          unfold addN
          rw [if_pos hin]
        exact ⟨_, _, f, rfl, s1, by rw [enames]; exact hd, done' (by rw [agr e he]; exact eb), by rw [enames]; exact hf⟩
      · have hout : (fs[i]).1 ∉ namesIn (fs.take i) := fun z => by
          rw [dS_in z] at hv
          exact nomatch hv
        have hnone : firstOf (fs.take i) (fs[i]).1 = none := by
          cases e : firstOf (fs.take i) (fs[i]).1 with
          | none => rfl
          | some e' => exact absurd ((namesIn_first _ _).mpr ⟨e', e⟩) hout
        have he : firstOf fs (fs[i]).1 = some (fs[i]).2 := by
          have h1 := first_new hnone
          rw [← etake] at h1
          have h2 := first_more (gs := fs.drop (i + 1)) h1
          rwa [List.take_append_drop] at h2
        have s2 : Same H (upd H1 d (.dK (putK (dS (namesIn (fs.take i)) f) (Sum.inr (fs[i]).1) vm))) := s1.later nd0
        refine ⟨_, rfl, (fs[i]).2, _, ?_, ?_, many_shaped ok, many_shaped ok, _, rfl, fun eb => ?_, fun eb => bad (wrong (by rw [agr _ he]; exact eb)) _ (SameG.of s2)⟩
        · exact dp_g (SameG.of s2) _ _ dm
        · exact dp_g (SameG.of s2) _ _ dm
        refine ⟨_, _, put f (fs[i]).1 vm, rfl, s2, ?_, done' (by rw [agr _ he]; exact eb), fun x hx => ?_⟩
        · rw [upd_same, dS_put, etake, namesIn_snoc]
        · rw [etake, namesIn_snoc, mem_addN] at hx
          by_cases z : x = (fs[i]).1
          · refine ⟨(fs[i]).2, by rw [z]; exact he, ?_⟩
            rw [z, put_at]
            exact dp_g (SameG.of s2) _ _ dm
          · obtain ⟨e, he', de⟩ := hf x (hx.resolve_right z)
            refine ⟨e, he', ?_⟩
            rw [put_off z]
            exact dp_x (SameB.set hd fun ps z => nomatch z) hd _ _ de
    · rintro σ H1 ⟨y2, y3, f, rfl, s1, hd, done, hf⟩
      rw [hlx, List.take_length] at hd done hf
      have allok : numsOk fs = true := List.all_eq_true.mpr done
      obtain ⟨knd, kle⟩ := namesIn_nodup fs
      have hkeys : (dS (namesIn fs) f).map (·.1) = (namesIn fs).map Sum.inr := by
        unfold dS
        rw [List.map_map]
        rfl
      refine ⟨_, rfl, d, _, namesIn fs, rfl, Rd.of hd, hkeys, by omega, fun ys l2 perm srt nl => ⟨l2, rfl, ⟨_, SqL.of upd_same⟩, fun D nD => ?_⟩⟩
      have s2 := same_upd (o := HO.lst (ys.map V.str)) nl
      have hl2 := upd_same (H := H1) (a := l2) (o := HO.lst (ys.map V.str))
      generalize upd H1 l2 (.lst (ys.map V.str)) = H2 at s2 hl2 nD ⊢
      have hd2 := s2 _ _ hd
      have s3 := same_upd (o := HO.dK []) nD
      have ynd : ys.Nodup := perm.nodup_iff.mpr knd
      have ylen : ys.length = (namesIn fs).length := perm.length_eq
      refine ⟨fun i m H' => m = ys.length - i ∧ i ≤ ys.length ∧ Same H2 H' ∧ H' D = some (.dK (dS (ys.take i) f)), ⟨_, rfl, Nat.zero_le _, s3, upd_same⟩, ?_⟩
      rintro i m H4 ⟨rfl, hi, s4, hD⟩
      by_cases hlt : i < ys.length
      · have hx : (ys.map V.str)[i]? = some (.str ys[i]) := by
          rw [List.getElem?_map, List.getElem?_eq_getElem hlt]
          rfl
        refine .inr ⟨⟨_, _, SqL.of (s4 _ _ hl2), hx⟩, fun H' => i + 1 ≤ ys.length ∧ Same H2 H' ∧ H' D = some (.dK (dS (ys.take (i + 1)) f)), fun H' hN => ⟨ys.length - (i + 1), by omega, rfl, hN⟩, fun x H' hy => ?_⟩
        obtain ⟨rfl, hy⟩ := hy
        have ex : x = .str ys[i] := Option.some.inj ((hy _ (SqL.of (s4 _ _ hl2))).symm.trans hx)
        subst ex
        have hmem : ys[i] ∈ namesIn fs := perm.mem_iff.mp (List.getElem_mem hlt)
        refine ⟨rfl, ?_⟩
        unfold tYes
        refine iteT ⟨_, rfl, .ref d, rfl, .str ys[i], rfl, d, _, rfl, dget (s4 _ _ hd2) hmem, _, Sum.inr ys[i], rfl, hD, ?_, hlt, s4.later nD, ?_⟩
        · rw [dS_len, List.length_take]
          exact Nat.lt_of_le_of_lt (Nat.min_le_right _ _) (Nat.lt_of_lt_of_le (by omega : ys.length < 60) (by decide))
        · rw [upd_same, dS_put]
          have hout : ys[i] ∉ ys.take i := fun m => by
            have h1 := ynd
            rw [← List.take_append_drop i ys] at h1
            exact (List.nodup_append.mp h1).2.2 _ m _ (by rw [List.drop_eq_getElem_cons hlt]; exact List.mem_cons_self) rfl
          have e1 : addN (ys.take i) ys[i] = ys.take (i + 1) := by
            unfold addN
            rw [if_neg hout, List.take_add_one, List.getElem?_eq_getElem hlt]
            rfl
          rw [e1]
          congr 1
          congr 1
          refine dS_congr fun x hx => ?_
          by_cases z : x = ys[i]
          · rw [z, put_at]
          · rw [put_off z]
      · have ei : i = ys.length := by omega
        subst ei
        rw [List.take_length] at hD
        have sf : Same H H4 := (s1.trans s2).trans s4
        refine .inl ⟨⟨_, SqL.of (s4 _ _ hl2), by rw [List.length_map]; exact Nat.le_refl _⟩, good allok H4 D ys f sf ((s1.trans s2).free nD) hD perm srt fun x hx => ?_⟩
        obtain ⟨e, he, de⟩ := hf x (perm.mem_iff.mp hx)
        exact ⟨e, he, dp_g (SameG.of (s2.trans s4)) _ _ de⟩
end
end Kd
/-! _check_run -/
namespace Kd
open PySem L2 Lo
def okAccess (ns : List Str) (d : PyData) : Bool := match d with
  | .tuple [a, b] => pName a && pAtoms ns 4 b
  | _ => false
def okRun (ns : List Str) (ds : List PyData) : Bool := match ds with
  | [_, label, stamp, target, reads] => (pName label && pAtoms ns 8 stamp) && (pRow 0 6 reads && (target :: items reads).all (okAccess ns))
  | _ => false
theorem access_row {ns : List Str} {d : PyData} (h : pRow 2 2 d = false) : okAccess ns d = false := by
  cases d with
  | tuple ds =>
    match ds with
    | [a, b] => exact absurd h (by simp [pRow])
    | [] => rfl
    | [a] => rfl
    | a :: b :: c :: r => rfl
  | _ => rfl
theorem five_of {ds : List PyData} (h : ds.length = 5) : ∃ a b c d e, ds = [a, b, c, d, e] := by
  match ds, h with
  | [a, b, c, d, e], _ => exact ⟨a, b, c, d, e, rfl⟩
theorem six_of {ds : List PyData} (h : ds.length = 6) : ∃ a b c d e f, ds = [a, b, c, d, e, f] := by
  match ds, h with
  | [a, b, c, d, e, f], _ => exact ⟨a, b, c, d, e, f, rfl⟩
theorem three_of {ds : List PyData} (h : ds.length = 3) : ∃ a b c, ds = [a, b, c] := by
  match ds, h with
  | [a, b, c], _ => exact ⟨a, b, c, rfl⟩
theorem run_len {ns : List Str} {ds : List PyData} (h : ds.length ≠ 5) : okRun ns ds = false := by
  match ds with
  | [] => rfl
  | [a] => rfl
  | [a, b] => rfl
  | [a, b, c] => rfl
  | [a, b, c, d] => rfl
  | [a, b, c, d, e] => exact absurd rfl h
  | a :: b :: c :: d :: e :: f :: r => rfl
theorem dps_cons {K : PySem.W.Frag} {H : Hp} {vs : List V} {d : PyData} {ds : List PyData} (h : DpAll K H vs (d :: ds)) : ∃ v vs', vs = v :: vs' ∧ Dp K H v d ∧ DpAll K H vs' ds := by
  cases h with
  | cons a b => exact ⟨_, _, rfl, a, b⟩
theorem dps_nil {K : PySem.W.Frag} {H : Hp} {vs : List V} (h : DpAll K H vs []) : vs = [] := by
  cases h
  rfl
theorem tup_of_row {a b : Int} {d : PyData} (h : pRow a b d = true) : ∃ ds, d = .tuple ds := by
  cases d with
  | tuple ds => exact ⟨ds, rfl⟩
  | _ => exact nomatch h
section
variable {P : Program} {w : World} {K : PySem.W.Frag} {mg : Str → Option Value} {base : Heap}
def spRun (K : PySem.W.Frag) (C TN TA : Addr) : Sp := fun vs H Q E => ∃ (v : V) (ds : List PyData) (sc : Addr) (ns : List Str), vs = [v, .ref sc] ∧ Dp K H v (.tuple ds) ∧ small (.tuple ds) = true ∧ SqT K H sc (ns.map V.str) ∧ GxR.TabG H TN ∧ GxR.TabG H TA ∧ Fin C H Q E (okRun ns ds)
abbrev nRun : List Str := ["node", "scope", "_", "label", "stamp", "target", "reads", "access"]
theorem scRun : FnScope nRun ["node", "scope"] (defScope sCheckRun) := ⟨rfl, rfl, rfl, by decide +kernel, rfl, by decide +kernel, by decide +kernel⟩
theorem ok_run {C f TN TA fC fR fN fA : Addr} {fd fdC fdR fdN fdA : FuncData} {t1 t2 t3 : Nat} (F : Fun K "_check_run" "_check_run" sCheckRun f fd) (B : Blt mg)
    (h8 : mg "MOST_STAMP" = some (.int 8 t1)) (h6 : mg "MOST_READS" = some (.int 6 t2)) (h4 : mg "MOST_INDEXES" = some (.int 4 t3))
    (GC : FnOk P w K mg base (L2.CX P w) 1 fC fdC ["fits"] (spCheck C)) (kC : PySem.W.keepIn K (.ref fC) = true) (bC : Binds K fdC ["fits"] []) (gC : mg "check" = some (.ref fC))
    (GR : FnOk P w K mg base CX0 1 fR fdR ["thing", "least", "most"] (spIsRow K)) (kR : PySem.W.keepIn K (.ref fR) = true) (bR : Binds K fdR ["thing", "least", "most"] []) (gR : mg "is_row" = some (.ref fR))
    (GN : FnOk P w K mg base CX0 2 fN fdN ["thing"] (spNestName K TN)) (kN : PySem.W.keepIn K (.ref fN) = true) (bN : Binds K fdN ["thing"] []) (gN : mg "is_nest_name" = some (.ref fN))
    (GA : FnOk P w K mg base CX0 5 fA fdA ["thing", "scope", "most"] (spAreAtoms K TA)) (kA : PySem.W.keepIn K (.ref fA) = true) (bA : Binds K fdA ["thing", "scope", "most"] []) (gA : mg "are_atoms" = some (.ref fA)) :
    FnOk P w K mg base (L2.CX P w) 6 f fd ["node", "scope"] (spRun K C TN TA) := by
  refine F.okX scRun (fun vs H Q E h => ?_) (fun cdv A outer s H vs Q E hr h => ?_)
  · obtain ⟨v, ds, sc, ns, rfl, _⟩ := h
    rfl
  · obtain ⟨v, ds, sc, ns, rfl, hd, sm, hs, tN, tA, fin⟩ := h
    have nd := scRun.nd
    have r1 := hr.mono (show 1 ≤ 5 by decide)
    have r2 := hr.mono (show 2 ≤ 5 by decide)
    have body : PSs (cxOf (L2.CX P w) P w K mg base nRun "_check_run" (defScope sCheckRun) f cdv A outer s H E) (defBody sCheckRun) _ := pss_cons (ps_expr (pe_callS GC r1 (by rfl) gC kC bC (fun σ => passAt (takes_of rfl rfl rfl rfl) σ) (pa_cons (pe_cmpR op_eq (pe_callB call_len_seq (by rfl) B.len PySem.boot_len (pa_cons (pv 0) pa_nil)) pe_int (nomark _)) pa_nil)))
      (pss_cons (ps_asg (pv 0) (pg_tup rfl (pgs_cons (pg_name (i := 2) nd rfl (.inl rfl)) (pgs_cons (pg_name (i := 3) nd rfl (.inl rfl)) (pgs_cons (pg_name (i := 4) nd rfl (.inl rfl)) (pgs_cons (pg_name (i := 5) nd rfl (.inl rfl)) (pgs_cons (pg_name (i := 6) nd rfl (.inl rfl)) pgs_nil)))))))
      (pss_cons (ps_expr (pe_callS GC r1 (by rfl) gC kC bC (fun σ => passAt (takes_of rfl rfl rfl rfl) σ) (pa_cons (pe_and (pe_call GN r2 (by rfl) gN kN bN .nil pass0 (pa_cons (pv 3) pa_nil)) (pe_one (pe_call GA hr (by rfl) gA kA bA .nil pass0 (pa_cons (pv 4) (pa_cons (pv 1) (pa_cons (pe_glob (v := .int 8) (by rfl) h8 ⟨_, rfl⟩) pa_nil)))))) pa_nil)))
      (pss_cons (ps_expr (pe_callS GC r1 (by rfl) gC kC bC (fun σ => passAt (takes_of rfl rfl rfl rfl) σ) (pa_cons (pe_call GR r1 (by rfl) gR kR bR .nil pass0 (pa_cons (pv 6) (pa_cons pe_int (pa_cons (pe_glob (v := .int 6) (by rfl) h6 ⟨_, rfl⟩) pa_nil)))) pa_nil)))
      (pss_one (ps_for (passes_of rfl) rfl (pi_tup (pe_tup (pa_cons (pv 5) (StX.pa_star (pv 6) pa_nil)))) (pg_name (i := 7) nd rfl (.inl rfl))
        (pss_one (ps_expr (pe_callS GC r1 (by rfl) gC kC bC (fun σ => passAt (takes_of rfl rfl rfl rfl) σ) (pa_cons (pe_and (pe_call GR r1 (by rfl) gR kR bR .nil pass0 (pa_cons (pv 7) (pa_cons pe_int (pa_cons pe_int pa_nil))))
          (pe_and (pe_call GN r2 (by rfl) gN kN bN .nil pass0 (pa_cons (pe_ix ix_tup (pv 7) pe_int (fun _ _ => rfl)) pa_nil)) (pe_one (pe_call GA hr (by rfl) gA kA bA .nil pass0 (pa_cons (pe_ix ix_tup (pv 7) pe_int (fun _ _ => rfl)) (pa_cons (pv 1) (pa_cons (pe_glob (v := .int 4) (by rfl) h4 ⟨_, rfl⟩) pa_nil))))))) pa_nil)))))))))
    refine ⟨_, body, ?_⟩
    have bad := fin.2
    have smd := small_tup sm
    cases hd with
    | @tup p xs _ hp hA =>
    have hl := dps_len hA
    refine ⟨_, rfl, p, xs, rfl, .inr hp, rfl, _, rfl, fun e => ?_, fun e => bad (run_len fun z => of_decide_eq_false e (by rw [hl, z]; rfl)) _ (SameG.refl _)⟩
    have h5 : ds.length = 5 := by
      have := of_decide_eq_true e
      injection this with this
      rw [hl] at this
      omega
    obtain ⟨d0, label, stamp, target, reads, rfl⟩ := five_of h5
    obtain ⟨v0, xs, rfl, _, hA⟩ := dps_cons hA
    obtain ⟨v1, xs, rfl, a1, hA⟩ := dps_cons hA
    obtain ⟨v2, xs, rfl, a2, hA⟩ := dps_cons hA
    obtain ⟨v3, xs, rfl, a3, hA⟩ := dps_cons hA
    obtain ⟨v4, xs, rfl, a4, hA⟩ := dps_cons hA
    obtain rfl := dps_nil hA
    have eq : okRun ns [d0, label, stamp, target, reads] = ((pName label && pAtoms ns 8 stamp) && (pRow 0 6 reads && (target :: items reads).all (okAccess ns))) := rfl
    rw [eq] at bad
    refine ⟨_, rfl, p, _, rfl, hp, rfl, _, _, rfl, _, _, rfl, _, _, rfl, _, _, rfl, _, _, rfl, rfl, ?_⟩
    refine ⟨_, rfl, v1, label, rfl, a1, small_txt (smd.2 label (by simp)), tN, fun H1 s1 => ⟨pName label, rfl, ?_⟩⟩
    cases e1 : pName label with
    | false => exact iteF ⟨false, rfl, (fun q => nomatch q), fun _ => bad (by rw [e1]; rfl) H1 s1⟩
    | true =>
    refine iteT ⟨_, rfl, _, rfl, v2, stamp, sc, 8, ns, rfl, dp_g s1 _ _ a2, sqT_g s1 hs, s1.tab _ tA, fun H2 s2 => ⟨pAtoms ns 8 stamp, rfl, fun e2 => ?_, fun e2 => bad (by rw [e2, Bool.and_false]; rfl) H2 (s1.trans s2)⟩⟩
    have u2 := s1.trans s2
    refine ⟨_, rfl, v4, reads, 0, 6, rfl, dp_g u2 _ _ a4, pRow 0 6 reads, rfl, fun e3 => ?_, fun e3 => bad (by rw [e3, Bool.false_and, Bool.and_false]) H2 u2⟩
    obtain ⟨rs, rfl⟩ := tup_of_row e3
    have rsm := small_tup (smd.2 (.tuple rs) (by simp))
    have a42 := dp_g u2 _ _ a4
    cases a42 with
    | @tup pr xr _ hpr hAr =>
    have hlr := dps_len hAr
    have fine : (target :: rs).all (okAccess ns) = true → ∀ H', SameG H H' → Q .non H' := fun e => fin.1 (by
      rw [eq, e1, e2, e3]
      exact e)
    have wrong : (target :: rs).all (okAccess ns) = false → ∀ H', SameG H H' → E (.ref C) none H' := fun e => bad (by
      rw [e1, e2, e3]
      exact e)
    refine ⟨_, rfl, _, rfl, pr, xr, rfl, .inl hpr, ?_, fun t nt => ?_⟩
    · rw [List.append_nil, List.length_cons, hlr]
      exact Nat.le_trans (Nat.succ_le_of_lt rsm.1) (by decide)
    have s3 : SameG H2 (upd H2 t (.tup (v3 :: (xr ++ [])))) := SameG.of (same_upd nt)
    have ht : SqT K (upd H2 t (.tup (v3 :: (xr ++ [])))) t (v3 :: (xr ++ [])) := SqT.of upd_same
    have hAt : DpAll K (upd H2 t (.tup (v3 :: (xr ++ [])))) (v3 :: (xr ++ [])) (target :: rs) := by
      rw [List.append_nil]
      rw [List.append_nil] at s3
      exact .cons (dp_g (u2.trans s3) _ _ a3) (dps_g s3 _ _ hAr)
    have u3 := u2.trans s3
    have hlt : (v3 :: (xr ++ [])).length = (target :: rs).length := dps_len hAt
    have tsm : ∀ d ∈ target :: rs, small d = true := fun d hd => by
      rcases List.mem_cons.mp hd with rfl | hd
      · exact smd.2 _ (by simp)
      · exact rsm.2 d hd
    generalize upd H2 t (.tup (v3 :: (xr ++ []))) = H3 at ht hAt u3 ⊢
    refine ⟨t, rfl, ⟨_, ht⟩, for_tup (K := K) (a := t) (xs := v3 :: (xr ++ [])) (fun i σ H' => ∃ y : Option V, σ = [some (.ref p), some (.ref sc), some v0, some v1, some v2, some v3, some (.ref pr), y] ∧ SameG H3 H' ∧ ∀ d ∈ (target :: rs).take i, okAccess ns d = true) ⟨none, rfl, SameG.refl _, fun d h => by simp at h⟩
      (fun i σ H' _ ⟨_, _, k, _⟩ => sqT_g k ht) ?_ ?_⟩
    · rintro i x σ H4 hx ⟨y, rfl, s4, done⟩
      have hi : i < (target :: rs).length := by
        rw [← hlt]
        exact (List.getElem?_eq_some_iff.mp hx).1
      obtain ⟨d, ed, dd⟩ := dps_at (dps_g s4 _ _ hAt) hx
      have hm := List.mem_of_getElem? ed
      have u4 := u3.trans s4
      have wr : okAccess ns d = false → ∀ H', SameG H H' → E (.ref C) none H' := fun e => wrong (by
        rw [List.all_eq_false]
        exact ⟨d, hm, by rw [e]; decide⟩)
      refine ⟨_, rfl, x, d, 2, 2, rfl, dd, pRow 2 2 d, rfl, ?_⟩
      cases e4 : pRow 2 2 d with
      | false => exact iteF ⟨false, rfl, (fun q => nomatch q), fun _ => wr (access_row e4) H4 u4⟩
      | true =>
      obtain ⟨a, b, rfl⟩ := row_two e4
      obtain ⟨pa, va, vb, rfl, hpa, da, db⟩ := dp_pair dd
      have absm := small_tup (tsm _ hm)
      have eqa : okAccess ns (.tuple [a, b]) = (pName a && pAtoms ns 4 b) := rfl
      rw [eqa] at wr
      refine iteT ⟨_, rfl, pa, _, _, _, rfl, rfl, hpa, atI_nat (j := 0) rfl, va, a, rfl, da, small_txt (absm.2 a (by simp)), u4.tab _ tN, fun H5 s5 => ⟨pName a, rfl, ?_⟩⟩
      have u5 := u4.trans s5
      cases e5 : pName a with
      | false => exact iteF ⟨false, rfl, (fun q => nomatch q), fun _ => wr (by rw [e5]; rfl) H5 u5⟩
      | true =>
      refine iteT ⟨_, rfl, pa, _, _, _, rfl, rfl, sqT_g s5 hpa, atI_nat (j := 1) rfl, _, rfl, vb, b, sc, 4, ns, rfl, dp_g s5 _ _ db, sqT_g u5 hs, u5.tab _ tA, fun H6 s6 => ⟨pAtoms ns 4 b, rfl, fun e6 => ?_, fun e6 => wr (by rw [e6, Bool.and_false]) H6 (u5.trans s6)⟩⟩
      refine ⟨_, rfl, (s4.trans s5).trans s6, fun d' hd' => ?_⟩
      rw [List.take_add_one, ed] at hd'
      rcases List.mem_append.mp hd' with hd' | hd'
      · exact done d' hd'
      · rw [Option.toList_some, List.mem_singleton] at hd'
        rw [hd', eqa, e5, e6]
        rfl
    · rintro σ H4 ⟨y, rfl, s4, done⟩
      refine fine (List.all_eq_true.mpr fun d hd => done d ?_) H4 (u3.trans s4)
      rw [hlt, List.take_length]
      exact hd
end
end Kd
/-! what check_body asks; _check_loop, _check_test -/
namespace Kd
open PySem L2 Lo
def emptyD (d : PyData) : Bool := match d with
  | .tuple [] => true
  | _ => false
def okRow (ns : List Str) (d : PyData) : Bool := (pRow 1 12 d && pAtoms ns 12 d) && decide ((items d).map keyD).Nodup
def okDiffs (ns : List Str) (d : PyData) : Bool := (pRow 1 12 d && (items d).all (pDiff ns)) && decide ((items d).map keyD).Nodup
def freshD (ns : List Str) (d : PyData) : Bool := match d with
  | .str x => !decide (x ∈ ns)
  | _ => true
def okLoop (f : List Str → PyData → Bool) (ns : List Str) (ds : List PyData) : Bool := match ds with
  | [_, counter, lows, highs, down, body] => (pName counter && (freshD ns counter && isBoolD down)) && (okRow ns lows && (okRow ns highs && (!emptyD body && f (ns ++ strsOf [counter]) body)))
  | _ => false
def okTest (f : List Str → PyData → Bool) (ns : List Str) (ds : List PyData) : Bool := match ds with
  | [_, diffs, body] => okDiffs ns diffs && (!emptyD body && f ns body)
  | _ => false
def okNode (f : List Str → PyData → Bool) (ns : List Str) (d : PyData) : Bool := match d with
  | .tuple (.str k :: rest) => if k = "loop" then okLoop f ns (.str k :: rest) else if k = "test" then okTest f ns (.str k :: rest) else decide (k = "run") && okRun ns (.str k :: rest)
  | _ => false
/-- a body that may stand n - 1 deep at most; the number around it is 41 - n -/
def okBody : Nat → List Str → PyData → Bool
  | 0, _, _ => false
  | n + 1, ns, d => isTup d && ((emptyD d || decide (1 ≤ n)) && (items d).all (okNode (okBody n) ns))
theorem loop_len {f : List Str → PyData → Bool} {ns : List Str} {ds : List PyData} (h : ds.length ≠ 6) : okLoop f ns ds = false := by
  match ds with
  | [] => rfl
  | [a] => rfl
  | [a, b] => rfl
  | [a, b, c] => rfl
  | [a, b, c, d] => rfl
  | [a, b, c, d, e] => rfl
  | [a, b, c, d, e, g] => exact absurd rfl h
  | a :: b :: c :: d :: e :: g :: i :: r => rfl
theorem test_len {f : List Str → PyData → Bool} {ns : List Str} {ds : List PyData} (h : ds.length ≠ 3) : okTest f ns ds = false := by
  match ds with
  | [] => rfl
  | [a] => rfl
  | [a, b] => rfl
  | [a, b, c] => exact absurd rfl h
  | a :: b :: c :: d :: r => rfl
/-! ### rows of atoms and of differences can stand in a set -/
theorem atom_key {ns : List Str} {d : PyData} (h : pAtom ns d = true) : isTup d = true ∧ hashable d = true ∧ (keyD d).depth ≤ 8 := by
  match d, h with
  | .tuple [a, b], h =>
    have h' : (pSide ns a && pNum b) = true := h
    rw [Bool.and_eq_true] at h'
    obtain ⟨x, rfl⟩ := side_str h'.1
    obtain ⟨i, rfl⟩ : ∃ i, b = .int i := by
      cases b with
      | int i => exact ⟨i, rfl⟩
      | _ => exact nomatch h'.2
    exact ⟨rfl, by simp [hashable, hashables], by simp [keyD, keysD, NestedKey.depth, NestedKey.depthAll]⟩
theorem diff_key {ns : List Str} {d : PyData} (h : pDiff ns d = true) : isTup d = true ∧ hashable d = true ∧ (keyD d).depth ≤ 8 := by
  match d, h with
  | .tuple [a, b, c], h =>
    have h' : (pSide ns a && (pSide ns b && (neD a b && pNum c))) = true := h
    simp only [Bool.and_eq_true] at h'
    obtain ⟨x, rfl⟩ := side_str h'.1
    obtain ⟨y, rfl⟩ := side_str h'.2.1
    obtain ⟨i, rfl⟩ : ∃ i, c = .int i := by
      cases c with
      | int i => exact ⟨i, rfl⟩
      | _ => exact nomatch h'.2.2.2
    exact ⟨rfl, by simp [hashable, hashables], by simp [keyD, keysD, NestedKey.depth, NestedKey.depthAll]⟩
mutual
theorem small_lay : ∀ d : PyData, small d = true → d.canLay0 = true
  | .none, _ => by rw [PyData.canLay0]
  | .bool _, _ => by rw [PyData.canLay0]
  | .int _, _ => by rw [PyData.canLay0]
  | .str x, h => by
    rw [small, Bool.and_eq_true] at h
    rw [PyData.canLay0]
    exact h.2
  | .list ds, h => by
    rw [small, Bool.and_eq_true] at h
    rw [PyData.canLay0]
    exact smalls_lay ds h.2
  | .tuple ds, h => by
    rw [small, Bool.and_eq_true] at h
    rw [PyData.canLay0]
    exact smalls_lay ds h.2
  | .dict _, h => by rw [small] at h; exact nomatch h
theorem smalls_lay : ∀ ds : List PyData, smalls ds = true → PyData.canLayAll0 ds = true
  | [], _ => by rw [PyData.canLayAll0]
  | d :: ds, h => by
    rw [smalls, Bool.and_eq_true] at h
    rw [PyData.canLayAll0, Bool.and_eq_true]
    exact ⟨small_lay d h.1, smalls_lay ds h.2⟩
end
theorem eqv_empty (d : PyData) : PyData.eqv d (.tuple []) = emptyD d := by
  cases d with
  | tuple ds =>
    cases ds with
    | nil => simp [PyData.eqv, PyData.eqvAll, emptyD]
    | cons a b => simp [PyData.eqv, PyData.eqvAll, emptyD]
  | _ => simp [PyData.eqv, emptyD]
/-- x != () -/
def rNeNil (K : PySem.W.Frag) : R2 := fun x y H Q => ∃ d p, Dp K H x d ∧ small d = true ∧ y = .ref p ∧ SqT K H p [] ∧ Q (.bl (!emptyD d)) H
theorem op_neNil {X : Cx} (hu : X.A.units + 64 < cLine) : OpR X (compareOp .NotEq) (rNeNil X.K) := by
  intro pins s σ H x y v u Q I rx ry h
  obtain ⟨d, p, hd, sm, rfl, hp, q⟩ := h
  obtain ⟨as, r1⟩ := Dp.reads I d x v hd rx
  obtain ⟨bs, r2⟩ := Dp.reads I (.tuple []) (.ref p) u (.tup hp .nil) ry
  refine SeqAt.compareNe_reads r1 r2 (small_lay d sm) (by rw [PyData.canLay0, PyData.canLayAll0]) ?_ ⟨.bl _, H, I, rfl, by rw [eqv_empty]; exact q⟩
  have h1 : min d.depth (PyData.tuple []).depth ≤ (PyData.tuple []).depth := Nat.min_le_right _ _
  have h2 : (PyData.tuple []).depth ≤ 1 := by simp [PyData.depth, PyData.depthAll]
  omega
section
variable {P : Program} {w : World} {K : PySem.W.Frag} {mg : Str → Option Value} {base : Heap}
/-- the promise of check_body, n being 41 less the number around -/
def spBody (K : PySem.W.Frag) (C TN TA TT : Addr) (n : Nat) : Sp := fun vs H Q E => ∃ (v : V) (d : PyData) (sc : Addr) (ns : List Str), vs = [v, .ref sc, .int (41 - (n : Nat) : Int)] ∧ Dp K H v d ∧ small d = true ∧ SqT K H sc (ns.map V.str) ∧ ns.length + n ≤ 100 ∧ GxR.TabG H TN ∧ GxR.TabG H TA ∧ GxR.TabG H TT ∧ 0 < n ∧ Fin C H Q E (okBody n ns d)
def spLoop (K : PySem.W.Frag) (C TN TA TT : Addr) (n : Nat) : Sp := fun vs H Q E => ∃ (v : V) (ds : List PyData) (sc : Addr) (ns : List Str), vs = [v, .ref sc, .int (40 - (n : Nat) : Int)] ∧ Dp K H v (.tuple ds) ∧ small (.tuple ds) = true ∧ SqT K H sc (ns.map V.str) ∧ ns.length + n ≤ 99 ∧ GxR.TabG H TN ∧ GxR.TabG H TA ∧ GxR.TabG H TT ∧ 0 < n ∧ Fin C H Q E (okLoop (okBody n) ns ds)
def spTest (K : PySem.W.Frag) (C TN TA TT : Addr) (n : Nat) : Sp := fun vs H Q E => ∃ (v : V) (ds : List PyData) (sc : Addr) (ns : List Str), vs = [v, .ref sc, .int (40 - (n : Nat) : Int)] ∧ Dp K H v (.tuple ds) ∧ small (.tuple ds) = true ∧ SqT K H sc (ns.map V.str) ∧ ns.length + n ≤ 99 ∧ GxR.TabG H TN ∧ GxR.TabG H TA ∧ GxR.TabG H TT ∧ 0 < n ∧ Fin C H Q E (okTest (okBody n) ns ds)
abbrev nLoop : List Str := ["node", "scope", "around", "_", "counter", "lows", "highs", "down", "body", "row"]
theorem scLoop : FnScope nLoop ["node", "scope", "around"] (defScope sCheckLoop) := ⟨rfl, rfl, rfl, by decide +kernel, rfl, by decide +kernel, by decide +kernel⟩
theorem ok_loop {C f TN TA TT fC fD fR fN fA fB : Addr} {fd fdC fdD fdR fdN fdA fdB : FuncData} {t1 : Nat} (n L : Nat) (hL : 6 ≤ L) (F : Fun K "_check_loop" "_check_loop" sCheckLoop f fd) (B : Blt mg)
    (h12 : mg "MOST_ROW" = some (.int 12 t1))
    (GC : FnOk P w K mg base (L2.CX P w) 1 fC fdC ["fits"] (spCheck C)) (kC : PySem.W.keepIn K (.ref fC) = true) (bC : Binds K fdC ["fits"] []) (gC : mg "check" = some (.ref fC))
    (GD : FnOk P w K mg base (L2.CX P w) 2 fD fdD ["row"] (spDifferent K C)) (kD : PySem.W.keepIn K (.ref fD) = true) (bD : Binds K fdD ["row"] []) (gD : mg "check_different" = some (.ref fD))
    (GR : FnOk P w K mg base CX0 1 fR fdR ["thing", "least", "most"] (spIsRow K)) (kR : PySem.W.keepIn K (.ref fR) = true) (bR : Binds K fdR ["thing", "least", "most"] []) (gR : mg "is_row" = some (.ref fR))
    (GN : FnOk P w K mg base CX0 2 fN fdN ["thing"] (spNestName K TN)) (kN : PySem.W.keepIn K (.ref fN) = true) (bN : Binds K fdN ["thing"] []) (gN : mg "is_nest_name" = some (.ref fN))
    (GA : FnOk P w K mg base CX0 5 fA fdA ["thing", "scope", "most"] (spAreAtoms K TA)) (kA : PySem.W.keepIn K (.ref fA) = true) (bA : Binds K fdA ["thing", "scope", "most"] []) (gA : mg "are_atoms" = some (.ref fA))
    (GB : FnOk P w K mg base (L2.CX P w) L fB fdB ["body", "scope", "around"] (spBody K C TN TA TT n)) (kB : PySem.W.keepIn K (.ref fB) = true) (bB : Binds K fdB ["body", "scope", "around"] []) (gB : mg "check_body" = some (.ref fB)) :
    FnOk P w K mg base (L2.CX P w) (L + 1) f fd ["node", "scope", "around"] (spLoop K C TN TA TT n) := by
  refine F.okX scLoop (fun vs H Q E h => ?_) (fun cdv A outer s H vs Q E hr h => ?_)
  · obtain ⟨v, ds, sc, ns, rfl, _⟩ := h
    rfl
  · obtain ⟨v, ds, sc, ns, rfl, hd, sm, hs, nsl, tN, tA, tT, n0, fin⟩ := h
    have nd := scLoop.nd
    have r1 := hr.mono (show 1 ≤ L by omega)
    have r2 := hr.mono (show 2 ≤ L by omega)
    have r5 := hr.mono (show 5 ≤ L by omega)
    have body : PSs (cxOf (L2.CX P w) P w K mg base nLoop "_check_loop" (defScope sCheckLoop) f cdv A outer s H E) (defBody sCheckLoop) _ := pss_cons (ps_expr (pe_callS GC r1 (by rfl) gC kC bC (fun σ => passAt (takes_of rfl rfl rfl rfl) σ) (pa_cons (pe_cmpR op_eq (pe_callB call_len_seq (by rfl) B.len PySem.boot_len (pa_cons (pv 0) pa_nil)) pe_int (nomark _)) pa_nil)))
      (pss_cons (ps_asg (pv 0) (pg_tup rfl (pgs_cons (pg_name (i := 3) nd rfl (.inl rfl)) (pgs_cons (pg_name (i := 4) nd rfl (.inl rfl)) (pgs_cons (pg_name (i := 5) nd rfl (.inl rfl)) (pgs_cons (pg_name (i := 6) nd rfl (.inl rfl)) (pgs_cons (pg_name (i := 7) nd rfl (.inl rfl)) (pgs_cons (pg_name (i := 8) nd rfl (.inl rfl)) pgs_nil))))))))
      (pss_cons (ps_expr (pe_callS GC r1 (by rfl) gC kC bC (fun σ => passAt (takes_of rfl rfl rfl rfl) σ) (pa_cons (pe_and (pe_call GN r2 (by rfl) gN kN bN .nil pass0 (pa_cons (pv 4) pa_nil)) (pe_and (pe_cmpR op_notIn_seq (pv 4) (pv 1) (by rfl)) (pe_one (pe_callB (call_isD kit_bool) (by rfl) B.isi PyProof.Rows.boot_isinstance (pa_cons (pv 7) (pa_cons (pe_bltn (v := .ty "bool") rfl B.bool PyProof.Rows.boot_bool rfl) pa_nil)))))) pa_nil)))
      (pss_cons (ps_for (passes_of rfl) rfl (pi_tup (pe_tup (pa_cons (pv 5) (pa_cons (pv 6) pa_nil)))) (pg_name (i := 9) nd rfl (.inl rfl))
        (pss_cons (ps_expr (pe_callS GC r1 (by rfl) gC kC bC (fun σ => passAt (takes_of rfl rfl rfl rfl) σ) (pa_cons (pe_and (pe_call GR r1 (by rfl) gR kR bR .nil pass0 (pa_cons (pv 9) (pa_cons pe_int (pa_cons (pe_glob (v := .int 12) (by rfl) h12 ⟨_, rfl⟩) pa_nil))))
          (pe_one (pe_call GA r5 (by rfl) gA kA bA .nil pass0 (pa_cons (pv 9) (pa_cons (pv 1) (pa_cons (pe_glob (v := .int 12) (by rfl) h12 ⟨_, rfl⟩) pa_nil)))))) pa_nil)))
        (pss_one (ps_expr (pe_callS GD r2 (by rfl) gD kD bD (fun σ => passAt (takes_of rfl rfl rfl rfl) σ) (pa_cons (pv 9) pa_nil))))))
      (pss_cons (ps_expr (pe_callS GC r1 (by rfl) gC kC bC (fun σ => passAt (takes_of rfl rfl rfl rfl) σ) (pa_cons (pe_cmpR (op_neNil hr.units) (pv 8) (pe_tup pa_nil) (nomark _)) pa_nil)))
      (pss_one (ps_expr (pe_callS GB hr (by rfl) gB kB bB (fun σ => passAt (takes_of rfl rfl rfl rfl) σ) (pa_cons (pv 8) (pa_cons (pe_tup (StX.pa_star (pv 1) (pa_cons (pv 4) pa_nil))) (pa_cons (pe_op op_add (pv 2) pe_int) pa_nil))))))))))
    refine ⟨_, body, ?_⟩
    have bad := fin.2
    have smd := small_tup sm
    cases hd with
    | @tup p xs _ hp hA =>
    have hl := dps_len hA
    refine ⟨_, rfl, p, xs, rfl, .inr hp, rfl, _, rfl, fun e => ?_, fun e => bad (loop_len fun z => of_decide_eq_false e (by rw [hl, z]; rfl)) _ (SameG.refl _)⟩
    have h6 : ds.length = 6 := by
      have := of_decide_eq_true e
      injection this with this
      rw [hl] at this
      omega
    obtain ⟨d0, counter, lows, highs, down, inner, rfl⟩ := six_of h6
    obtain ⟨v0, xs, rfl, _, hA⟩ := dps_cons hA
    obtain ⟨v1, xs, rfl, a1, hA⟩ := dps_cons hA
    obtain ⟨v2, xs, rfl, a2, hA⟩ := dps_cons hA
    obtain ⟨v3, xs, rfl, a3, hA⟩ := dps_cons hA
    obtain ⟨v4, xs, rfl, a4, hA⟩ := dps_cons hA
    obtain ⟨v5, xs, rfl, a5, hA⟩ := dps_cons hA
    obtain rfl := dps_nil hA
    have eq : okLoop (okBody n) ns [d0, counter, lows, highs, down, inner] = ((pName counter && (freshD ns counter && isBoolD down)) && (okRow ns lows && (okRow ns highs && (!emptyD inner && okBody n (ns ++ strsOf [counter]) inner)))) := rfl
    rw [eq] at bad
    refine ⟨_, rfl, p, _, rfl, hp, rfl, _, _, rfl, _, _, rfl, _, _, rfl, _, _, rfl, _, _, rfl, _, _, rfl, rfl, ?_⟩
    refine ⟨_, rfl, v1, counter, rfl, a1, small_txt (smd.2 counter (by simp)), tN, fun H1 s1 => ⟨pName counter, rfl, ?_⟩⟩
    cases e1 : pName counter with
    | false => exact iteF ⟨false, rfl, (fun q => nomatch q), fun _ => bad (by rw [e1]; rfl) H1 s1⟩
    | true =>
    obtain ⟨cx, rfl⟩ : ∃ cx, counter = .str cx := by
      cases counter with
      | str cx => exact ⟨cx, rfl⟩
      | _ => exact nomatch e1
    cases a1
    refine iteT ⟨_, rfl, _, rfl, sc, _, rfl, .inr (sqT_g s1 hs), rfl, flat_strs ns, ?_⟩
    rw [inV_strs]
    have ef : freshD ns (.str cx) = !decide (cx ∈ ns) := rfl
    refine ⟨_, rfl, ?_⟩
    cases e2 : decide (cx ∈ ns) with
    | true => exact iteF ⟨false, rfl, (fun q => nomatch q), fun _ => bad (by rw [ef, e2, Bool.not_true, Bool.false_and, Bool.and_false, Bool.false_and]) H1 s1⟩
    | false =>
    refine iteT ⟨_, rfl, v4, down, rfl, dp_g s1 _ _ a4, isBoolD down, rfl, fun e3 => ?_, fun e3 => bad (by rw [e3, Bool.and_false, Bool.and_false, Bool.false_and]) H1 s1⟩
    have eh : (pName (.str cx) && (freshD ns (.str cx) && isBoolD down)) = true := by rw [e1, ef, e2, e3]; rfl
    rw [eh, Bool.true_and] at bad
    have good : (okRow ns lows && (okRow ns highs && (!emptyD inner && okBody n (ns ++ [cx]) inner))) = true → ∀ H', SameG H H' → Q .non H' := fun e => fin.1 (by
      rw [eq, eh, Bool.true_and]
      exact e)
    refine ⟨_, rfl, _, rfl, by show 2 ≤ sizeLine; decide, fun t nt => ?_⟩
    have s2 : SameG H1 (upd H1 t (.tup [v2, v3])) := SameG.of (same_upd nt)
    have ht : SqT K (upd H1 t (.tup [v2, v3])) t [v2, v3] := SqT.of upd_same
    have u2 := s1.trans s2
    have hAt : DpAll K (upd H1 t (.tup [v2, v3])) [v2, v3] [lows, highs] := .cons (dp_g u2 _ _ a2) (.cons (dp_g u2 _ _ a3) .nil)
    have tsm : ∀ d ∈ [lows, highs], small d = true := fun d hd => smd.2 d (by
      simp only [List.mem_cons, List.not_mem_nil, or_false] at hd ⊢
      rcases hd with rfl | rfl <;> simp)
    generalize upd H1 t (.tup [v2, v3]) = H2 at ht hAt u2 ⊢
    refine ⟨t, rfl, ⟨_, ht⟩, for_tup (K := K) (a := t) (xs := [v2, v3]) (fun i σ H' => ∃ y : Option V, σ = [some (.ref p), some (.ref sc), some (.int (40 - (n : Nat) : Int)), some v0, some (.str cx), some v2, some v3, some v4, some v5, y] ∧ SameG H2 H' ∧ ∀ d ∈ [lows, highs].take i, okRow ns d = true) ⟨none, rfl, SameG.refl _, fun d h => by simp at h⟩
      (fun i σ H' _ ⟨_, _, k, _⟩ => sqT_g k ht) ?_ ?_⟩
    · rintro i x σ H4 hx ⟨y, rfl, s4, done⟩
      obtain ⟨d, ed, dd⟩ := dps_at (dps_g s4 _ _ hAt) hx
      have hm := List.mem_of_getElem? ed
      have u4 := u2.trans s4
      have wr : okRow ns d = false → ∀ H', SameG H H' → E (.ref C) none H' := fun e => bad (by
        simp only [List.mem_cons, List.not_mem_nil, or_false] at hm
        rcases hm with rfl | rfl
        · rw [e, Bool.false_and]
        · rw [e, Bool.false_and, Bool.and_false])
      have eqr : okRow ns d = ((pRow 1 12 d && pAtoms ns 12 d) && decide ((items d).map keyD).Nodup) := rfl
      rw [eqr] at wr
      refine ⟨_, rfl, x, d, 1, 12, rfl, dd, pRow 1 12 d, rfl, ?_⟩
      cases e4 : pRow 1 12 d with
      | false => exact iteF ⟨false, rfl, (fun q => nomatch q), fun _ => wr (by rw [e4]; rfl) H4 u4⟩
      | true =>
      obtain ⟨as, rfl⟩ := tup_of_row e4
      refine iteT ⟨_, rfl, _, rfl, x, .tuple as, sc, 12, ns, rfl, dd, sqT_g u4 hs, u4.tab _ tA, fun H5 s5 => ⟨pAtoms ns 12 (.tuple as), rfl, fun e5 => ?_, fun e5 => wr (by rw [e5, Bool.and_false]; rfl) H5 (u4.trans s5)⟩⟩
      have u5 := u4.trans s5
      have eall : as.all (pAtom ns) = true := by
        have h' : (decide (((as.length : Nat) : Int) ≤ 12) && as.all (pAtom ns)) = true := e5
        rw [Bool.and_eq_true] at h'
        exact h'.2
      refine ⟨_, rfl, x, as, rfl, dp_g s5 _ _ dd, (small_tup (tsm _ hm)).1, .inr fun a ha => atom_key (List.all_eq_true.mp eall a ha), fun e6 H6 s6 => ?_, fun e6 H6 s6 => wr (by
        show (_ && decide (as.map keyD).Nodup) = false
        rw [e6, Bool.and_false]) H6 (u5.trans s6)⟩
      refine ⟨_, rfl, (s4.trans s5).trans s6, fun d' hd' => ?_⟩
      rw [List.take_add_one, ed] at hd'
      rcases List.mem_append.mp hd' with hd' | hd'
      · exact done d' hd'
      · rw [Option.toList_some, List.mem_singleton] at hd'
        rw [hd', eqr, e4, e5]
        exact e6
    · rintro σ H4 ⟨y, rfl, s4, done⟩
      have u4 := u2.trans s4
      have el : okRow ns lows = true := done lows (by simp)
      have eh2 : okRow ns highs = true := done highs (by simp)
      rw [el, eh2, Bool.true_and, Bool.true_and] at bad good
      refine ⟨_, rfl, Nat.zero_le _, fun t2 nt2 => ?_⟩
      have s5 := SameG.of (same_upd (o := HO.tup []) nt2)
      have u5 := u4.trans s5
      refine ⟨inner, t2, dp_g u5 _ _ a5, smd.2 inner (by simp), rfl, SqT.of upd_same, _, rfl, fun e7 => ?_, fun e7 => bad (by rw [e7, Bool.false_and]) _ u5⟩
      rw [e7, Bool.true_and] at bad good
      generalize upd H4 t2 (.tup []) = H5 at u5 ⊢
      refine ⟨_, rfl, _, rfl, sc, _, rfl, .inl (sqT_g u5 hs), _, rfl, ?_, fun t3 nt3 => ?_⟩
      · rw [List.length_append, List.length_map]
        have : (200 : Nat) ≤ sizeLine := by decide
        simp only [List.length_cons, List.length_nil]
        omega
      have s6 := SameG.of (same_upd (o := HO.tup (ns.map V.str ++ [V.str cx])) nt3)
      have u6 := u5.trans s6
      have e40 : (40 - ((n : Nat) : Int)) + 1 = 41 - (n : Nat) := by omega
      refine ⟨_, rfl, _, _, rfl, rfl, v5, inner, t3, ns ++ [cx], ?_, dp_g u6 _ _ a5, smd.2 inner (by simp), ?_, ?_, u6.tab _ tN, u6.tab _ tA, u6.tab _ tT, n0, fun e H7 s7 => good e H7 (u6.trans s7), fun e H7 s7 => bad e H7 (u6.trans s7)⟩
      · rw [← e40]
      · rw [List.map_append]
        exact SqT.of upd_same
      · rw [List.length_append]
        simp only [List.length_cons, List.length_nil]
        omega
end
end Kd
/-! _check_test, check_body -/
namespace Kd
open PySem L2 Lo
section
variable {P : Program} {w : World} {K : PySem.W.Frag} {mg : Str → Option Value} {base : Heap}
abbrev nTest : List Str := ["node", "scope", "around", "_", "differences", "body", "entry"]
theorem scTest : FnScope nTest ["node", "scope", "around"] (defScope sCheckTest) := ⟨rfl, rfl, rfl, by decide +kernel, rfl, by decide +kernel, by decide +kernel⟩
theorem ok_test {C f c TN TA TT fC fD fR fF fB : Addr} {fd fdC fdD fdR fdF fdB : FuncData} {t1 : Nat} (n L : Nat) (hL : 6 ≤ L) (F : FunC K "_check_test" "_check_test" sCheckTest f fd c) (B : Blt mg) (hall : mg "all" = none) (TB : GxR.TabB base mg c TT)
    (h12 : mg "MOST_ROW" = some (.int 12 t1))
    (GC : FnOk P w K mg base (L2.CX P w) 1 fC fdC ["fits"] (spCheck C)) (kC : PySem.W.keepIn K (.ref fC) = true) (bC : Binds K fdC ["fits"] []) (gC : mg "check" = some (.ref fC))
    (GD : FnOk P w K mg base (L2.CX P w) 2 fD fdD ["row"] (spDifferent K C)) (kD : PySem.W.keepIn K (.ref fD) = true) (bD : Binds K fdD ["row"] []) (gD : mg "check_different" = some (.ref fD))
    (GR : FnOk P w K mg base CX0 1 fR fdR ["thing", "least", "most"] (spIsRow K)) (kR : PySem.W.keepIn K (.ref fR) = true) (bR : Binds K fdR ["thing", "least", "most"] []) (gR : mg "is_row" = some (.ref fR))
    (GF : FnOk P w K mg base CX0 3 fF fdF ["thing", "scope"] (spIsDiff K)) (kF : PySem.W.keepIn K (.ref fF) = true) (bF : Binds K fdF ["thing", "scope"] []) (gF : mg "is_difference_of" = some (.ref fF))
    (GB : FnOk P w K mg base (L2.CX P w) L fB fdB ["body", "scope", "around"] (spBody K C TN TA TT n)) (kB : PySem.W.keepIn K (.ref fB) = true) (bB : Binds K fdB ["body", "scope", "around"] []) (gB : mg "check_body" = some (.ref fB)) :
    FnOk P w K mg base (L2.CX P w) (L + 1) f fd ["node", "scope", "around"] (spTest K C TN TA TT n) := by
  refine F.okX scTest (fun vs H Q E h => ?_) (fun A outer s H vs Q E hr h => ?_)
  · obtain ⟨v, ds, sc, ns, rfl, _⟩ := h
    rfl
  · obtain ⟨v, ds, sc, ns, rfl, hd, sm, hs, nsl, tN, tA, tT, n0, fin⟩ := h
    have nd := scTest.nd
    have r1 := hr.mono (show 1 ≤ L by omega)
    have r2 := hr.mono (show 2 ≤ L by omega)
    have r4 := hr.mono (show 4 ≤ L by omega)
    have body : PSs (cxOf (L2.CX P w) P w K mg base nTest "_check_test" (defScope sCheckTest) f (.ref c) A outer s H E) (defBody sCheckTest) _ := pss_cons (ps_expr (pe_callS GC r1 (by rfl) gC kC bC (fun σ => passAt (takes_of rfl rfl rfl rfl) σ) (pa_cons (pe_cmpR op_eq (pe_callB call_len_seq (by rfl) B.len PySem.boot_len (pa_cons (pv 0) pa_nil)) pe_int (nomark _)) pa_nil)))
      (pss_cons (ps_asg (pv 0) (pg_tup rfl (pgs_cons (pg_name (i := 3) nd rfl (.inl rfl)) (pgs_cons (pg_name (i := 4) nd rfl (.inl rfl)) (pgs_cons (pg_name (i := 5) nd rfl (.inl rfl)) pgs_nil)))))
      (pss_cons (ps_expr (pe_callS GC r1 (by rfl) gC kC bC (fun σ => passAt (takes_of rfl rfl rfl rfl) σ) (pa_cons (pe_and (pe_call GR r1 (by rfl) gR kR bR .nil pass0 (pa_cons (pv 4) (pa_cons pe_int (pa_cons (pe_glob (v := .int 12) (by rfl) h12 ⟨_, rfl⟩) pa_nil))))
        (pe_one (GxC.pe_allG (k := 3) (own := [("entry", 6)]) (g := gName 6) r4 rfl nd (by rfl) hall PyProof.Rows.boot_all TB rfl (pi_tup (pv 4)) (blkOk_by (N := nTest) (sc := defScope sCheckTest) (by decide +kernel))
          (fun _ _ _ _ _ _ _ _ => pg_name (i := 6) nd rfl (.inl rfl)) (fun _ _ _ _ _ _ _ hr' => pe_call GF (hr'.mono (by decide)) (by rfl) gF kF bF .nil pass0 (pa_cons (pv 6) (pa_cons (pv 1) pa_nil))) (fun _ => rfl)))) pa_nil)))
      (pss_cons (ps_expr (pe_callS GD r2 (by rfl) gD kD bD (fun σ => passAt (takes_of rfl rfl rfl rfl) σ) (pa_cons (pv 4) pa_nil)))
      (pss_cons (ps_expr (pe_callS GC r1 (by rfl) gC kC bC (fun σ => passAt (takes_of rfl rfl rfl rfl) σ) (pa_cons (pe_cmpR (op_neNil hr.units) (pv 5) (pe_tup pa_nil) (nomark _)) pa_nil)))
      (pss_one (ps_expr (pe_callS GB hr (by rfl) gB kB bB (fun σ => passAt (takes_of rfl rfl rfl rfl) σ) (pa_cons (pv 5) (pa_cons (pv 1) (pa_cons (pe_op op_add (pv 2) pe_int) pa_nil))))))))))
    refine ⟨_, body, ?_⟩
    have bad := fin.2
    have smd := small_tup sm
    cases hd with
    | @tup p xs _ hp hA =>
    have hl := dps_len hA
    refine ⟨_, rfl, p, xs, rfl, .inr hp, rfl, _, rfl, fun e => ?_, fun e => bad (test_len fun z => of_decide_eq_false e (by rw [hl, z]; rfl)) _ (SameG.refl _)⟩
    have h3 : ds.length = 3 := by
      have := of_decide_eq_true e
      injection this with this
      rw [hl] at this
      omega
    obtain ⟨d0, diffs, inner, rfl⟩ := three_of h3
    obtain ⟨v0, xs, rfl, _, hA⟩ := dps_cons hA
    obtain ⟨v1, xs, rfl, a1, hA⟩ := dps_cons hA
    obtain ⟨v2, xs, rfl, a2, hA⟩ := dps_cons hA
    obtain rfl := dps_nil hA
    have eq : okTest (okBody n) ns [d0, diffs, inner] = (((pRow 1 12 diffs && (items diffs).all (pDiff ns)) && decide ((items diffs).map keyD).Nodup) && (!emptyD inner && okBody n ns inner)) := rfl
    rw [eq] at bad
    refine ⟨_, rfl, p, _, rfl, hp, rfl, _, _, rfl, _, _, rfl, _, _, rfl, rfl, ?_⟩
    refine ⟨_, rfl, v1, diffs, 1, 12, rfl, a1, pRow 1 12 diffs, rfl, ?_⟩
    cases e1 : pRow 1 12 diffs with
    | false => exact iteF ⟨false, rfl, (fun q => nomatch q), fun _ => bad (by rw [e1]; rfl) H (SameG.refl H)⟩
    | true =>
    obtain ⟨gs, rfl⟩ := tup_of_row e1
    have gsm := small_tup (smd.2 (.tuple gs) (by simp))
    cases a1 with
    | @tup pg xg _ hpg hAg =>
    refine iteT ⟨_, rfl, pg, rfl, ⟨_, hpg⟩, tT, fun H1 h1 => ?_⟩
    have s1 := SameG.tabbed tT h1
    refine all_tup (r := pDiff ns) (sqT_g s1 hpg) (dps_g s1 _ _ hAg) (fun H2 s2 => ?_) (fun x d H2 N s2 md dd yes no => ?_)
    rotate_left
    · exact ⟨rfl, _, rfl, _, rfl, x, d, sc, ns, rfl, dd, sqT_g (s1.trans s2) hs, pDiff ns d, rfl, fun q => yes q H2 s2, fun q => no q H2 s2⟩
    have u2 := s1.trans s2
    have eit : items (.tuple gs) = gs := rfl
    rw [eit] at bad eq
    refine ⟨_, rfl, fun e2 => ?_, fun e2 => bad (by rw [e2, Bool.and_false]; rfl) H2 u2⟩
    refine ⟨_, rfl, .ref pg, gs, rfl, .tup (sqT_g u2 hpg) (dps_g u2 _ _ hAg), gsm.1, .inr fun a ha => diff_key (List.all_eq_true.mp e2 a ha), fun e3 H3 s3 => ?_, fun e3 H3 s3 => bad (by rw [e3, Bool.and_false]; rfl) H3 (u2.trans s3)⟩
    have u3 := u2.trans s3
    have eh : ((pRow 1 12 (.tuple gs) && gs.all (pDiff ns)) && decide (gs.map keyD).Nodup) = true := by rw [e1, e2, e3]; rfl
    rw [eh, Bool.true_and] at bad
    have good : (!emptyD inner && okBody n ns inner) = true → ∀ H', SameG H H' → Q .non H' := fun e => fin.1 (by
      rw [eq, eh, Bool.true_and]
      exact e)
    refine ⟨_, rfl, Nat.zero_le _, fun t2 nt2 => ?_⟩
    have u5 := u3.trans (SameG.of (same_upd (o := HO.tup []) nt2))
    refine ⟨inner, t2, dp_g u5 _ _ a2, smd.2 inner (by simp), rfl, SqT.of upd_same, _, rfl, fun e7 => ?_, fun e7 => bad (by rw [e7, Bool.false_and]) _ u5⟩
    rw [e7, Bool.true_and] at bad good
    generalize upd H3 t2 (.tup []) = H5 at u5 ⊢
    have e40 : (40 - ((n : Nat) : Int)) + 1 = 41 - (n : Nat) := by omega
    refine ⟨_, rfl, _, rfl, _, rfl, _, _, rfl, rfl, v2, inner, sc, ns, by rw [← e40], dp_g u5 _ _ a2, smd.2 inner (by simp), sqT_g u5 hs, by omega, u5.tab _ tN, u5.tab _ tA, u5.tab _ tT, n0, fun e H7 s7 => good e H7 (u5.trans s7), fun e H7 s7 => bad e H7 (u5.trans s7)⟩
end
end Kd
/-! check_body -/
namespace Kd
open PySem L2 Lo
theorem str_dec (a b : Str) : decide (V.str a = V.str b) = decide (a = b) := decide_eq_decide.mpr ⟨fun z => V.str.inj z, fun z => by rw [z]⟩
theorem body_eq (n : Nat) (ns : List Str) (d : PyData) : okBody (n + 1) ns d = (isTup d && ((emptyD d || decide (1 ≤ n)) && (items d).all (okNode (okBody n) ns))) := rfl
theorem node_shape {f : List Str → PyData → Bool} {ns : List Str} {d : PyData} (h : ∀ k rest, d ≠ .tuple (.str k :: rest)) : okNode f ns d = false := by
  cases d with
  | tuple ds =>
    cases ds with
    | nil => rfl
    | cons a r =>
      cases a with
      | str k => exact absurd rfl (h k r)
      | _ => rfl
  | _ => rfl
section
variable {P : Program} {w : World} {K : PySem.W.Frag} {mg : Str → Option Value} {base : Heap}
abbrev nBody : List Str := ["body", "scope", "around", "node"]
theorem scBody : FnScope nBody ["body", "scope", "around"] (defScope sCheckBody) := ⟨rfl, rfl, rfl, by decide +kernel, rfl, by decide +kernel, by decide +kernel⟩
theorem ok_bodyS {C f TN TA TT fC fL fT fU : Addr} {fd fdC fdL fdT fdU : FuncData} {t1 : Nat} (n L : Nat) (hL : 6 ≤ L) (F : Fun K "check_body" "check_body" sCheckBody f fd) (B : Blt mg)
    (h39 : mg "MOST_AROUND" = some (.int 39 t1))
    (GC : FnOk P w K mg base (L2.CX P w) 1 fC fdC ["fits"] (spCheck C)) (kC : PySem.W.keepIn K (.ref fC) = true) (bC : Binds K fdC ["fits"] []) (gC : mg "check" = some (.ref fC))
    (GL : FnOk P w K mg base (L2.CX P w) L fL fdL ["node", "scope", "around"] (spLoop K C TN TA TT n)) (kL : PySem.W.keepIn K (.ref fL) = true) (bL : Binds K fdL ["node", "scope", "around"] []) (gL : mg "_check_loop" = some (.ref fL))
    (GT : FnOk P w K mg base (L2.CX P w) L fT fdT ["node", "scope", "around"] (spTest K C TN TA TT n)) (kT : PySem.W.keepIn K (.ref fT) = true) (bT : Binds K fdT ["node", "scope", "around"] []) (gT : mg "_check_test" = some (.ref fT))
    (GU : FnOk P w K mg base (L2.CX P w) 6 fU fdU ["node", "scope"] (spRun K C TN TA)) (kU : PySem.W.keepIn K (.ref fU) = true) (bU : Binds K fdU ["node", "scope"] []) (gU : mg "_check_run" = some (.ref fU)) :
    FnOk P w K mg base (L2.CX P w) (L + 1) f fd ["body", "scope", "around"] (spBody K C TN TA TT (n + 1)) := by
  refine F.okX scBody (fun vs H Q E h => ?_) (fun cdv A outer s H vs Q E hr h => ?_)
  · obtain ⟨v, d, sc, ns, rfl, _⟩ := h
    rfl
  · obtain ⟨v, d, sc, ns, rfl, hd, sm, hs, nsl, tN, tA, tT, n0, fin⟩ := h
    have nd := scBody.nd
    have r1 := hr.mono (show 1 ≤ L by omega)
    have r6 := hr.mono (show 6 ≤ L by omega)
    have body : PSs (cxOf (L2.CX P w) P w K mg base nBody "check_body" (defScope sCheckBody) f cdv A outer s H E) (defBody sCheckBody) _ := pss_cons (ps_expr (pe_callS GC r1 (by rfl) gC kC bC (fun σ => passAt (takes_of rfl rfl rfl rfl) σ) (pa_cons (pe_callB (call_isD kit_tup) (by rfl) B.isi PyProof.Rows.boot_isinstance (pa_cons (pv 0) (pa_cons (pe_bltn (v := .ty "tuple") rfl B.tuple PyProof.Rows.boot_tuple rfl) pa_nil))) pa_nil)))
      (C8.pss_cut (ps_expr (pe_callS GC r1 (by rfl) gC kC bC (fun σ => passAt (takes_of rfl rfl rfl rfl) σ) (pa_cons (pe_or (pe_notT (pv 0)) (pe_one (pe_cmpR op_le (pv 2) (pe_glob (v := .int 39) (by rfl) h39 ⟨_, rfl⟩) (nomark _)))) pa_nil)))
      (pss_one (ps_for (passes_of rfl) rfl (pi_tup (pv 0)) (pg_name (i := 3) nd rfl (.inl rfl))
        (pss_cons (ps_expr (pe_callS GC r1 (by rfl) gC kC bC (fun σ => passAt (takes_of rfl rfl rfl rfl) σ) (pa_cons (pe_and (pe_callB (call_isD kit_tup) (by rfl) B.isi PyProof.Rows.boot_isinstance (pa_cons (pv 3) (pa_cons (pe_bltn (v := .ty "tuple") rfl B.tuple PyProof.Rows.boot_tuple rfl) pa_nil)))
          (pe_and (pe_cmpR op_gt (pe_callB call_len_seq (by rfl) B.len PySem.boot_len (pa_cons (pv 3) pa_nil)) pe_int (nomark _)) (pe_one (pe_callB (call_isD kit_str) (by rfl) B.isi PyProof.Rows.boot_isinstance (pa_cons (pe_ix ix_tup (pv 3) pe_int (fun _ _ => rfl)) (pa_cons (pe_bltn (v := .ty "str") rfl B.str PyProof.Rows.boot_str rfl) pa_nil)))))) pa_nil)))
        (pss_one (ps_if (pt_cmpR op_eq (pe_ix ix_tup (pv 3) pe_int (fun _ _ => rfl)) pe_str (nomark _)) (pss_one (ps_expr (pe_callS GL hr (by rfl) gL kL bL (fun σ => passAt (takes_of rfl rfl rfl rfl) σ) (pa_cons (pv 3) (pa_cons (pv 1) (pa_cons (pv 2) pa_nil))))))
          (pss_one (ps_if (pt_cmpR op_eq (pe_ix ix_tup (pv 3) pe_int (fun _ _ => rfl)) pe_str (nomark _)) (pss_one (ps_expr (pe_callS GT hr (by rfl) gT kT bT (fun σ => passAt (takes_of rfl rfl rfl rfl) σ) (pa_cons (pv 3) (pa_cons (pv 1) (pa_cons (pv 2) pa_nil))))))
            (pss_cons (ps_expr (pe_callS GC r1 (by rfl) gC kC bC (fun σ => passAt (takes_of rfl rfl rfl rfl) σ) (pa_cons (pe_cmpR op_eq (pe_ix ix_tup (pv 3) pe_int (fun _ _ => rfl)) pe_str (nomark _)) pa_nil)))
            (pss_one (ps_expr (pe_callS GU r6 (by rfl) gU kU bU (fun σ => passAt (takes_of rfl rfl rfl rfl) σ) (pa_cons (pv 3) (pa_cons (pv 1) pa_nil))))))))))))))
    refine ⟨_, body, ?_⟩
    have bad := fin.2
    rw [body_eq] at bad
    have good := fin.1
    rw [body_eq] at good
    refine ⟨_, rfl, v, d, rfl, hd, isTup d, rfl, fun e1 => ?_, fun e1 => bad (by rw [e1]; rfl) H (SameG.refl H)⟩
    obtain ⟨ds, rfl⟩ : ∃ ds, d = .tuple ds := by
      cases d with
      | tuple ds => exact ⟨ds, rfl⟩
      | _ => exact nomatch e1
    have smd := small_tup sm
    have eit : items (.tuple ds) = ds := rfl
    rw [e1, Bool.true_and, eit] at bad good
    cases hd with
    | @tup p xs _ hp hA =>
    have hl := dps_len hA
    have ee : emptyD (.tuple ds) = xs.isEmpty := by
      cases ds with
      | nil =>
        have : xs = [] := List.length_eq_zero_iff.mp hl
        rw [this]
        rfl
      | cons a b =>
        cases xs with
        | nil => exact nomatch hl
        | cons c e => rfl
    refine ⟨fun σ' H' => σ' = [some (.ref p), some (.ref sc), some (.int (41 - ((n + 1 : Nat) : Int))), none] ∧ H' = H ∧ (emptyD (.tuple ds) || decide (1 ≤ n)) = true, ?_, ?_⟩
    · refine ⟨_, rfl, !xs.isEmpty, .inr (.inl ⟨xs, hp, rfl⟩), ?_⟩
      rw [ee] at bad ⊢
      rw [Bool.not_not]
      cases e2 : xs.isEmpty with
      | true =>
        rw [e2] at bad
        exact ⟨true, rfl, iteT ⟨true, rfl, fun _ => ⟨rfl, rfl, rfl⟩, fun z => nomatch z⟩⟩
      | false =>
        rw [e2, Bool.false_or] at bad
        refine ⟨false, rfl, iteF ⟨_, rfl, _, _, rfl, rfl, _, rfl, fun z => ⟨rfl, rfl, ?_⟩, fun z => bad ?_ H (SameG.refl H)⟩⟩
        · have := of_decide_eq_true z
          rw [Bool.false_or]
          exact decide_eq_true (by omega)
        · have := of_decide_eq_false z
          rw [decide_eq_false (show ¬ 1 ≤ n by omega)]
          rfl
    rintro σ H' ⟨rfl, rfl, e2⟩
    rw [e2, Bool.true_and] at bad good
    refine ⟨_, rfl, p, rfl, ⟨_, hp⟩, for_tup (K := K) (a := p) (xs := xs) (fun i σ H1 => ∃ y : Option V, σ = [some (.ref p), some (.ref sc), some (.int (41 - ((n + 1 : Nat) : Int))), y] ∧ SameG H' H1 ∧ ∀ d ∈ ds.take i, okNode (okBody n) ns d = true) ⟨none, rfl, SameG.refl _, fun d h => by simp at h⟩
      (fun i σ H1 _ ⟨_, _, k, _⟩ => sqT_g k hp) ?_ ?_⟩
    · rintro i x σ H1 hx ⟨y, rfl, s1, done⟩
      obtain ⟨d, ed, dd⟩ := dps_at (dps_g s1 _ _ hA) hx
      have hm := List.mem_of_getElem? ed
      have dsm := smd.2 d hm
      have wr : okNode (okBody n) ns d = false → ∀ H2, SameG H' H2 → E (.ref C) none H2 := fun e => bad (by
        rw [List.all_eq_false]
        exact ⟨d, hm, by rw [e]; decide⟩)
      have nx : ∀ H2, SameG H1 H2 → okNode (okBody n) ns d = true → ∃ y : Option V, [some (V.ref p), some (.ref sc), some (.int (41 - ((n + 1 : Nat) : Int))), some x] = [some (.ref p), some (.ref sc), some (.int (41 - ((n + 1 : Nat) : Int))), y] ∧ SameG H' H2 ∧ ∀ d ∈ ds.take (i + 1), okNode (okBody n) ns d = true := fun H2 s2 e => ⟨_, rfl, s1.trans s2, fun d' hd' => by
        rw [List.take_add_one, ed] at hd'
        rcases List.mem_append.mp hd' with hd' | hd'
        · exact done d' hd'
        · rw [Option.toList_some, List.mem_singleton] at hd'
          rw [hd']
          exact e⟩
      have npos : 0 < n := by
        have hne : emptyD (.tuple ds) = false := by
          cases ds with
          | nil => exact nomatch hm
          | cons a b => rfl
        rw [hne, Bool.false_or] at e2
        exact of_decide_eq_true e2
      have e40 : (41 - ((n + 1 : Nat) : Int)) = 40 - (n : Nat) := by omega
      refine ⟨_, rfl, x, d, rfl, dd, isTup d, rfl, ?_⟩
      cases e3 : isTup d with
      | false => exact iteF ⟨false, rfl, (fun q => nomatch q), fun _ => wr (node_shape fun k r z => by rw [z] at e3; exact nomatch e3) H1 s1⟩
      | true =>
      obtain ⟨es, rfl⟩ : ∃ es, d = .tuple es := by
        cases d with
        | tuple es => exact ⟨es, rfl⟩
        | _ => exact nomatch e3
      cases dd with
      | @tup q zs _ hq hB =>
      have hlz := dps_len hB
      refine iteT ⟨_, rfl, q, zs, rfl, .inr hq, _, _, rfl, rfl, _, rfl, ?_⟩
      cases es with
      | nil =>
        obtain rfl := dps_nil hB
        exact iteF ⟨false, rfl, (fun q => nomatch q), fun _ => wr rfl H1 s1⟩
      | cons e0 er =>
        obtain ⟨z0, zr, rfl, b0, hBr⟩ := dps_cons hB
        rw [show decide ((((z0 :: zr).length : Nat) : Int) > 0) = true from decide_eq_true (by rw [List.length_cons]; omega)]
        refine iteT ⟨_, rfl, q, _, _, _, rfl, rfl, hq, atI_nat (j := 0) rfl, z0, e0, rfl, b0, isStrD e0, rfl, fun e4 => ?_, fun e4 => wr (node_shape fun k r z => by
          injection z with z
          injection z with z
          rw [z] at e4
          exact nomatch e4) H1 s1⟩
        obtain ⟨k, rfl⟩ : ∃ k, e0 = .str k := by
          cases e0 with
          | str k => exact ⟨k, rfl⟩
          | _ => exact nomatch e4
        cases b0
        have hdn : Dp K H1 (.ref q) (.tuple (.str k :: er)) := .tup hq hB
        have hs1 := sqT_g s1 hs
        have eqn : okNode (okBody n) ns (.tuple (.str k :: er)) = if k = "loop" then okLoop (okBody n) ns (.str k :: er) else if k = "test" then okTest (okBody n) ns (.str k :: er) else decide (k = "run") && okRun ns (.str k :: er) := rfl
        refine ⟨_, rfl, q, _, _, _, rfl, rfl, hq, atI_nat (j := 0) rfl, rfl, _, rfl, ?_⟩
        rw [str_dec]
        by_cases k1 : k = "loop"
        · rw [decide_eq_true k1]
          rw [eqn, if_pos k1] at wr nx
          refine iteT ⟨_, rfl, _, rfl, _, rfl, .ref q, _, sc, ns, by rw [e40], hdn, dsm, hs1, by omega, s1.tab _ tN, s1.tab _ tA, s1.tab _ tT, npos, fun e H2 s2 => nx H2 s2 e, fun e H2 s2 => wr e H2 (s1.trans s2)⟩
        rw [decide_eq_false k1]
        rw [eqn, if_neg k1] at wr nx
        refine iteF ⟨_, rfl, q, _, _, _, rfl, rfl, hq, atI_nat (j := 0) rfl, rfl, _, rfl, ?_⟩
        rw [str_dec]
        by_cases k2 : k = "test"
        · rw [decide_eq_true k2]
          rw [if_pos k2] at wr nx
          refine iteT ⟨_, rfl, _, rfl, _, rfl, .ref q, _, sc, ns, by rw [e40], hdn, dsm, hs1, by omega, s1.tab _ tN, s1.tab _ tA, s1.tab _ tT, npos, fun e H2 s2 => nx H2 s2 e, fun e H2 s2 => wr e H2 (s1.trans s2)⟩
        rw [decide_eq_false k2]
        rw [if_neg k2] at wr nx
        refine iteF ⟨_, rfl, q, _, _, _, rfl, rfl, hq, atI_nat (j := 0) rfl, rfl, _, rfl, ?_⟩
        rw [str_dec]
        refine ⟨fun e5 => ?_, fun e5 => wr (by rw [e5]; rfl) H1 s1⟩
        rw [e5, Bool.true_and] at wr nx
        exact ⟨_, rfl, _, rfl, .ref q, _, sc, ns, rfl, hdn, dsm, hs1, s1.tab _ tN, s1.tab _ tA, fun e H2 s2 => nx H2 s2 e, fun e H2 s2 => wr e H2 (s1.trans s2)⟩
    · rintro σ H1 ⟨y, rfl, s1, done⟩
      refine good (List.all_eq_true.mpr fun d hd => done d ?_) H1 s1
      rw [hl, List.take_length]
      exact hd
end
end Kd
/-! for i, x in enumerate(t), t a tuple -/
namespace Lo
open PySem PySem.Spec L2 PyProof.Rows
set_option maxHeartbeats 1000000 in
theorem meets_enum_one {v : Value} {o : Obj} {H : Heap → Prop} (B : Begins v o H) :
    Meets (Builtin.«enumerate.__new__» ⟨[.type "enumerate", v], []⟩) (fun _ R s => H s.heap ∧
      R (.ok (.ret (.ref (s.heap.push o).objs.size))) { s with heap := (s.heap.push o).push { cls := .type "enumerate", data := .fields #[.none, .bool false, .ref s.heap.objs.size, rawInt 0, .none, .none] } }) :=
  .of_wp fun prog w A R s h => by
    obtain ⟨hp, g, d, tk, os⟩ := s; obtain ⟨h1, h⟩ := h
    have hsub := sub_enumerate
    have q1 : ∀ {A' : Around} {E : Value → Shared → Prop} {Q : Value → Shared → Prop}, Q (.ref hp.objs.size) ⟨hp.push o, g, d, tk, os⟩ → wpAny (model prog w) A' (pyIter v) Q E ⟨hp, g, d, tk, os⟩ :=
      fun q => B.iter prog w _ _ ⟨hp, g, d, tk, os⟩ _ h1 q
    wp_walk using q1
    refine wpAny_stack_any fun st => wpAny_pure ?_
    split
    · rename_i c _ _ _ _ _
      cases (c == Value.type "enumerate")
      · wp_walk using q1
        exact ⟨_, rfl, h⟩
      · wp_walk using q1
        exact ⟨_, rfl, h⟩
    · wp_walk using q1
      exact ⟨_, rfl, h⟩
section
variable {prog : Program} {w : World} {A : Around} {E : Value → Shared → Prop} {s : Shared}
theorem enum_one {v : Value} {o : Obj} {H : Heap → Prop} {Q : Value → Shared → Prop} (B : Begins v o H) (h1 : H s.heap)
    (h : ∀ h', IsEnum h' (s.heap.objs.size + 1) s.heap.objs.size 0 .none → h'.get? s.heap.objs.size = some o → h'.objs.size = s.heap.objs.size + 2 →
      (∀ b o, s.heap.get? b = some o → h'.get? b = some o) → Q (.ref (s.heap.objs.size + 1)) { s with heap := h' }) :
    wpAny (model prog w) A (call (.type "enumerate") [v]) Q E s := by
  refine callType_new F.called_enumerate (by decide) (F.typeCall_enumerate_1 _) (F.newCall_enumerate_1 _) (fun obj => F.args_object_init_2 obj _) F.entry_enumerate_new
    (meets_enum_one B) ⟨h1, ?_⟩
  have hz : (s.heap.push o).objs.size = s.heap.objs.size + 1 := Heap.size_push ..
  show _ ∧ _
  rw [hz]
  have he : IsEnum ((s.heap.push o).push { cls := .type "enumerate", data := .fields #[.none, .bool false, .ref s.heap.objs.size, rawInt 0, .none, .none] }) (s.heap.objs.size + 1) s.heap.objs.size 0 .none := by
    have := Heap.get?_push_size (s.heap.push o) (o := { cls := .type "enumerate", data := .fields #[.none, .bool false, .ref s.heap.objs.size, rawInt 0, .none, .none] }) rfl
    rw [hz] at this; exact this
  exact ⟨⟨_, he, rfl⟩, h _ he (Heap.get?_push_of_some _ (Heap.get?_push_size _ B.free)) (by rw [Heap.size_push, hz]) fun b o x => Heap.get?_push_of_some _ (Heap.get?_push_of_some _ x)⟩
end
/-- the tuple at a, each item in a new pair -/
def IteT (K : PySem.W.Frag) (a : Addr) : It :=
  ⟨fun i H => ∃ (xs : List V) (x : V), SqT K H a xs ∧ xs[i]? = some x, fun i H v H' => ∃ T x, v = .ref T ∧ H T = none ∧ H' = upd H T (.tup [.int (i : Nat), x]) ∧ ∀ xs, SqT K H a xs → xs[i]? = some x, fun i H => ∃ xs : List V, SqT K H a xs ∧ xs.length ≤ i⟩
theorem turn_enumT {P : Program} {w : World} {K : PySem.W.Frag} {elts : List Expr} {kk : Nat} {tpos : Pos} (a e it : Addr) :
    Turn P w K (.Tuple elts kk tpos) (IteT K a) [e, it] e (fun i h => (∃ old, IsEnum h e it ((i : Nat) : Int) old) ∧ h.IsTupleIter it a i ∧ e ≠ it ∧ a ≠ it ∧ a ≠ e) where
  mem := by simp
  obj := fun i h st b hb => by
    obtain ⟨⟨old, he⟩, ⟨o, ho, hc, hd⟩, _⟩ := st
    have e' : b = e ∨ b = it := by simpa using hb
    rcases e' with z | z
    · rw [z]; exact ⟨_, he, fun v q => nomatch q⟩
    · rw [z]; exact ⟨o, ho, fun v q => by rw [hd] at q; cases q⟩
  keep := fun i h h' st k => let ⟨⟨old, he⟩, hi, hne⟩ := st; ⟨⟨old, k e (by simp) _ he⟩, hi.at fun o q => k it (by simp) o q, hne⟩
  item := by
    intro X hP hw hK hc i pins s σ H E I hf st hg
    subst hP hw hK
    obtain ⟨⟨old, he⟩, hit, hne, hat, hae⟩ := st
    obtain ⟨xs, x, hq, hx⟩ := hg
    obtain ⟨its, rv, p, hz⟩ := I.tuple hq
    obtain ⟨u, hu, ru⟩ := rv.get hx
    have hel : e < s.heap.objs.size := Heap.lt_size he
    have hil : it < s.heap.objs.size := by obtain ⟨_, q, _⟩ := hit; exact Heap.lt_size q
    have D := Draws.tuple (prog := X.prog) (w := X.w) (A := X.A.in1) (show X.A.in1.handled = none from I.ok.hd hc) it a hat its.toArray
    have hlt : i < its.toArray.size := by
      have := (List.getElem?_eq_some_iff.mp hu).1
      simpa using this
    refine wpAny_pyNext_enum_itemD D he ⟨hit, show s.heap.IsTuple a its.toArray from p⟩ hlt hne (by simp [hne, hae.symm]) fun v h' tk hv ho ⟨hit', _⟩ hT hsz hk => ?_
    have ev : v = u := by
      have hu' : its.toArray[i]? = some u := by simpa using hu
      exact Option.some.inj (hv.symm.trans hu')
    subst ev
    refine ⟨_, rfl, wpAny_letOwnedTupleGo_enum (s := { s with heap := h', toks := tk + 1 }) ho fun h'' he' sb => ?_⟩
    have hT2 : h''.get? s.heap.objs.size = some { cls := .type "tuple", data := .seq #[.int i tk, v] } := (sb.2 _ (Nat.ne_of_gt hel)).trans hT
    have new : ObjOk X.prog X.w (upd H s.heap.objs.size (.tup [.int (i : Nat), x])) h'' s.heap.objs.size (.tup [.int (i : Nat), x]) :=
      ⟨by show 2 ≤ sizeLine; decide, [.int i tk, v], .cons ⟨_, rfl⟩ (.cons ru .nil), ⟨_, hT2, rfl, _, rfl⟩⟩
    have I1 : Inv X pins σ (upd H s.heap.objs.size (.tup [.int (i : Nat), x])) { s with heap := h'', toks := tk + 1 } :=
      I.turnedNew (ch := [e, it]) (fun b ob hb q => (sb.2 b (fun z => hb (by simp [z]))).trans (hk b ob (fun z => hb (by simp [z])) (fun z => hb (by simp [z])) q)) hf (Nat.le_refl _) new
    refine ⟨.ref s.heap.objs.size, _, I1, rfl, ⟨_, x, rfl, I.hok.fresh (Nat.le_refl _), rfl, fun ys hy => by rw [I.tuple_inj hy hq]; exact hx⟩, ⟨⟨v, ?_⟩, hit'.at fun o q => (sb.2 it (Ne.symm hne)).trans q, hne, hat, hae⟩, fun b hb => ?_⟩
    · have e1 : ((i + 1 : Nat) : Int) = (i : Int) + 1 := by omega
      rw [e1]; exact he'
    · have hb' : b < s.heap.objs.size := by
        have e' : b = e ∨ b = it := by simpa using hb
        rcases e' with z | z
        · rw [z]; exact hel
        · rw [z]; exact hil
      rw [upd_ne (Nat.ne_of_lt hb')]
      exact (hf b hb).1
  done := by
    intro X hP hw hK hc i pins s σ H E I hf st hg
    subst hP hw hK
    obtain ⟨⟨old, he⟩, hit, hne, hat, hae⟩ := st
    obtain ⟨xs, hq, hx⟩ := hg
    obtain ⟨its, rv, p, hz⟩ := I.tuple hq
    obtain ⟨f0, f1, f2, f3, f4, f5⟩ := hf it (by simp)
    have hl := rv.length
    have hT : s.TypeIs (.ref e) "enumerate" := ⟨_, he, rfl⟩
    unfold pyNext
    refine wpAny_bind (wpAny_attempt (wpAny_callSpecial?_slot (name := Str.ofString "__next__") hT F.slot_enumerate_next
      (wpAny_call_entry F.slot_enumerate_next hT F.entry_enumerate_next ?_ (F.args_enumerate_next_1 _))))
    show wpAny _ _ (PySem.field (.ref e) 2 >>= _) _ _ _
    refine wpAny_bind (wpAny_field he rfl (x := .ref it) rfl ?_)
    refine wpAny_bind (wpAny_nextOf_tuple_end (show X.A.in1.handled = none from I.ok.hd hc) hit (show s.heap.IsTuple a its.toArray from p) (by simp; omega) fun h' x he' hx' => ?_)
    obtain ⟨o, ho, hcc⟩ := hx'
    refine wpAny_bind (wpAny_isInstance (T := "StopIteration") (b := true) ⟨o, ho, hcc⟩ isSubtype_stop ?_)
    exact wpAny_pure ⟨rfl, I.turned (t' := s.toks) (fun b o hb q => he' b o hb q) f0 f1 f3 f4 f5⟩
  self := fun A i s Q E st h => let ⟨⟨_, he⟩, _⟩ := st; wpAny_pyIter_enum he h
def iEnumT (K : PySem.W.Frag) (ta : TA) : TI := fun σ H R => ta σ H fun vs H1 => ∃ a xs, vs = [.ref a] ∧ SqT K H1 a xs ∧ R (IteT K a) H1
theorem pi_enumT {X : Cx} {e : Expr} {ta : TA} {p pos tpos : Pos} {elts : List Expr} {kk : Nat} (hg : Gl X "enumerate") (hm : X.mg "enumerate" = none) (ha : PA X [e] ta) (hs : starEach [e] X.env = [(false, eval e X.env)] := by rfl) :
    PI X (.Tuple elts kk tpos) (.Call (.Name "enumerate" p) [e] [] pos) (iEnumT X.K ta) := by
  refine ⟨fun pins s σ H R I h => ?_⟩
  refine Call_ (ld_blt I hg hm boot_enumerate (PyProof.Rows.callWith_type1 (thn (ha.run pos pins s σ H _ I h) fun us s1 ⟨vs, H1, I1, r1, q1⟩ => ?_) hs rfl))
  obtain ⟨a, xs, ex, hq, q⟩ := q1
  subst ex
  cases r1 with
  | cons r rr =>
    cases rr
    cases r
    obtain ⟨its, rv, p', hz⟩ := I1.tuple hq
    have hal : a < s1.heap.objs.size := by
      obtain ⟨o, ho, _⟩ := p'
      exact Heap.lt_size ho
    refine enum_one (begins_tuple a its.toArray) (show s1.heap.IsTuple a its.toArray from p') fun h' he hit hsz hk => wpAny_pyIter_enum he ?_
    have I2 : Inv X pins σ H1 { s1 with heap := h' } := I1.kept (t' := s1.toks) hk
    refine ⟨s1.heap.objs.size + 1, [s1.heap.objs.size + 1, s1.heap.objs.size], _, _, H1, rfl, I2, turn_enumT a (s1.heap.objs.size + 1) s1.heap.objs.size, ⟨⟨.none, he⟩, ⟨_, hit, rfl, rfl⟩, Nat.succ_ne_self _, Nat.ne_of_lt hal, Nat.ne_of_lt (Nat.lt_succ_of_lt hal)⟩, fun b hb => ?_, q⟩
    have e' : b = s1.heap.objs.size + 1 ∨ b = s1.heap.objs.size := by simpa using hb
    have hle : s1.heap.objs.size ≤ b := by
      rcases e' with z | z
      · rw [z]; exact Nat.le_add_right _ _
      · rw [z]; exact Nat.le_refl _
    exact I1.fpOk hle (I1.hok.fresh hle)
theorem walk_enumT {K : PySem.W.Frag} {a : Addr} {xs : List V} : Walk (IteT K a) xs.length (fun H => SqT K H a xs) (YPair (fun i => some (.int (i : Nat))) (fun i => xs[i]?)) := by
  refine ⟨fun i _ hi q => ⟨xs, xs[i], q, by simp [hi]⟩, fun _ q => ⟨xs, q, Nat.le_refl _⟩, fun i H v H' _ q y => ?_⟩
  obtain ⟨T, x, h1, h2, h3, h4⟩ := y
  exact ⟨T, .int (i : Nat), x, h1, h2, h3, rfl, h4 xs q⟩
end Lo
/-! _runs_in -/
namespace Kd
open PySem L2 Lo
def lastD (d : PyData) : PyData := (items d).getLastD .none
def isRunD (d : PyData) : Bool := match d with
  | .tuple (.str k :: _) => decide (k = "run")
  | _ => false
def tripD (node : PyData) (path ar : List PyData) : PyData := .tuple [node, .tuple path, .tuple ar]
/-- the statements in a body, each with its path and the nodes around it -/
def runsIn : Nat → List PyData → List PyData → List PyData → List PyData
  | 0, _, _, _ => []
  | n + 1, body, path, ar => body.zipIdx.flatMap fun p => if isRunD p.1 = true then [tripD p.1 (path ++ [.int (p.2 : Nat)]) ar] else runsIn n (items (lastD p.1)) (path ++ [.int (p.2 : Nat)]) (ar ++ [p.1])
/-- each node is a row that begins with a text; what is no statement has a body behind -/
def shape : Nat → List PyData → Bool
  | 0, _ => false
  | n + 1, body => body.all fun d => match d with
    | .tuple (.str k :: _) => decide (k = "run") || (isTup (lastD d) && shape n (items (lastD d)))
    | _ => false
theorem shape_at {n : Nat} {body : List PyData} (h : shape (n + 1) body = true) {d : PyData} (hd : d ∈ body) : ∃ k r, d = .tuple (.str k :: r) ∧ (k = "run" ∨ ∃ ds, lastD d = .tuple ds ∧ shape n ds = true) := by
  have h' := List.all_eq_true.mp h d hd
  match d, h' with
  | .tuple (.str k :: r), h' =>
    refine ⟨k, r, rfl, ?_⟩
    rw [Bool.or_eq_true, decide_eq_true_eq, Bool.and_eq_true] at h'
    rcases h' with e | ⟨e1, e2⟩
    · exact .inl e
    · cases e3 : lastD (.tuple (.str k :: r)) with
      | tuple ds =>
        rw [e3] at e2
        exact .inr ⟨ds, rfl, e2⟩
      | _ => rw [e3] at e1; exact nomatch e1
/-- a body that is well has that shape -/
theorem ok_shape : ∀ (n : Nat) (ns : List Str) (d : PyData), okBody n ns d = true → shape n (items d) = true
  | 0, _, _, h => nomatch h
  | n + 1, ns, d, h => by
    rw [body_eq, Bool.and_eq_true, Bool.and_eq_true] at h
    show (items d).all _ = true
    rw [List.all_eq_true]
    intro nd hn
    have hk := List.all_eq_true.mp h.2.2 nd hn
    match nd, hk with
    | .tuple (.str k :: r), hk =>
      have eqn : okNode (okBody n) ns (.tuple (.str k :: r)) = if k = "loop" then okLoop (okBody n) ns (.str k :: r) else if k = "test" then okTest (okBody n) ns (.str k :: r) else decide (k = "run") && okRun ns (.str k :: r) := rfl
      rw [eqn] at hk
      show (decide (k = "run") || _) = true
      by_cases k1 : k = "loop"
      · rw [if_pos k1] at hk
        by_cases hl : (PyData.str k :: r).length = 6
        · obtain ⟨a, b, c, d', e, f, e6⟩ := six_of hl
          rw [e6] at hk
          have h6 : ((pName b && (freshD ns b && isBoolD e)) && (okRow ns c && (okRow ns d' && (!emptyD f && okBody n (ns ++ strsOf [b]) f)))) = true := hk
          simp only [Bool.and_eq_true] at h6
          have hb := h6.2.2.2.2
          have el : lastD (.tuple (.str k :: r)) = f := by rw [e6]; rfl
          rw [el, ok_shape n _ f hb]
          have : isTup f = true := by
            cases n with
            | zero => exact nomatch hb
            | succ m =>
              rw [body_eq, Bool.and_eq_true] at hb
              exact hb.1
          rw [this]
          simp
        · rw [loop_len hl] at hk
          exact nomatch hk
      · rw [if_neg k1] at hk
        by_cases k2 : k = "test"
        · rw [if_pos k2] at hk
          by_cases hl : (PyData.str k :: r).length = 3
          · obtain ⟨a, b, f, e3⟩ := three_of hl
            rw [e3] at hk
            have h6 : (okDiffs ns b && (!emptyD f && okBody n ns f)) = true := hk
            simp only [Bool.and_eq_true] at h6
            have hb := h6.2.2
            have el : lastD (.tuple (.str k :: r)) = f := by rw [e3]; rfl
            rw [el, ok_shape n _ f hb]
            have : isTup f = true := by
              cases n with
              | zero => exact nomatch hb
              | succ m =>
                rw [body_eq, Bool.and_eq_true] at hb
                exact hb.1
            rw [this]
            simp
          · rw [test_len hl] at hk
            exact nomatch hk
        · rw [if_neg k2, Bool.and_eq_true] at hk
          rw [hk.1, Bool.true_or]
section
variable {K : PySem.W.Frag} {H H' : Hp} {rd : Addr} {u : List V}
theorem sqT_l {a : Addr} {xs : List V} (s : SameB (.ref rd) H H') (e : H rd = some (.lst u)) (h : SqT K H a xs) : SqT K H' a xs := by
  have ne : ∀ o, H a = some o → (∀ k, o ≠ .lst k) → V.ref rd ≠ .ref a := fun o h n z => by
    injection z with z
    rw [z, h] at e
    exact n _ (Option.some.inj e)
  rcases h with (h | ⟨o, h⟩) | h
  · exact .inl (.inl (s.keep _ _ (ne _ h fun k z => nomatch z) h fun ps z => nomatch z))
  · exact .inl (.inr ⟨o, s.keep _ _ (ne _ h fun k z => nomatch z) h fun ps z => nomatch z⟩)
  · exact .inr h
mutual
/-- a list changes: what has no list in it stays -/
theorem dp_l (s : SameB (.ref rd) H H') (e : H rd = some (.lst u)) : ∀ (d : PyData) (v : V), hashable d = true → Dp K H v d → Dp K H' v d
  | .none, _, _, h => by cases h; exact .non
  | .bool b, _, _, h => by cases h; exact .bl b
  | .int i, _, _, h => by cases h; exact .int i
  | .str x, _, _, h => by cases h; exact .str x
  | .list ds, _, n, h => by rw [hashable] at n; exact nomatch n
  | .tuple ds, _, n, h => by
    rw [hashable] at n
    cases h with
    | tup a b => exact .tup (sqT_l s e a) (dps_l s e ds _ n b)
  | .dict _, _, _, h => nomatch h
theorem dps_l (s : SameB (.ref rd) H H') (e : H rd = some (.lst u)) : ∀ (ds : List PyData) (vs : List V), hashables ds = true → DpAll K H vs ds → DpAll K H' vs ds
  | [], _, _, h => by cases h; exact .nil
  | d :: ds, _, n, h => by
    rw [hashables, Bool.and_eq_true] at n
    cases h with
    | cons a b => exact .cons (dp_l s e d _ n.1 a) (dps_l s e ds _ n.2 b)
end
end
theorem dps_app {K : PySem.W.Frag} {H : Hp} : ∀ {xs ys : List V} {ds es : List PyData}, DpAll K H xs ds → DpAll K H ys es → DpAll K H (xs ++ ys) (ds ++ es)
  | [], _, _, _, h, k => by cases h; exact k
  | _ :: _, _, _, _, h, k => by
    cases h with
    | cons a b => exact .cons a (dps_app b k)
theorem hashables_app : ∀ {ds es : List PyData}, hashables ds = true → hashables es = true → hashables (ds ++ es) = true := by
  intro ds es h k
  rw [hashables_all] at h k ⊢
  rw [List.all_append, h, k]
  rfl
theorem hash_last {d : PyData} (h : hashable d = true) : hashables (items (lastD d)) = true := by
  cases d with
  | tuple ds =>
    rw [hashable, hashables_all, List.all_eq_true] at h
    show hashables (items (ds.getLastD .none)) = true
    cases ds with
    | nil => rfl
    | cons a r =>
      have hm : (a :: r).getLastD .none ∈ a :: r := by
        rw [List.getLastD_cons]
        exact List.getLastD_mem_cons
      have := h _ hm
      cases e : (a :: r).getLastD .none with
      | tuple es => rw [e, hashable] at this; exact this
      | _ => rfl
  | _ => rfl
theorem runs_hash : ∀ (n : Nat) (body path ar : List PyData), hashables body = true → hashables path = true → hashables ar = true → hashables (runsIn n body path ar) = true
  | 0, _, _, _, _, _, _ => rfl
  | n + 1, body, path, ar, hb, hp, ha => by
    rw [hashables_all, List.all_eq_true]
    intro d hd
    rw [runsIn, List.mem_flatMap] at hd
    obtain ⟨p, hm, hd⟩ := hd
    have hm1 : p.1 ∈ body := List.fst_mem_of_mem_zipIdx hm
    have h1 : hashable p.1 = true := by
      rw [hashables_all, List.all_eq_true] at hb
      exact hb _ hm1
    have hp' : hashables (path ++ [PyData.int (p.2 : Nat)]) = true := hashables_app hp rfl
    by_cases e : isRunD p.1 = true
    · rw [if_pos e, List.mem_singleton] at hd
      rw [hd]
      show hashable (.tuple [p.1, .tuple _, .tuple ar]) = true
      simp only [hashable, hashables, h1, hp', ha, Bool.and_true]
    · rw [if_neg e] at hd
      have := runs_hash n (items (lastD p.1)) (path ++ [.int (p.2 : Nat)]) (ar ++ [p.1]) (hash_last h1) hp' (hashables_app ha (by simp only [hashables, h1, Bool.and_true]))
      rw [hashables_all, List.all_eq_true] at this
      exact this d hd
end Kd
/-! _runs_in, the def -/
namespace Kd
open PySem L2 Lo
theorem dps_last {K : PySem.W.Frag} {H : Hp} {zs : List V} {es : List PyData} (h : DpAll K H zs es) (ne : es ≠ []) : ∃ v, atI zs (-1) = some v ∧ Dp K H v (es.getLastD .none) := by
  obtain ⟨e, he⟩ : ∃ e, es[es.length - 1]? = some e := ⟨_, List.getElem?_eq_getElem (by have := List.length_pos_iff.mpr ne; omega)⟩
  obtain ⟨v, hv, dv⟩ := dps_at' h he
  have hl := dps_len h
  have hz : zs ≠ [] := fun z => by
    rw [z] at hv
    exact nomatch hv
  have e1 : zs = zs.dropLast ++ [v] := by
    have h1 := List.dropLast_concat_getLast hz
    rw [List.getLast_eq_getElem hz] at h1
    rw [hl.symm, List.getElem?_eq_getElem (by have := List.length_pos_iff.mpr hz; omega)] at hv
    rw [Option.some.inj hv] at h1
    exact h1.symm
  refine ⟨v, by rw [e1]; exact atI_last _ _, ?_⟩
  have e2 : es.getLastD .none = e := by
    rw [List.getLastD_eq_getLast?, List.getLast?_eq_getElem?, he]
    rfl
  rw [e2]
  exact dv
theorem part_len {α β : Type} (F : α → List β) (l : List α) (i : Nat) : ((l.take i).flatMap F).length ≤ (l.flatMap F).length := by
  have h := congrArg (fun z => (z.flatMap F).length) (List.take_append_drop i l)
  simp only [List.flatMap_append, List.length_append] at h
  omega
theorem part_mem {α β : Type} {F : α → List β} {l : List α} {i : Nat} {b : β} (h : b ∈ (l.take i).flatMap F) : b ∈ l.flatMap F := by
  rw [List.mem_flatMap] at h ⊢
  obtain ⟨a, ha, hb⟩ := h
  exact ⟨a, List.mem_of_mem_take ha, hb⟩
section
variable {P : Program} {w : World} {K : PySem.W.Frag} {mg : Str → Option Value} {base : Heap}
def spRunsIn (K : PySem.W.Frag) (n : Nat) : Sp := fun vs H Q _ => ∃ (vb vp va : V) (body path ar : List PyData), vs = [vb, vp, va] ∧ Dp K H vb (.tuple body) ∧ Dp K H vp (.tuple path) ∧ Dp K H va (.tuple ar) ∧ shape n body = true ∧ 0 < n ∧ hashables body = true ∧ hashables path = true ∧ hashables ar = true ∧
  path.length + n ≤ 200 ∧ ar.length + n ≤ 200 ∧ (runsIn n body path ar).length ≤ 1000 ∧ ∀ (H' : Hp) (l : Addr) (xs : List V), Same H H' → H l = none → H' l = some (.lst xs) → DpAll K H' xs (runsIn n body path ar) → Q (.ref l) H'
abbrev nRunsIn : List Str := ["body", "path", "around", "found", "at", "node"]
theorem scRunsIn : FnScope nRunsIn ["body", "path", "around"] (defScope sRunsIn) := ⟨rfl, rfl, rfl, by decide +kernel, rfl, by decide +kernel, by decide +kernel⟩
theorem ok_runsInS {f : Addr} {fd : FuncData} (n : Nat) (F : Fun K "_runs_in" "_runs_in" sRunsIn f fd) (henum : mg "enumerate" = none) (bF : Binds K fd ["body", "path", "around"] []) (gF : mg "_runs_in" = some (.ref f))
    (G : FnOk P w K mg base CX0 (n + 1) f fd ["body", "path", "around"] (spRunsIn K n)) : FnOk P w K mg base CX0 (n + 2) f fd ["body", "path", "around"] (spRunsIn K (n + 1)) := by
  refine F.ok scRunsIn (fun vs H Q E h => ?_) (fun cdv A outer s H vs Q E hr h => ?_)
  · obtain ⟨vb, vp, va, body, path, ar, rfl, _⟩ := h
    rfl
  · obtain ⟨vb, vp, va, bd, path, ar, rfl, hb, hp, ha, shp, n0, nb, np, na, lp, la, few, q⟩ := h
    have nd := scRunsIn.nd
    have body : PSs (cxOf CX0 P w K mg base nRunsIn "_runs_in" (defScope sRunsIn) f cdv A outer s H E).nox (defBody sRunsIn) _ := pss_cons (ps_set (i := 3) nd rfl (.inl rfl) (pe_lst pa_nil))
      (pss_cons (ps_for PassesOwn.never rfl (pi_enumT (by rfl) henum (pa_cons (pv 0) pa_nil)) (pg_tup rfl (pgs_cons (pg_name (i := 4) nd rfl (.inl rfl)) (pgs_cons (pg_name (i := 5) nd rfl (.inl rfl)) pgs_nil)))
        (pss_one (ps_if (pt_cmpR op_eq (pe_ix ix_tup (pv 5) pe_int (fun _ _ => rfl)) pe_str (nomark _))
          (pss_one (ps_expr (pe_bm PySem.F.plainAttrs_list PySem.F.slot_list_append PySem.F.type_list_append mt_append (pv 3) (pa_cons (pe_tup (pa_cons (pv 5) (pa_cons (pe_tup (StX.pa_star (pv 1) (pa_cons (pv 4) pa_nil))) (pa_cons (pv 2) pa_nil)))) pa_nil))))
          (pss_one (ps_expr (pe_bm PySem.F.plainAttrs_list PySem.F.slot_list_extend PySem.F.type_list_extend mt_extend (pv 3) (pa_cons (pe_call G hr (by rfl) gF F.kp bF .nil pass0 (pa_cons (pe_ix ix_tup (pv 5) (pe_un un_neg pe_int) (fun _ _ => rfl)) (pa_cons (pe_tup (StX.pa_star (pv 1) (pa_cons (pv 4) pa_nil))) (pa_cons (pe_tup (StX.pa_star (pv 2) (pa_cons (pv 5) pa_nil))) pa_nil)))) pa_nil)))))))
      (pss_one (ps_ret (pv 3))))
    refine ⟨_, body, ?_⟩
    obtain ⟨b, xb, rfl, hpb, hAb⟩ : ∃ b xb, vb = .ref b ∧ SqT K H b xb ∧ DpAll K H xb bd := by cases hb with | tup h1 h2 => exact ⟨_, _, rfl, h1, h2⟩
    obtain ⟨pp, xp, rfl, hpp, hAp⟩ : ∃ b xb, vp = .ref b ∧ SqT K H b xb ∧ DpAll K H xb path := by cases hp with | tup h1 h2 => exact ⟨_, _, rfl, h1, h2⟩
    obtain ⟨pa, xa, rfl, hpa, hAa⟩ : ∃ b xb, va = .ref b ∧ SqT K H b xb ∧ DpAll K H xb ar := by cases ha with | tup h1 h2 => exact ⟨_, _, rfl, h1, h2⟩
    have hlb := dps_len hAb
    have hlp := dps_len hAp
    have hla := dps_len hAa
    have eruns : runsIn (n + 1) bd path ar = bd.zipIdx.flatMap fun p => if isRunD p.1 = true then [tripD p.1 (path ++ [.int (p.2 : Nat)]) ar] else runsIn n (items (lastD p.1)) (path ++ [.int (p.2 : Nat)]) (ar ++ [p.1]) := rfl
    have hashall := runs_hash (n + 1) bd path ar nb np na
    rw [eruns] at q few hashall
    generalize hF : (fun p : PyData × Nat => if isRunD p.1 = true then [tripD p.1 (path ++ [.int (p.2 : Nat)]) ar] else runsIn n (items (lastD p.1)) (path ++ [.int (p.2 : Nat)]) (ar ++ [p.1])) = F at q few hashall
    have hpre : ∀ i, hashables ((bd.zipIdx.take i).flatMap F) = true := fun i => by
      rw [hashables_all, List.all_eq_true] at hashall ⊢
      exact fun d hd => hashall d (part_mem hd)
    have big : (3000 : Nat) ≤ sizeLine := by decide
    refine ⟨Nat.zero_le _, fun D nD => ?_⟩
    have s0 := same_upd (o := HO.lst []) nD
    refine ⟨_, rfl, b, _, rfl, sqT_g (SameG.of s0) hpb, for_it walk_enumT (fun i σ H' => ∃ (y4 y5 : Option V) (acc : List V), σ = [some (.ref b), some (.ref pp), some (.ref pa), some (.ref D), y4, y5] ∧ Same H H' ∧ H' D = some (.lst acc) ∧ DpAll K H' acc ((bd.zipIdx.take i).flatMap F))
      ⟨none, none, [], rfl, s0, upd_same, .nil⟩ (fun i σ H' _ ⟨_, _, _, _, k, _⟩ => sqT_g (SameG.of k) hpb) ?_ ?_⟩
    · rintro i x σ H1 H2 hi ⟨y4, y5, acc, rfl, s1, hD1, hacc⟩ ⟨tp, x1, x2, rfl, ntp, rfl, e1, e2⟩
      obtain rfl := Option.some.inj e1
      have hi' : i < bd.length := hlb ▸ hi
      obtain ⟨d, ed, dd⟩ := dps_at hAb e2
      have hm := List.mem_of_getElem? ed
      obtain ⟨k, r, rfl, hk⟩ := shape_at shp hm
      have hz : bd.zipIdx[i]? = some (.tuple (.str k :: r), i) := by
        rw [List.getElem?_zipIdx, ed]
        simp
      have etake : bd.zipIdx.take (i + 1) = bd.zipIdx.take i ++ [(.tuple (.str k :: r), i)] := by
        rw [List.take_add_one, hz]
        rfl
      have epre : (bd.zipIdx.take (i + 1)).flatMap F = (bd.zipIdx.take i).flatMap F ++ F (.tuple (.str k :: r), i) := by
        rw [etake, List.flatMap_append]
        simp
      have l1 := part_len F bd.zipIdx (i + 1)
      rw [epre, List.length_append] at l1
      have lacc := dps_len hacc
      have s2 := same_upd (o := HO.tup [V.int (i : Nat), x2]) ntp
      have u2 := s1.trans s2
      have hD2 := s2 _ _ hD1
      have hacc2 := dps_g (SameG.of s2) _ _ hacc
      have ndh : hashable (.tuple (.str k :: r)) = true := by
        rw [hashables_all, List.all_eq_true] at nb
        exact nb _ hm
      refine ⟨tp, _, rfl, SqT.of upd_same, rfl, _, _, rfl, _, _, rfl, rfl, ?_⟩
      generalize upd H1 tp (.tup [V.int (i : Nat), x2]) = H3 at u2 hD2 hacc2 ⊢
      have dd3 := dp_g (SameG.of u2) _ _ dd
      cases dd with
      | @tup qn zs _ hq hB =>
      obtain ⟨z0, zr, rfl, b0, hBr⟩ := dps_cons hB
      cases b0
      have hq3 := sqT_g (SameG.of u2) hq
      refine ⟨_, rfl, qn, _, _, _, rfl, rfl, hq3, atI_nat (j := 0) rfl, rfl, _, rfl, ?_⟩
      rw [str_dec]
      have fin : ∀ (H5 : Hp) (zs' : List V), Same H3 H5 → DpAll K H5 zs' (F (.tuple (.str k :: r), i)) → ∃ (y4 y5 : Option V) (acc' : List V), [some (V.ref b), some (.ref pp), some (.ref pa), some (.ref D), some (.int (i : Nat)), some (.ref qn)] = [some (.ref b), some (.ref pp), some (.ref pa), some (.ref D), y4, y5] ∧ Same H (upd H5 D (.lst (acc ++ zs'))) ∧ (upd H5 D (.lst (acc ++ zs'))) D = some (.lst acc') ∧ DpAll K (upd H5 D (.lst (acc ++ zs'))) acc' ((bd.zipIdx.take (i + 1)).flatMap F) := fun H5 zs' s5 dz => by
        refine ⟨_, _, _, rfl, (u2.trans s5).later nD, upd_same, ?_⟩
        have hall := dps_app (dps_g (SameG.of s5) _ _ hacc2) dz
        rw [epre]
        have hh := hpre (i + 1)
        rw [epre] at hh
        exact dps_l (SameB.set (s5 _ _ hD2) fun ps z => nomatch z) (s5 _ _ hD2) _ _ hh hall
      have eF : F (.tuple (.str k :: r), i) = if isRunD (.tuple (.str k :: r)) = true then [tripD (.tuple (.str k :: r)) (path ++ [.int (i : Nat)]) ar] else runsIn n (items (lastD (.tuple (.str k :: r)))) (path ++ [.int (i : Nat)]) (ar ++ [.tuple (.str k :: r)]) := by rw [← hF]
      have eR : isRunD (.tuple (.str k :: r)) = decide (k = "run") := rfl
      rw [eR] at eF
      have lenp : (xp ++ [V.int (i : Nat)]).length ≤ sizeLine := by
        rw [List.length_append, hlp]
        simp only [List.length_cons, List.length_nil]
        omega
      by_cases k1 : k = "run"
      · rw [decide_eq_true k1] at eF ⊢
        rw [if_pos rfl] at eF
        refine iteT ⟨_, rfl, .inl ⟨rfl, _, SqL.of hD2⟩, _, rfl, _, rfl, pp, xp, rfl, .inl (sqT_g (SameG.of u2) hpp), _, rfl, lenp, fun t nt => ?_⟩
        have s4 := same_upd (o := HO.tup (xp ++ [V.int (i : Nat)])) nt
        refine ⟨_, rfl, by show 3 ≤ sizeLine; decide, fun t2 nt2 => ?_⟩
        have s5 := same_upd (o := HO.tup [V.ref qn, .ref t, .ref pa]) nt2
        have s45 := s4.trans s5
        have u5 := u2.trans s45
        refine ⟨D, _, _, rfl, rfl, s45 _ _ hD2, by omega, ?_⟩
        refine fin _ [V.ref t2] s45 ?_
        rw [eF]
        refine .cons (.tup (SqT.of upd_same) ?_) .nil
        refine .cons (dp_g (SameG.of s45) _ _ dd3) (.cons (.tup (SqT.of (s5 _ _ upd_same)) (dps_app (dps_g (SameG.of u5) _ _ hAp) (.cons (.int _) .nil))) (.cons (.tup (sqT_g (SameG.of u5) hpa) (dps_g (SameG.of u5) _ _ hAa)) .nil))
      · rw [decide_eq_false k1] at eF ⊢
        rw [if_neg Bool.false_ne_true] at eF
        obtain ⟨ds, el, shp'⟩ := hk.resolve_left k1
        have eit : items (lastD (.tuple (.str k :: r))) = ds := by rw [el]; rfl
        rw [eit] at eF
        obtain ⟨vl, hat, dl⟩ := dps_last (dps_g (SameG.of u2) _ _ hB) (by simp)
        have el' : (PyData.str k :: r).getLastD .none = .tuple ds := el
        rw [el'] at dl
        have npos : 0 < n := by
          cases n with
          | zero => exact nomatch shp'
          | succ m => exact Nat.succ_pos m
        have hlash := hash_last ndh
        rw [eit] at hlash
        refine iteF ⟨_, rfl, .inl ⟨rfl, _, SqL.of hD2⟩, _, rfl, _, rfl, qn, _, -1, vl, rfl, rfl, hq3, hat, _, rfl, pp, xp, rfl, .inl (sqT_g (SameG.of u2) hpp), _, rfl, lenp, fun t nt => ?_⟩
        have s4 := same_upd (o := HO.tup (xp ++ [V.int (i : Nat)])) nt
        refine ⟨_, rfl, pa, xa, rfl, .inl (sqT_g (SameG.of (u2.trans s4)) hpa), _, rfl, ?_, fun t2 nt2 => ?_⟩
        · rw [List.length_append, hla]
          simp only [List.length_cons, List.length_nil]
          omega
        have s5 := same_upd (o := HO.tup (xa ++ [V.ref qn])) nt2
        have s45 := s4.trans s5
        have u5 := u2.trans s45
        refine ⟨vl, .ref t, .ref t2, ds, path ++ [.int (i : Nat)], ar ++ [.tuple (.str k :: r)], rfl, dp_g (SameG.of s45) _ _ dl, .tup (SqT.of (s5 _ _ upd_same)) (dps_app (dps_g (SameG.of u5) _ _ hAp) (.cons (.int _) .nil)), .tup (SqT.of upd_same) (dps_app (dps_g (SameG.of u5) _ _ hAa) (.cons (dp_g (SameG.of s45) _ _ dd3) .nil)), shp', npos, hlash, hashables_app np rfl, hashables_app na (by simp only [hashables, ndh, Bool.and_true]), ?_, ?_, ?_, fun H6 l6 xs6 s6 nl6 hl6 dz => ?_⟩
        · rw [List.length_append]
          simp only [List.length_cons, List.length_nil]
          omega
        · rw [List.length_append]
          simp only [List.length_cons, List.length_nil]
          omega
        · rw [← eF]
          omega
        · have ldz := dps_len dz
          rw [← eF] at dz ldz
          refine ⟨D, l6, _, xs6, rfl, rfl, s6 _ _ (s45 _ _ hD2), hl6, by omega, ?_⟩
          exact fin H6 xs6 (s45.trans s6) dz
    · rintro σ H1 ⟨y4, y5, acc, rfl, s1, hD1, hacc⟩
      rw [hlb, show bd.zipIdx.take bd.length = bd.zipIdx by rw [List.take_of_length_le (by rw [List.length_zipIdx]; exact Nat.le_refl _)]] at hacc
      exact ⟨_, rfl, q H1 D acc s1 nD hD1 hacc⟩
end
end Kd
/-! what the statements in a good body are; facts of labels and arrays; a Nest -/
namespace Kd
open PySem L2 Lo
def AccP (x : PyData) : Prop := ∃ (a : Str) (ats : List PyData), x = .tuple [.str a, .tuple ats]
/-- a statement -/
def RunP (d : PyData) : Prop := ∃ (k l : Str) (st rs : List PyData) (t : PyData), d = .tuple [.str k, .str l, .tuple st, t, .tuple rs] ∧ AccP t ∧ ∀ x ∈ rs, AccP x
theorem acc_of {ns : List Str} {d : PyData} (h : okAccess ns d = true) : AccP d := by
  match d, h with
  | .tuple [a, b], h =>
    have h' : (pName a && pAtoms ns 4 b) = true := h
    rw [Bool.and_eq_true] at h'
    cases a with
    | str a =>
      cases b with
      | tuple ats => exact ⟨a, ats, rfl⟩
      | _ => exact nomatch h'.2
    | _ => exact nomatch h'.1
theorem run_of {ns : List Str} {k : Str} {r : List PyData} (h : okRun ns (.str k :: r) = true) : RunP (.tuple (.str k :: r)) := by
  by_cases hl : (PyData.str k :: r).length = 5
  · obtain ⟨a, b, c, t, e, e5⟩ := five_of hl
    have ha : a = .str k := by injection e5 with e1 _; exact e1.symm
    subst ha
    rw [e5] at h ⊢
    have h' : ((pName b && pAtoms ns 8 c) && (pRow 0 6 e && (t :: items e).all (okAccess ns))) = true := h
    simp only [Bool.and_eq_true, List.all_cons] at h'
    obtain ⟨⟨h1, h2⟩, h3, h4, h5⟩ := h'
    obtain ⟨rs, rfl⟩ := tup_of_row h3
    cases b with
    | str l =>
      cases c with
      | tuple st => exact ⟨k, l, st, rs, t, rfl, acc_of h4, fun x hx => acc_of (List.all_eq_true.mp h5 x hx)⟩
      | _ => exact nomatch h2
    | _ => exact nomatch h1
  · rw [run_len hl] at h
    exact nomatch h
/-- what _runs_in tells of a good body -/
theorem runs_are : ∀ (n : Nat) (ns : List Str) (d : PyData) (path ar : List PyData), okBody n ns d = true → ∀ t ∈ runsIn n (items d) path ar, ∃ nd p' a', t = tripD nd p' a' ∧ RunP nd
  | 0, _, _, _, _, h, _, _ => nomatch h
  | n + 1, ns, d, path, ar, h, t, ht => by
    rw [body_eq, Bool.and_eq_true, Bool.and_eq_true] at h
    rw [runsIn, List.mem_flatMap] at ht
    obtain ⟨p, hm, ht⟩ := ht
    have hk := List.all_eq_true.mp h.2.2 p.1 (List.fst_mem_of_mem_zipIdx hm)
    obtain ⟨nd, at_⟩ := p
    dsimp only at hk ht
    match nd, hk, ht with
    | .tuple (.str k :: r), hk, ht =>
      have eqn : okNode (okBody n) ns (.tuple (.str k :: r)) = if k = "loop" then okLoop (okBody n) ns (.str k :: r) else if k = "test" then okTest (okBody n) ns (.str k :: r) else decide (k = "run") && okRun ns (.str k :: r) := rfl
      have eR : isRunD (.tuple (.str k :: r)) = decide (k = "run") := rfl
      rw [eqn] at hk
      rw [eR] at ht
      by_cases k1 : k = "loop"
      · rw [if_pos k1] at hk
        rw [show decide (k = "run") = false from decide_eq_false (by rw [k1]; decide +kernel), if_neg Bool.false_ne_true] at ht
        by_cases hl : (PyData.str k :: r).length = 6
        · obtain ⟨a, b, c, d', e, f, e6⟩ := six_of hl
          have el : lastD (.tuple (.str k :: r)) = f := by rw [e6]; rfl
          rw [e6] at hk
          have h6 : ((pName b && (freshD ns b && isBoolD e)) && (okRow ns c && (okRow ns d' && (!emptyD f && okBody n (ns ++ strsOf [b]) f)))) = true := hk
          simp only [Bool.and_eq_true] at h6
          rw [el] at ht
          exact runs_are n _ f _ _ h6.2.2.2.2 t ht
        · rw [loop_len hl] at hk
          exact nomatch hk
      · rw [if_neg k1] at hk
        by_cases k2 : k = "test"
        · rw [if_pos k2] at hk
          rw [show decide (k = "run") = false from decide_eq_false (by rw [k2]; decide +kernel), if_neg Bool.false_ne_true] at ht
          by_cases hl : (PyData.str k :: r).length = 3
          · obtain ⟨a, b, f, e3⟩ := three_of hl
            have el : lastD (.tuple (.str k :: r)) = f := by rw [e3]; rfl
            rw [e3] at hk
            have h6 : (okDiffs ns b && (!emptyD f && okBody n ns f)) = true := hk
            simp only [Bool.and_eq_true] at h6
            rw [el] at ht
            exact runs_are n _ f _ _ h6.2.2 t ht
          · rw [test_len hl] at hk
            exact nomatch hk
        · rw [if_neg k2, Bool.and_eq_true] at hk
          rw [hk.1, if_pos rfl, List.mem_singleton] at ht
          exact ⟨_, _, _, ht, run_of hk.2⟩
def nodeOf (t : PyData) : PyData := match t with
  | .tuple (nd :: _) => nd
  | _ => .none
def labelF (d : PyData) : Fact := match d with
  | .tuple [_, .str l, .tuple st, _, .tuple rs] => (l, .tuple [.int (st.length : Nat), .int (rs.length : Nat)])
  | _ => ("", .none)
def accF (x : PyData) : Fact := match x with
  | .tuple [.str a, .tuple ats] => (a, .int (ats.length : Nat))
  | _ => ("", .none)
def indexF (d : PyData) : List Fact := match d with
  | .tuple [_, _, _, t, .tuple rs] => (t :: rs).map accF
  | _ => []
def roomF (kd : Key × PyData) : Fact := match kd.1 with
  | .inr x => (x, .int ((items kd.2).length : Nat))
  | .inl _ => ("", .none)
def roomsOf : RD → List (Key × PyData)
  | .dict kvs => kvs
  | .data _ => []
def nodesOf (b : PyData) : List PyData := (runsIn 41 (items b) [] []).map nodeOf
def labelsF (b : PyData) : List Fact := (nodesOf b).map labelF
def arraysF (r : RD) (b : PyData) : List Fact := (roomsOf r).map roomF ++ (nodesOf b).flatMap indexF
def nestOk (z g : PyData) (r : RD) (k b : PyData) : Bool := okHead z g r k && (okBody 41 (strsOf (items z)) b && (numsOk (labelsF b) && numsOk (arraysF r b)))
/-- small enough to be counted, where it comes to that -/
def nestFew (z g : PyData) (r : RD) (k b : PyData) : Bool := !(okHead z g r k && okBody 41 (strsOf (items z)) b) || (hashable b && decide ((nodesOf b).length < 60) && decide ((arraysF r b).length < 60))
theorem nodes_are {ns : List Str} {b : PyData} (h : okBody 41 ns b = true) : ∀ d ∈ nodesOf b, RunP d := by
  intro d hd
  obtain ⟨t, ht, rfl⟩ := List.mem_map.mp hd
  obtain ⟨nd, p', a', rfl, hr⟩ := runs_are 41 ns b [] [] h t ht
  exact hr
/-- the fields of a Nest -/
def nfields (vz vg vk vb : V) (rd ld ad : Addr) : List (Str × V) := putF "_arrays" (.ref ad) (putF "_labels" (.ref ld) (putF "_rooms" (.ref rd) (putF "body" vb (putF "kept" vk (putF "given" vg (putF "sizes" vz []))))))
end Kd
set_option maxHeartbeats 4000000
/-! Nest.__init__ -/
namespace Kd
open PySem L2 Lo
abbrev sNInit : Stmt := inClass cNest 0
/-- the outer walk of a comprehension with two -/
theorem lc2_list {K : PySem.W.Frag} {a : Addr} {xs : List V} {g g1 : TG} {tt tt1 : TT} {wi1 : TI} {te : TE} {vs vs1 : List Nat} {σ : St} {H1 : Hp} {D : Addr} {Qd : Hp → Prop} (Pv : Nat → Hp → Prop) (h0 : Pv 0 (upd H1 D (.lst []))) (hl : ∀ i H, i ≤ xs.length → Pv i H → SqL K H a xs)
    (hs : ∀ i x H, xs[i]? = some x → Pv i H → g x (wipe σ vs) H fun σ2 H2 => wipe σ2 vs = wipe σ vs ∧ tt σ2 H2 fun b H3 =>
      if b = true then wi1 σ2 H3 fun J1 H4 => ∃ W1 : Nat → Nat → Hp → Prop, (∃ m, W1 0 m H4) ∧ ∀ j k H, W1 j k H →
        (J1.stop j H ∧ Pv (i + 1) H) ∨ (J1.go j H ∧ ∃ Nx1 : Hp → Prop, (∀ H', Nx1 H' → ∃ k', k' < k ∧ W1 (j + 1) k' H') ∧ ∀ x H', J1.yld j H x H' → g1 x (wipe σ2 vs1) H' fun σ3 H5 => wipe σ3 vs1 = wipe σ2 vs1 ∧ tt1 σ3 H5 fun b H6 =>
          if b = true then te σ3 H6 fun y H7 => ∃ acc, H7 D = some (.lst acc) ∧ acc.length < sizeLine ∧ Nx1 (upd H7 D (.lst (acc ++ [y]))) else Nx1 H6)
      else Pv (i + 1) H3) (hd : ∀ H, Pv xs.length H → Qd H) :
    ∃ W : Nat → Nat → Hp → Prop, (∃ m, W 0 m (upd H1 D (.lst []))) ∧ ∀ i m H, W i m H →
      ((Itl K a).stop i H ∧ Qd H) ∨ ((Itl K a).go i H ∧ ∃ Nx : Hp → Prop, (∀ H', Nx H' → ∃ m', m' < m ∧ W (i + 1) m' H') ∧ ∀ x H', (Itl K a).yld i H x H' → g x (wipe σ vs) H' fun σ2 H2 => wipe σ2 vs = wipe σ vs ∧ tt σ2 H2 fun b H3 =>
        if b = true then wi1 σ2 H3 fun J1 H4 => ∃ W1 : Nat → Nat → Hp → Prop, (∃ m, W1 0 m H4) ∧ ∀ j k H, W1 j k H →
          (J1.stop j H ∧ Nx H) ∨ (J1.go j H ∧ ∃ Nx1 : Hp → Prop, (∀ H', Nx1 H' → ∃ k', k' < k ∧ W1 (j + 1) k' H') ∧ ∀ x H', J1.yld j H x H' → g1 x (wipe σ2 vs1) H' fun σ3 H5 => wipe σ3 vs1 = wipe σ2 vs1 ∧ tt1 σ3 H5 fun b H6 =>
            if b = true then te σ3 H6 fun y H7 => ∃ acc, H7 D = some (.lst acc) ∧ acc.length < sizeLine ∧ Nx1 (upd H7 D (.lst (acc ++ [y]))) else Nx1 H6)
        else Nx H3) := by
  refine ⟨fun i m H => m = xs.length - i ∧ i ≤ xs.length ∧ Pv i H, ⟨xs.length, by simp, Nat.zero_le _, h0⟩, ?_⟩
  rintro i m H ⟨rfl, hi, p⟩
  have q := hl i H hi p
  by_cases hlt : i < xs.length
  · refine .inr ⟨⟨xs, xs[i], q, by simp [hlt]⟩, Pv (i + 1), fun H' p' => ⟨xs.length - (i + 1), by omega, rfl, hlt, p'⟩, fun x H' y => ?_⟩
    obtain ⟨e, y⟩ := y
    subst e
    exact hs i x _ (y xs q) p
  · have e : i = xs.length := by omega
    subst e
    exact .inl ⟨⟨xs, q, Nat.le_refl _⟩, hd H p⟩
/-- the inner one, over a tuple -/
theorem lci_tup {K : PySem.W.Frag} {a : Addr} {xs : List V} {g : TG} {tt : TT} {te : TE} {vs : List Nat} {σ : St} {H1 : Hp} {D : Addr} {Qd : Hp → Prop} (Pv : Nat → Hp → Prop) (h0 : Pv 0 H1) (hl : ∀ i H, i ≤ xs.length → Pv i H → SqT K H a xs)
    (hs : ∀ i x H, xs[i]? = some x → Pv i H → g x (wipe σ vs) H fun σ2 H2 => wipe σ2 vs = wipe σ vs ∧ tt σ2 H2 fun b H3 =>
      if b = true then te σ2 H3 fun y H4 => ∃ acc, H4 D = some (.lst acc) ∧ acc.length < sizeLine ∧ Pv (i + 1) (upd H4 D (.lst (acc ++ [y]))) else Pv (i + 1) H3) (hd : ∀ H, Pv xs.length H → Qd H) :
    ∃ W : Nat → Nat → Hp → Prop, (∃ m, W 0 m H1) ∧ ∀ i m H, W i m H →
      ((Itt K a).stop i H ∧ Qd H) ∨ ((Itt K a).go i H ∧ ∃ Nx : Hp → Prop, (∀ H', Nx H' → ∃ m', m' < m ∧ W (i + 1) m' H') ∧ ∀ x H', (Itt K a).yld i H x H' → g x (wipe σ vs) H' fun σ2 H2 => wipe σ2 vs = wipe σ vs ∧ tt σ2 H2 fun b H3 =>
        if b = true then te σ2 H3 fun y H4 => ∃ acc, H4 D = some (.lst acc) ∧ acc.length < sizeLine ∧ Nx (upd H4 D (.lst (acc ++ [y]))) else Nx H3) := by
  refine ⟨fun i m H => m = xs.length - i ∧ i ≤ xs.length ∧ Pv i H, ⟨xs.length, by simp, Nat.zero_le _, h0⟩, ?_⟩
  rintro i m H ⟨rfl, hi, p⟩
  have q := hl i H hi p
  by_cases hlt : i < xs.length
  · refine .inr ⟨⟨xs, xs[i], q, by simp [hlt]⟩, Pv (i + 1), fun H' p' => ⟨xs.length - (i + 1), by omega, rfl, hlt, p'⟩, fun x H' y => ?_⟩
    obtain ⟨e, y⟩ := y
    subst e
    exact hs i x _ (y xs q) p
  · have e : i = xs.length := by omega
    subst e
    exact .inl ⟨⟨xs, q, Nat.le_refl _⟩, hd H p⟩
theorem len_putF (x : Str) (v : V) : ∀ fs : List (Str × V), (putF x v fs).length ≤ fs.length + 1
  | [] => Nat.le_refl _
  | f :: fs => by
    have ih := len_putF x v fs
    unfold putF
    split
    · exact Nat.le_succ _
    · exact Nat.succ_le_succ ih
/-- no tuple, no list -/
structure NoRow (o : HO) : Prop where
  t : ∀ xs, o ≠ .tup xs
  ft : ∀ x xs, o ≠ .frz x (.tup xs)
  l : ∀ xs, o ≠ .lst xs
  fl : ∀ x xs, o ≠ .frz x (.lst xs)
section
variable {K : PySem.W.Frag} {H H' : Hp} {rd : Addr} {u : HO}
theorem sqT_o {a : Addr} {xs : List V} (s : SameB (.ref rd) H H') (e : H rd = some u) (n : NoRow u) (h : SqT K H a xs) : SqT K H' a xs := by
  have ne : ∀ o, H a = some o → o ≠ u → V.ref rd ≠ .ref a := fun o h n z => by
    injection z with z
    rw [z, h] at e
    exact n (Option.some.inj e)
  rcases h with (h | ⟨o, h⟩) | h
  · exact .inl (.inl (s.keep _ _ (ne _ h (n.t _).symm) h fun ps z => nomatch z))
  · exact .inl (.inr ⟨o, s.keep _ _ (ne _ h (n.ft _ _).symm) h fun ps z => nomatch z⟩)
  · exact .inr h
theorem sqL_o {a : Addr} {xs : List V} (s : SameB (.ref rd) H H') (e : H rd = some u) (n : NoRow u) (h : SqL K H a xs) : SqL K H' a xs := by
  have ne : ∀ o, H a = some o → o ≠ u → V.ref rd ≠ .ref a := fun o h n z => by
    injection z with z
    rw [z, h] at e
    exact n (Option.some.inj e)
  rcases h with (h | ⟨o, h⟩) | h
  · exact .inl (.inl (s.keep _ _ (ne _ h (n.l _).symm) h fun ps z => nomatch z))
  · exact .inl (.inr ⟨o, s.keep _ _ (ne _ h (n.fl _ _).symm) h fun ps z => nomatch z⟩)
  · exact .inr h
mutual
theorem dp_o (s : SameB (.ref rd) H H') (e : H rd = some u) (n : NoRow u) : ∀ (d : PyData) (v : V), Dp K H v d → Dp K H' v d
  | .none, _, h => by cases h; exact .non
  | .bool b, _, h => by cases h; exact .bl b
  | .int i, _, h => by cases h; exact .int i
  | .str x, _, h => by cases h; exact .str x
  | .list ds, _, h => by
    cases h with
    | lst a b => exact .lst (sqL_o s e n a) (dps_o s e n ds _ b)
  | .tuple ds, _, h => by
    cases h with
    | tup a b => exact .tup (sqT_o s e n a) (dps_o s e n ds _ b)
  | .dict _, _, h => nomatch h
theorem dps_o (s : SameB (.ref rd) H H') (e : H rd = some u) (n : NoRow u) : ∀ (ds : List PyData) (vs : List V), DpAll K H vs ds → DpAll K H' vs ds
  | [], _, h => by cases h; exact .nil
  | d :: ds, _, h => by
    cases h with
    | cons a b => exact .cons (dp_o s e n d _ a) (dps_o s e n ds _ b)
end
end
/-- a list grows by one thing -/
theorem lc_push {K : PySem.W.Frag} {H3 H1 H2 : Hp} {D : Addr} {acc : List V} {ds : List PyData} {v : V} {d : PyData} (nD : H3 D = none) (s1 : Same H3 H1) (hD : H1 D = some (.lst acc)) (hA : DpAll K H1 acc ds) (hash : hashables (ds ++ [d]) = true) (s2 : Same H1 H2) (hv : Dp K H2 v d) :
    Same H3 (upd H2 D (.lst (acc ++ [v]))) ∧ (upd H2 D (.lst (acc ++ [v]))) D = some (.lst (acc ++ [v])) ∧ DpAll K (upd H2 D (.lst (acc ++ [v]))) (acc ++ [v]) (ds ++ [d]) :=
  ⟨(s1.trans s2).later nD, upd_same, dps_l (SameB.set (s2 _ _ hD) fun ps z => nomatch z) (s2 _ _ hD) _ _ hash (dps_app (dps_g (SameG.of s2) _ _ hA) (.cons hv .nil))⟩
def rLq (K : PySem.W.Frag) : List V → Hp → VK → Prop := fun xs H Q => ∃ p ys, xs = [.ref p] ∧ (SqL K H p ys ∨ SqT K H p ys) ∧ Q (.int ys.length) H
theorem pi_tupK {X : Cx} {K : PySem.W.Frag} {tg l : Expr} {tl : TE} (hK : X.K = K) (hl : PE X l tl) : PI X tg l (iTup K tl) := by
  subst hK
  exact pi_tup hl
theorem pa_starK {X : Cx} {K : PySem.W.Frag} {e : Expr} {p : Pos} {es : List Expr} {te : TE} {t : TA} (hK : X.K = K) (he : PE X e te) (ht : PA X es t) : PA X (.Starred e p :: es) (StX.tStar K te t) := by
  subst hK
  exact StX.pa_star he ht
/-- what the text asks of the class Nest -/
structure NTxt (K : PySem.W.Frag) (mg : Str → Option Value) (C fI : Addr) : Prop where
  cl : Cls K C
  n1 : NoAttr K C "sizes"
  n2 : NoAttr K C "given"
  n3 : NoAttr K C "kept"
  n4 : NoAttr K C "body"
  n5 : NoAttr K C "_rooms"
  n6 : NoAttr K C "_labels"
  n7 : NoAttr K C "_arrays"
  make : Mk K C fI
  mg : mg "Nest" = some (.ref C)
theorem facts_hash : ∀ fs : List Fact, (∀ f ∈ fs, manyOk f.2 = true) → hashables (fs.map factD) = true := by
  intro fs h
  rw [hashables_all, List.all_eq_true]
  intro d hd
  obtain ⟨f, hf, rfl⟩ := List.mem_map.mp hd
  rcases many_cases (h f hf) with ⟨i, e⟩ | ⟨i, j, e⟩ <;> simp [factD, e, hashable, hashables]
theorem labels_many {b : PyData} (h : ∀ d ∈ nodesOf b, RunP d) : ∀ f ∈ labelsF b, manyOk f.2 = true := by
  intro f hf
  obtain ⟨d, hd, rfl⟩ := List.mem_map.mp hf
  obtain ⟨k, l, st, rs, t, rfl, _, _⟩ := h d hd
  rfl
theorem rooms_many {ns : List Str} {kvs : List (Key × PyData)} (h : kvs.all (okRoom ns) = true) : ∀ f ∈ kvs.map roomF, manyOk f.2 = true := by
  intro f hf
  obtain ⟨kd, hkd, rfl⟩ := List.mem_map.mp hf
  have okm := List.all_eq_true.mp h kd hkd
  unfold okRoom at okm
  rw [Bool.and_eq_true, Bool.and_eq_true] at okm
  unfold roomF
  cases e : kd.1 with
  | inr x => rfl
  | inl z =>
    rw [e] at okm
    exact nomatch okm.1.1
theorem index_many {b : PyData} (h : ∀ d ∈ nodesOf b, RunP d) : ∀ f ∈ (nodesOf b).flatMap indexF, manyOk f.2 = true := by
  intro f hf
  obtain ⟨d, hd, hf⟩ := List.mem_flatMap.mp hf
  obtain ⟨k, l, st, rs, t, rfl, ht, hrs⟩ := h d hd
  have e : indexF (.tuple [.str k, .str l, .tuple st, t, .tuple rs]) = (t :: rs).map accF := rfl
  rw [e] at hf
  obtain ⟨x, hx, rfl⟩ := List.mem_map.mp hf
  have : AccP x := by
    rcases List.mem_cons.mp hx with rfl | hx
    · exact ht
    · exact hrs x hx
  obtain ⟨a, ats, rfl⟩ := this
  rfl
section
variable {P : Program} {w : World} {K : PySem.W.Frag} {mg : Str → Option Value} {base : Heap}
/-- a Nest at p of these parts -/
structure NestAt (K : PySem.W.Frag) (C : Addr) (H : Hp) (p : Addr) (vb : V) (r : RD) (b : PyData) : Prop where
  ob : ∃ (dx : Addr) (vz vg vk : V) (rd ld ad : Addr) (ys zs : List Str) (f : Str → V), H p = some (.ins C dx (nfields vz vg vk vb rd ld ad)) ∧ H ld = some (.lst (ys.map V.str)) ∧ ys.Perm (namesIn (labelsF b)) ∧ PyProof.Rows.sortedS ys = true ∧
    H ad = some (.dK (dS zs f)) ∧ zs.Perm (namesIn (arraysF r b)) ∧ PyProof.Rows.sortedS zs = true ∧ ∀ x ∈ zs, ∃ d, firstOf (arraysF r b) x = some d ∧ Dp K H (f x) d
  bd : Dp K H vb b
def spNInit (K : PySem.W.Frag) (CN C TN TA TH TT : Addr) : Sp := fun vs H Q E => ∃ (p dx : Addr) (vz vg vr vk vb : V) (z g k b : PyData) (r : RD), vs = [.ref p, vz, vg, vr, vk, vb] ∧ H p = some (.ins CN dx []) ∧ Dp K H vz z ∧ Dp K H vg g ∧ RoomIs K H vr r ∧ Dp K H vk k ∧ Dp K H vb b ∧
  small z = true ∧ small g = true ∧ smallR r = true ∧ small k = true ∧ small b = true ∧ GxR.TabG H TN ∧ GxR.TabG H TA ∧ GxR.TabG H TH ∧ GxR.TabG H TT ∧ nestFew z g r k b = true ∧
  (nestOk z g r k b = true → ∀ H', (∀ x o, x ≠ p → H x = some o → (∀ ps, o ≠ .tbl ps) → H' x = some o) → (∀ T, GxR.TabG H T → GxR.TabG H' T) → NestAt K CN H' p vb r b → Q .non H') ∧
  (nestOk z g r k b = false → ∀ H', SameR r vr H H' → E (.ref C) none H')
abbrev nNInit : List Str := ["self", "sizes", "given", "rooms", "kept", "body", "nodes", "labels", "indexes", "arrays", "node", "_", "array", "atoms", "pairs"]
theorem scNInit : FnScope nNInit ["self", "sizes", "given", "rooms", "kept", "body"] (defScope sNInit) := ⟨rfl, rfl, rfl, by decide +kernel, rfl, by decide +kernel, by decide +kernel⟩
/-- a statement as it lies -/
theorem run_dp {H : Hp} {v : V} {d : PyData} (h : Dp K H v d) (hr : RunP d) : ∃ (q ast ars : Addr) (k l : Str) (st rs : List PyData) (t : PyData) (x3 : V) (xst xrs : List V), d = .tuple [.str k, .str l, .tuple st, t, .tuple rs] ∧ v = .ref q ∧ SqT K H q [.str k, .str l, .ref ast, x3, .ref ars] ∧
    SqT K H ast xst ∧ xst.length = st.length ∧ SqT K H ars xrs ∧ DpAll K H xrs rs ∧ Dp K H x3 t ∧ AccP t ∧ ∀ x ∈ rs, AccP x := by
  obtain ⟨k, l, st, rs, t, rfl, ht, hrs⟩ := hr
  cases h with
  | @tup q xs _ hq hA =>
    obtain ⟨v0, xs, rfl, a0, hA⟩ := dps_cons hA
    obtain ⟨v1, xs, rfl, a1, hA⟩ := dps_cons hA
    obtain ⟨v2, xs, rfl, a2, hA⟩ := dps_cons hA
    obtain ⟨v3, xs, rfl, a3, hA⟩ := dps_cons hA
    obtain ⟨v4, xs, rfl, a4, hA⟩ := dps_cons hA
    obtain rfl := dps_nil hA
    cases a0
    cases a1
    cases a2 with
    | @tup ast xst _ h2 k2 =>
      cases a4 with
      | @tup ars xrs _ h4 k4 => exact ⟨q, ast, ars, k, l, st, rs, t, v3, xst, xrs, rfl, rfl, hq, h2, dps_len k2, h4, k4, a3, ht, hrs⟩
theorem strs_vals : ∀ {ns : List Str} {xz : List V} {H : Hp}, DpAll K H xz (ns.map PyData.str) → xz = ns.map V.str
  | [], _, _, h => by cases h; rfl
  | n :: ns, _, _, h => by
    cases h with
    | cons a b =>
      cases a
      rw [strs_vals b]
      rfl
theorem head_names {z g k : PyData} {r : RD} {vz : V} {H : Hp} (e : okHead z g r k = true) (hz : Dp K H vz z) : ∃ (pz : Addr) (ns : List Str), vz = .ref pz ∧ z = .tuple (ns.map PyData.str) ∧ SqT K H pz (ns.map V.str) ∧ ns.length ≤ 3 := by
  unfold okHead okSizes at e
  simp only [Bool.and_eq_true] at e
  obtain ⟨⟨⟨h1, h2⟩, _⟩, _⟩ := e
  obtain ⟨zs, rfl⟩ := tup_of_row h1
  obtain ⟨ns, rfl, _⟩ := names_strs (ds := zs) h2
  cases hz with
  | @tup pz xz _ hp hA =>
    refine ⟨pz, ns, rfl, rfl, strs_vals hA ▸ hp, ?_⟩
    have h' : (decide ((1 : Int) ≤ ((ns.map PyData.str).length : Nat)) && decide ((((ns.map PyData.str).length : Nat) : Int) ≤ 3)) = true := h1
    rw [Bool.and_eq_true, decide_eq_true_eq, decide_eq_true_eq, List.length_map] at h'
    omega
theorem ok_ninit {CN C f fI TN TA TH TT fH fB fR fU : Addr} {fd fdH fdB fdR fdU : FuncData} (L : Nat) (hL : 89 ≤ L) (F : Fun K "__init__" "Nest.__init__" sNInit f fd) (B : Blt mg) (hdict : mg "dict" = none) (hlist : mg "list" = none) (X : NTxt K mg CN fI)
    (GH : FnOk P w K mg base (L2.CX P w) 7 fH fdH ["sizes", "given", "rooms", "kept"] (spHead K C TN TA TH)) (kH : PySem.W.keepIn K (.ref fH) = true) (bH : Binds K fdH ["sizes", "given", "rooms", "kept"] []) (gH : mg "check_heading" = some (.ref fH))
    (GB : FnOk P w K mg base (L2.CX P w) L fB fdB ["body", "scope", "around"] (spBody K C TN TA TT 41)) (kB : PySem.W.keepIn K (.ref fB) = true) (bB : Binds K fdB ["body", "scope", "around"] []) (gB : mg "check_body" = some (.ref fB))
    (GR : FnOk P w K mg base CX0 42 fR fdR ["body", "path", "around"] (spRunsIn K 41)) (kR : PySem.W.keepIn K (.ref fR) = true) (bR : Binds K fdR ["body", "path", "around"] []) (gR : mg "_runs_in" = some (.ref fR))
    (GU : FnOk P w K mg base (L2.CX P w) 2 fU fdU ["facts"] (spNums K C)) (kU : PySem.W.keepIn K (.ref fU) = true) (bU : Binds K fdU ["facts"] []) (gU : mg "numbers_of" = some (.ref fU)) :
    FnOk P w K mg base (L2.CX P w) (L + 1) f fd ["self", "sizes", "given", "rooms", "kept", "body"] (spNInit K CN C TN TA TH TT) := by
  refine F.okX scNInit (fun vs H Q E h => ?_) (fun cdv A outer s H vs Q E hr h => ?_)
  · obtain ⟨p, dx, vz, vg, vr, vk, vb, z, g, k, b, r, rfl, _⟩ := h
    rfl
  · obtain ⟨p, dx, vz, vg, vr, vk, vb, z, g, k, b, r, rfl, hp, hz, hg, hrm, hk, hb, sz, sg, sr, sk, sb, tN, tA, tH, tT, few, good, bad⟩ := h
    have nd := scNInit.nd
    have r2 := hr.mono (show 2 ≤ L by omega)
    have r7 := hr.mono (show 7 ≤ L by omega)
    have r42 := hr.mono (show 42 ≤ L by omega)
    have hu := hu_of hr
    have body : PSs (cxOf (L2.CX P w) P w K mg base nNInit "Nest.__init__" (defScope sNInit) f cdv A outer s H E) (defBody sNInit) _ := pss_cons (ps_expr (pe_callS GH r7 (by rfl) gH kH bH (fun σ => passAt (takes_of rfl rfl rfl rfl) σ) (pa_cons (pv 1) (pa_cons (pv 2) (pa_cons (pv 3) (pa_cons (pv 4) pa_nil))))))
      (pss_cons (ps_expr (pe_callS GB hr (by rfl) gB kB bB (fun σ => passAt (takes_of rfl rfl rfl rfl) σ) (pa_cons (pv 5) (pa_cons (pv 1) (pa_cons pe_int pa_nil)))))
      (pss_cons (ps_setLc (i := 6) (own := [("node", 10), ("_", 11)]) (g := gTup K 3 (gCons (gName 10) (gCons (gName 11) (gCons (gName 11) gNil)))) (tt := tYes) rfl nd rfl rfl (sw_true rfl rfl rfl (by decide +kernel)) (pi_list (pe_call GR r42 (by rfl) gR kR bR .nil pass0 (pa_cons (pv 5) (pa_cons (pe_tup pa_nil) (pa_cons (pe_tup pa_nil) pa_nil))))) (blkOk_by (N := nNInit) (sc := defScope sNInit) (by decide +kernel))
          (fun _ _ _ _ _ => pg_tup rfl (pgs_cons (pg_name (i := 10) nd rfl (.inl rfl)) (pgs_cons (pg_name (i := 11) nd rfl (.inl rfl)) (pgs_cons (pg_name (i := 11) nd rfl (.inl rfl)) pgs_nil)))) (fun _ _ _ _ _ => pts_nil) (fun _ _ _ _ _ => pv 10))
      (pss_cons (ps_set (i := 7) nd rfl (.inl rfl) (pe_callS GU r2 (by rfl) gU kU bU (fun σ => passAt (takes_of rfl rfl rfl rfl) σ) (pa_cons (pe_lc (own := [("node", 10)]) (g := gName 10) (tt := tYes) rfl nd (pi_list (pv 6)) (blkOk_by (N := nNInit) (sc := defScope sNInit) (by decide +kernel))
          (fun _ _ _ _ _ => pg_name (i := 10) nd rfl (.inl rfl)) (fun _ _ _ _ _ => pts_nil) (fun _ _ _ _ _ => pe_tup (pa_cons (pe_ix (r := rIxT K) ix_tup (pv 10) pe_int (fun _ _ => rfl)) (pa_cons (pe_tup (pa_cons (pe_callB (r := rLq K) call_len_seq (by rfl) B.len PySem.boot_len (pa_cons (pe_ix (r := rIxT K) ix_tup (pv 10) pe_int (fun _ _ => rfl)) pa_nil)) (pa_cons (pe_callB (r := rLq K) call_len_seq (by rfl) B.len PySem.boot_len (pa_cons (pe_ix (r := rIxT K) ix_tup (pv 10) pe_int (fun _ _ => rfl)) pa_nil)) pa_nil))) pa_nil)))) pa_nil)))
      (pss_cons (ps_setLc2 (i := 8) (own := [("node", 10), ("array", 12), ("atoms", 13)]) (vs1 := [12, 13]) (g := gName 10) (g1 := gTup K 2 (gCons (gName 12) (gCons (gName 13) gNil))) (tt := tYes) (tt1 := tYes) rfl nd rfl rfl (sw_true rfl rfl rfl (by decide +kernel)) (pi_list (pv 6)) (blkOk_by (N := nNInit) (sc := defScope sNInit) (by decide +kernel)) (by decide)
          (fun _ _ _ _ _ => pg_name (i := 10) nd rfl (.inl rfl)) (fun _ _ _ _ _ => pts_nil)
          (fun _ _ _ _ _ => pi_tupK (K := K) rfl (pe_tup (pa_cons (pe_ix (r := rIxT K) ix_tup (pv 10) pe_int (fun _ _ => rfl)) (pa_starK (K := K) rfl (pe_ix (r := rIxT K) ix_tup (pv 10) pe_int (fun _ _ => rfl)) pa_nil))))
          (fun _ _ _ _ _ => pg_tup rfl (pgs_cons (pg_name (i := 12) nd rfl (.inl rfl)) (pgs_cons (pg_name (i := 13) nd rfl (.inl rfl)) pgs_nil))) (fun _ _ _ _ _ => pts_nil) (fun _ _ _ _ _ => pe_tup (pa_cons (pv 12) (pa_cons (pe_callB (r := rLq K) call_len_seq (by rfl) B.len PySem.boot_len (pa_cons (pv 13) pa_nil)) pa_nil))))
      (pss_cons (ps_set (i := 9) nd rfl (.inl rfl) (pe_callS GU r2 (by rfl) gU kU bU (fun σ => passAt (takes_of rfl rfl rfl rfl) σ) (pa_cons (pe_lst (StX.pa_star (pe_lock (pe_lc (own := [("array", 12), ("pairs", 14)]) (g := gTup K 2 (gCons (gName 12) (gCons (gName 14) gNil))) (tt := tYes) rfl nd (pi_items (pv 3)) (blkOk_by (N := nNInit) (sc := defScope sNInit) (by decide +kernel))
          (fun _ _ _ _ _ => pg_tup rfl (pgs_cons (pg_name (i := 12) nd rfl (.inl rfl)) (pgs_cons (pg_name (i := 14) nd rfl (.inl rfl)) pgs_nil))) (fun _ _ _ _ _ => pts_nil) (fun _ _ _ _ _ => pe_tup (pa_cons (pv 12) (pa_cons (pe_callB (r := rLq K) call_len_seq (by rfl) B.len PySem.boot_len (pa_cons (pv 14) pa_nil)) pa_nil))))) (StX.pa_star (pv 8) pa_nil))) pa_nil)))
      (pss_cons (ps_fld (pv 0) (pv 1) rfl)
      (pss_cons (ps_fld (pv 0) (pv 2) rfl)
      (pss_cons (ps_fld (pv 0) (pv 4) rfl)
      (pss_cons (ps_fld (pv 0) (pv 5) rfl)
      (pss_cons (ps_fld (pv 0) (pe_callTy call_dictD (by rfl) hdict PyProof.Rows.boot_dict (pa_cons (pv 3) pa_nil)) rfl)
      (pss_cons (ps_fld (pv 0) (pe_callTy (r := rListD) (call_list_dK rfl) (by rfl) hlist PyProof.Rows.boot_list (pa_cons (pv 7) pa_nil)) rfl)
      (pss_one (ps_fld (pv 0) (pv 9) rfl)))))))))))))
    refine ⟨_, body, ?_⟩
    have enest : nestOk z g r k b = (okHead z g r k && (okBody 41 (strsOf (items z)) b && (numsOk (labelsF b) && numsOk (arraysF r b)))) := rfl
    rw [enest] at good bad
    refine ⟨_, rfl, _, rfl, _, rfl, _, rfl, vz, vg, vr, vk, z, g, k, r, rfl, hz, hg, hrm, hk, sz, sg, sr, sk, tN, tA, tH, (fun _ _ _ _ => trivial), fun e1 H1 s1 => ?_, fun e1 H1 s1 => bad (by rw [e1]; rfl) H1 s1⟩
    rw [e1, Bool.true_and] at good bad
    obtain ⟨pz, ns, rfl, rfl, hpz, nlen⟩ := head_names e1 hz
    have en : strsOf (items (.tuple (ns.map PyData.str))) = ns := strsOf_map ns
    rw [en] at good bad
    refine ⟨_, rfl, _, rfl, vb, b, pz, ns, rfl, dp_g s1 _ _ hb, sb, sqT_g s1 hpz, by omega, s1.tab _ tN, s1.tab _ tA, s1.tab _ tT, by decide, fun e2 H2 s2 => ?_, fun e2 H2 s2 => bad (by rw [e2]; rfl) H2 (SameR.of (s1.trans s2))⟩
    rw [e2, Bool.true_and] at good bad
    have u2 := s1.trans s2
    have few' : hashable b = true ∧ (nodesOf b).length < 60 ∧ (arraysF r b).length < 60 := by
      unfold nestFew at few
      rw [e1, en, e2] at few
      simpa [Bool.and_eq_true, and_assoc] using few
    obtain ⟨bs, rfl⟩ : ∃ bs, b = .tuple bs := by
      cases b with
      | tuple bs => exact ⟨bs, rfl⟩
      | _ => exact nomatch e2
    obtain ⟨hash, fewN, fewA⟩ := few'
    have shp : shape 41 bs = true := ok_shape 41 ns (.tuple bs) e2
    have hashb : hashables bs = true := by rw [hashable] at hash; exact hash
    have areN := nodes_are e2
    -- nodes
    have eN : nodesOf (.tuple bs) = (runsIn 41 bs [] []).map nodeOf := rfl
    have lenR : (runsIn 41 bs [] []).length < 60 := by
      rw [eN, List.length_map] at fewN
      exact fewN
    have hashR : hashables (runsIn 41 bs [] []) = true := runs_hash 41 bs [] [] hashb rfl rfl
    have hashN : hashables (nodesOf (.tuple bs)) = true := by
      rw [hashables_all, List.all_eq_true] at hashR ⊢
      intro d hd
      rw [eN] at hd
      obtain ⟨t, ht, rfl⟩ := List.mem_map.mp hd
      have := hashR t ht
      obtain ⟨nd', p', a', rfl, _⟩ := runs_are 41 ns (.tuple bs) [] [] e2 t ht
      simp only [tripD, hashable, hashables, Bool.and_eq_true] at this
      exact this.1
    have big : (200 : Nat) ≤ sizeLine := by decide
    refine ⟨_, rfl, Nat.zero_le _, fun t1 nt1 => ⟨Nat.zero_le _, fun t2 nt2 => ?_⟩⟩
    have s3 := same_upd (o := HO.tup []) nt1
    have ht1 := upd_same (H := H2) (a := t1) (o := HO.tup [])
    generalize upd H2 t1 (.tup []) = H2a at s3 ht1 nt2 ⊢
    have s4 := same_upd (o := HO.tup []) nt2
    have ht2 := upd_same (H := H2a) (a := t2) (o := HO.tup [])
    have ht1' := s4 _ _ ht1
    generalize upd H2a t2 (.tup []) = H2b at s4 ht2 ht1' ⊢
    have u3 := u2.trans (SameG.of (s3.trans s4))
    refine ⟨vb, .ref t1, .ref t2, bs, [], [], rfl, dp_g u3 _ _ hb, .tup (SqT.of ht1') .nil, .tup (SqT.of ht2) .nil, shp, by decide, hashb, rfl, rfl, by decide, by decide, by omega, fun H3 l xs s5 nl hl dz => ?_⟩
    have u4 := u3.trans (SameG.of s5)
    have lxs := dps_len dz
    refine ⟨l, rfl, ⟨_, SqL.of hl⟩, fun D nD => ?_⟩
    refine lc_list (K := K) (a := l) (xs := xs) (fun j H' => Same H3 H' ∧ ∃ acc, H' D = some (.lst acc) ∧ DpAll K H' acc (((runsIn 41 bs [] []).take j).map nodeOf)) ⟨same_upd nD, [], upd_same, .nil⟩ (fun j H' _ h => SqL.of (h.1 _ _ hl)) ?_ ?_
    · rintro j v H4 hj ⟨s6, acc, hD, hacc⟩
      obtain ⟨t, et, dt⟩ := dps_at (dps_g (SameG.of s6) _ _ dz) hj
      have hm := List.mem_of_getElem? et
      obtain ⟨nd', p', a', rfl, _⟩ := runs_are 41 ns (.tuple bs) [] [] e2 t hm
      obtain ⟨q, v1, v2, v3, rfl, hq, d1, _, _⟩ := dp_three dt
      have etake : (runsIn 41 bs [] []).take (j + 1) = (runsIn 41 bs [] []).take j ++ [tripD nd' p' a'] := by rw [List.take_add_one, et]; rfl
      have lacc := dps_len hacc
      rw [List.length_map, List.length_take] at lacc
      have hh : hashables (((runsIn 41 bs [] []).take j).map nodeOf ++ [nd']) = true := by
        rw [hashables_all, List.all_eq_true] at hashN ⊢
        intro d hd
        refine hashN d ?_
        rw [eN]
        have e3 : ((runsIn 41 bs [] []).take j).map nodeOf ++ [nd'] = ((runsIn 41 bs [] []).take (j + 1)).map nodeOf := by
          rw [etake, List.map_append]
          rfl
        rw [e3] at hd
        obtain ⟨t', ht', rfl⟩ := List.mem_map.mp hd
        exact List.mem_map.mpr ⟨t', List.mem_of_mem_take ht', rfl⟩
      refine ⟨q, _, rfl, hq, rfl, _, _, rfl, _, _, rfl, _, _, rfl, rfl, ?_⟩
      unfold tYes
      refine ⟨rfl, iteT ⟨_, rfl, acc, hD, by omega, ?_⟩⟩
      obtain ⟨k1, k2, k3⟩ := lc_push nD s6 hD hacc hh (Same.refl H4) d1
      refine ⟨k1, _, k2, ?_⟩
      rw [etake, List.map_append]
      exact k3
    rintro H4 ⟨s6, nds, hD, hnds⟩
    rw [lxs, List.take_length, ← eN] at hnds
    have u5 := u4.trans (SameG.of s6)
    have lnds := dps_len hnds
    -- labels
    have eL : labelsF (.tuple bs) = (nodesOf (.tuple bs)).map labelF := rfl
    have llab : (labelsF (.tuple bs)).length = (nodesOf (.tuple bs)).length := by rw [eL, List.length_map]
    refine ⟨_, rfl, D, rfl, ⟨_, SqL.of hD⟩, fun D2 nD2 => ?_⟩
    refine lc_list (K := K) (a := D) (xs := nds) (fun j H' => Same H4 H' ∧ ∃ acc, H' D2 = some (.lst acc) ∧ DpAll K H' acc (((labelsF (.tuple bs)).take j).map factD)) ⟨same_upd nD2, [], upd_same, .nil⟩ (fun j H' _ h => SqL.of (h.1 _ _ hD)) ?_ ?_
    · rintro j v H5 hj ⟨s7, acc, hD2, hacc⟩
      obtain ⟨d, ed, dd⟩ := dps_at (dps_g (SameG.of s7) _ _ hnds) hj
      have hm := List.mem_of_getElem? ed
      obtain ⟨q, ast, ars, k', l', st, rs, tg, x3, xst, xrs, rfl, rfl, hq, hst, lst, hrs, hAr, _, _, _⟩ := run_dp dd (areN d hm)
      have lrs := dps_len hAr
      have elb : labelF (.tuple [.str k', .str l', .tuple st, tg, .tuple rs]) = (l', .tuple [.int (st.length : Nat), .int (rs.length : Nat)]) := rfl
      have etake : (labelsF (.tuple bs)).take (j + 1) = (labelsF (.tuple bs)).take j ++ [(l', .tuple [.int (st.length : Nat), .int (rs.length : Nat)])] := by
        rw [List.take_add_one, eL, List.getElem?_map, ed, ← elb]
        rfl
      have lacc := dps_len hacc
      rw [List.length_map, List.length_take] at lacc
      have hh : ∀ fs : List Fact, (∀ f ∈ fs, manyOk f.2 = true) → hashables (fs.map factD) = true := facts_hash
      unfold tYes
      refine ⟨rfl, iteT ⟨_, rfl, q, _, _, _, rfl, rfl, hq, atI_nat (j := 1) rfl, _, rfl, q, _, _, _, rfl, rfl, hq, atI_nat (j := 2) rfl, ast, xst, rfl, .inr hst, _, rfl, q, _, _, _, rfl, rfl, hq, atI_nat (j := 4) rfl, ars, xrs, rfl, .inr hrs, by show 2 ≤ sizeLine; decide, fun ta na => ⟨by show 2 ≤ sizeLine; decide, fun tb nb => ?_⟩⟩⟩
      have s8 := same_upd (o := HO.tup [V.int (xst.length : Nat), V.int (xrs.length : Nat)]) na
      have s9 := same_upd (o := HO.tup [V.str l', V.ref ta]) nb
      have dnew : Dp K (upd (upd H5 ta (.tup [V.int (xst.length : Nat), V.int (xrs.length : Nat)])) tb (.tup [V.str l', V.ref ta])) (.ref tb) (factD (l', .tuple [.int (st.length : Nat), .int (rs.length : Nat)])) := by
        refine .tup (SqT.of upd_same) (.cons (.str _) (.cons (.tup (SqT.of (s9 _ _ upd_same)) ?_) .nil))
        rw [← lst, ← lrs]
        exact .cons (.int _) (.cons (.int _) .nil)
      obtain ⟨k1, k2, k3⟩ := lc_push nD2 s7 hD2 hacc (by
        have e3 : ((labelsF (.tuple bs)).take j).map factD ++ [factD (l', .tuple [.int (st.length : Nat), .int (rs.length : Nat)])] = ((labelsF (.tuple bs)).take (j + 1)).map factD := by rw [etake, List.map_append]; rfl
        rw [e3]
        exact facts_hash _ fun f hf => labels_many areN f (List.mem_of_mem_take hf)) (s8.trans s9) dnew
      refine ⟨acc, (s8.trans s9) _ _ hD2, by omega, k1, _, k2, ?_⟩
      rw [etake, List.map_append]
      exact k3
    rintro H5 ⟨s7, lfs, hD2, hlfs⟩
    rw [lnds, show (labelsF (.tuple bs)).take (nodesOf (.tuple bs)).length = labelsF (.tuple bs) by rw [eL, List.take_of_length_le (by rw [List.length_map]; exact Nat.le_refl _)]] at hlfs
    have u6 := u5.trans (SameG.of s7)
    refine ⟨D2, lfs, labelsF (.tuple bs), rfl, SqL.of hD2, hlfs, by rw [eL, List.length_map]; exact fewN, labels_many areN, ?_, fun e3 H6 s8 => bad (by rw [e3]; rfl) H6 (SameR.of (u6.trans s8))⟩
    intro e3 H6 ld ys fl s8 nld hld perm srt _
    rw [e3, Bool.true_and] at good bad
    have u7 := u6.trans (SameG.of s8)
    have hD6 := s8 _ _ (s7 _ _ hD)
    have hnds6 := dps_g (SameG.of (s7.trans s8)) _ _ hnds
    -- indexes
    have eA : arraysF r (.tuple bs) = (roomsOf r).map roomF ++ (nodesOf (.tuple bs)).flatMap indexF := rfl
    have lenI : ((nodesOf (.tuple bs)).flatMap indexF).length < 60 := by
      rw [eA, List.length_append] at fewA
      omega
    refine ⟨_, rfl, D, rfl, ⟨_, SqL.of hD6⟩, fun D3 nD3 => ?_⟩
    refine lc2_list (K := K) (a := D) (xs := nds) (fun j H' => Same H6 H' ∧ ∃ acc, H' D3 = some (.lst acc) ∧ DpAll K H' acc ((((nodesOf (.tuple bs)).take j).flatMap indexF).map factD)) ⟨same_upd nD3, [], upd_same, .nil⟩ (fun j H' _ h => SqL.of (h.1 _ _ hD6)) ?_ ?_
    · rintro j v H7 hj ⟨s9, acc0, hD3, hacc0⟩
      obtain ⟨d, ed, dd⟩ := dps_at (dps_g (SameG.of s9) _ _ hnds6) hj
      have hm := List.mem_of_getElem? ed
      obtain ⟨q, ast, ars, k', l', st, rs, tg, x3, xst, xrs, rfl, rfl, hq, hst, lst, hrs, hAr, dt3, ac3, acr⟩ := run_dp dd (areN d hm)
      have lrs := dps_len hAr
      have eidx : indexF (.tuple [.str k', .str l', .tuple st, tg, .tuple rs]) = (tg :: rs).map accF := rfl
      have etake : ((nodesOf (.tuple bs)).take (j + 1)).flatMap indexF = ((nodesOf (.tuple bs)).take j).flatMap indexF ++ (tg :: rs).map accF := by
        rw [List.take_add_one, ed, List.flatMap_append, ← eidx]
        simp
      have lpart := part_len indexF (nodesOf (.tuple bs)) (j + 1)
      rw [etake, List.length_append, List.length_map] at lpart
      have accs : ∀ x ∈ tg :: rs, AccP x := fun x hx => by
        rcases List.mem_cons.mp hx with rfl | hx
        · exact ac3
        · exact acr x hx
      have lrs1 : (tg :: rs).length = rs.length + 1 := rfl
      unfold tYes
      refine ⟨rfl, iteT ⟨_, rfl, q, _, _, _, rfl, rfl, hq, atI_nat (j := 3) rfl, _, rfl, q, _, _, _, rfl, rfl, hq, atI_nat (j := 4) rfl, ars, xrs, rfl, .inl hrs, by rw [List.append_nil, List.length_cons, lrs]; omega, fun tq ntq => ?_⟩⟩
      have s10 := same_upd (o := HO.tup (x3 :: (xrs ++ []))) ntq
      have htq := upd_same (H := H7) (a := tq) (o := HO.tup (x3 :: (xrs ++ [])))
      have hAt : DpAll K (upd H7 tq (.tup (x3 :: (xrs ++ [])))) (x3 :: (xrs ++ [])) (tg :: rs) := by
        rw [List.append_nil]
        rw [List.append_nil] at s10
        exact .cons (dp_g (SameG.of s10) _ _ dt3) (dps_g (SameG.of s10) _ _ hAr)
      have lxt := dps_len hAt
      have hD3a := s10 _ _ hD3
      have hacc0a := dps_g (SameG.of s10) _ _ hacc0
      generalize upd H7 tq (.tup (x3 :: (xrs ++ []))) = H8 at s10 htq hAt hD3a hacc0a ⊢
      refine ⟨tq, rfl, ⟨_, SqT.of htq⟩, ?_⟩
      refine lci_tup (K := K) (tt := tYes) (g := gTup K 2 (gCons (gName 12) (gCons (gName 13) gNil))) (te := tTup (tCons (tVar 12) (tCons (tCB (rLq K) (tCons (tVar 13) tNil)) tNil))) (D := D3) (vs := [12, 13]) (a := tq) (xs := x3 :: (xrs ++ [])) (fun i H' => (Same H6 H' ∧ ∀ b o, b ≠ D3 → H8 b = some o → H' b = some o) ∧ ∃ acc, H' D3 = some (.lst acc) ∧ DpAll K H' acc ((((nodesOf (.tuple bs)).take j).flatMap indexF ++ ((tg :: rs).map accF).take i).map factD))
        ⟨⟨s9.trans s10, fun b o _ e => e⟩, acc0, hD3a, by rw [List.take_zero, List.append_nil]; exact hacc0a⟩ (fun i H' _ h => SqT.of (h.1.2 _ _ ?_ htq)) ?_ ?_
      · intro z
        rw [z, hD3a] at htq
        exact nomatch htq
      · rintro i x H9 hx ⟨⟨s11, s12⟩, acc, hD3b, hacc⟩
        obtain ⟨y, ey, dy⟩ := dps_at hAt hx
        have hmy := List.mem_of_getElem? ey
        have hyh : hashable y = true := by
          have h1 : hashable (.tuple [.str k', .str l', .tuple st, tg, .tuple rs]) = true := by
            rw [hashables_all, List.all_eq_true] at hashN
            exact hashN _ hm
          simp only [hashable, hashables, Bool.and_eq_true, hashables_all, List.all_eq_true] at h1
          rcases List.mem_cons.mp hmy with rfl | hy
          · exact h1.2.2.2.1
          · exact h1.2.2.2.2.1 y hy
        obtain ⟨a, ats, rfl⟩ := accs y hmy
        have s12' : SameB (.ref D3) H8 H9 := ⟨fun b o n e _ => s12 b o (fun z => n (by rw [z])) e, fun T ⟨ps, e, r⟩ => ⟨ps, s12 _ _ (fun z => by rw [z, hD3a] at e; exact nomatch e) e, r⟩⟩
        have dy9 := dp_l s12' hD3a _ _ hyh dy
        obtain ⟨pa, va, vat, rfl, hpa, da, dat⟩ := dp_pair dy9
        cases da
        cases dat with
        | @tup pat xat _ hpat hAat =>
        have lat := dps_len hAat
        have eacc : accF (.tuple [.str a, .tuple ats]) = (a, .int (ats.length : Nat)) := rfl
        have etk : ((tg :: rs).map accF).take (i + 1) = ((tg :: rs).map accF).take i ++ [(a, .int (ats.length : Nat))] := by
          rw [List.take_add_one, List.getElem?_map, ey, ← eacc]
          rfl
        have lacc := dps_len hacc
        rw [List.length_map, List.length_append, List.length_take, List.length_map] at lacc
        refine ⟨pa, _, rfl, hpa, rfl, _, _, rfl, _, _, rfl, rfl, rfl, ?_⟩
        unfold tYes
        refine iteT ⟨_, rfl, _, rfl, pat, xat, rfl, .inr hpat, by show 2 ≤ sizeLine; decide, fun tb nb => ?_⟩
        have s13 := same_upd (o := HO.tup [V.str a, V.int (xat.length : Nat)]) nb
        have dnew : Dp K (upd H9 tb (.tup [V.str a, V.int (xat.length : Nat)])) (.ref tb) (factD (a, .int (ats.length : Nat))) := by
          refine .tup (SqT.of upd_same) ?_
          rw [← lat]
          exact .cons (.str _) (.cons (.int _) .nil)
        have e3 : (((nodesOf (.tuple bs)).take j).flatMap indexF ++ ((tg :: rs).map accF).take i).map factD ++ [factD (a, .int (ats.length : Nat))] = (((nodesOf (.tuple bs)).take j).flatMap indexF ++ ((tg :: rs).map accF).take (i + 1)).map factD := by
          rw [etk, ← List.append_assoc, List.map_append (l₂ := [_])]
          rfl
        obtain ⟨k1, k2, k3⟩ := lc_push nD3 s11 hD3b hacc (by
          rw [e3]
          exact facts_hash _ fun f hf => index_many areN f (by
            rcases List.mem_append.mp hf with hf | hf
            · exact part_mem hf
            · refine List.mem_flatMap.mpr ⟨_, hm, ?_⟩
              rw [eidx]
              exact List.mem_of_mem_take hf)) s13 dnew
        refine ⟨acc, s13 _ _ hD3b, by omega, ⟨k1, fun b o n e => ?_⟩, _, k2, ?_⟩
        · rw [upd_ne n]
          exact s13 _ _ (s12 b o n e)
        · rw [← e3]
          exact k3
      · rintro H9 ⟨⟨s11, _⟩, acc, hD3b, hacc⟩
        refine ⟨s11, acc, hD3b, ?_⟩
        have el : ((tg :: rs).map accF).take (x3 :: (xrs ++ [])).length = (tg :: rs).map accF := List.take_of_length_le (by rw [List.length_map, lxt]; exact Nat.le_refl _)
        rw [el, ← etake] at hacc
        exact hacc
    rintro H7 ⟨s9, ifs, hD3, hifs⟩
    rw [lnds, List.take_length] at hifs
    have u8 := u7.trans (SameG.of s9)
    have hld7 := s9 _ _ hld
    -- arrays
    obtain ⟨rd, ws, kvs, rfl, rfl, hrd, hks, hvs⟩ : ∃ (rd : Addr) (ws : List (Key × V)) (kvs : List (Key × PyData)), vr = .ref rd ∧ r = .dict kvs ∧ H rd = some (.dK ws) ∧ ws.map Prod.fst = kvs.map Prod.fst ∧ DpAll K H (ws.map Prod.snd) (kvs.map Prod.snd) := by
      cases r with
      | data d => exact absurd e1 (by simp [okHead, okRooms])
      | dict kvs =>
        obtain ⟨rd, ws, e, a1, a2, a3⟩ := hrm
        exact ⟨rd, ws, kvs, e, rfl, a1, a2, a3⟩
    have okr : kvs.all (okRoom ns) = true := by
      unfold okHead at e1
      rw [en] at e1
      simp only [Bool.and_eq_true] at e1
      exact e1.2.2.1
    have hwl : ws.length = kvs.length := by
      have := congrArg List.length hks
      rwa [List.length_map, List.length_map] at this
    have hrd7 := u8.keep _ _ hrd fun ps z => nomatch z
    have hvs7 := dps_g u8 _ _ hvs
    have lenK : kvs.length < 60 := by
      have : arraysF (.dict kvs) (.tuple bs) = kvs.map roomF ++ (nodesOf (.tuple bs)).flatMap indexF := rfl
      rw [this, List.length_append, List.length_map] at fewA
      omega
    have lifs := dps_len hifs
    rw [List.length_map] at lifs
    refine ⟨rd, _, hrd7, trivial, fun od => ?_⟩
    have hL := upd_same (H := H7) (a := rd) (o := HO.frz od (.dK ws))
    have sl : SameB (.ref rd) H7 (upd H7 rd (.frz od (.dK ws))) := SameB.lock hrd7 fun ps z => nomatch z
    refine ⟨_, rfl, rd, od, ws, rfl, upd_same, fun D4 nD4 => ?_⟩
    refine lc_it walk_items (fun i H' => Same (upd H7 rd (.frz od (.dK ws))) H' ∧ ∃ acc, H' D4 = some (.lst acc) ∧ DpAll K H' acc (((kvs.take i).map roomF).map factD)) ⟨same_upd nD4, [], upd_same, .nil⟩ (fun i H' _ h => h.1 _ _ upd_same) ?_ ?_
    · rintro i x H8 H9 hi ⟨s10, acc, hD4, hacc⟩ ⟨tp, x1, x2, rfl, ntp, rfl, ea, eb⟩
      dsimp only at ea eb
      have hi' : i < kvs.length := hwl ▸ hi
      rw [List.getElem?_eq_getElem hi] at ea eb
      have ex1 : kV (ws[i]).1 = x1 := Option.some.inj ea
      obtain rfl := Option.some.inj eb
      have ekey : (ws[i]).1 = (kvs[i]).1 := by
        have := congrArg (fun l => l[i]?) hks
        simp only [List.getElem?_map, List.getElem?_eq_getElem hi, List.getElem?_eq_getElem hi', Option.map_some] at this
        exact Option.some.inj this
      have dval : Dp K H7 (ws[i]).2 (kvs[i]).2 := by
        obtain ⟨d, ed, dd⟩ := dps_at hvs7 (i := i) (v := (ws[i]).2) (by rw [List.getElem?_map, List.getElem?_eq_getElem hi]; rfl)
        rw [List.getElem?_map, List.getElem?_eq_getElem hi'] at ed
        exact Option.some.inj ed ▸ dd
      have okm : okRoom ns kvs[i] = true := List.all_eq_true.mp okr _ (List.getElem_mem hi')
      unfold okRoom at okm
      rw [Bool.and_eq_true, Bool.and_eq_true] at okm
      obtain ⟨ps, eps⟩ := tup_of_row okm.1.2
      obtain ⟨kx, ekx⟩ : ∃ kx, (kvs[i]).1 = Sum.inr kx := by
        cases ek : (kvs[i]).1 with
        | inr kx => exact ⟨kx, rfl⟩
        | inl z =>
          rw [ek] at okm
          exact nomatch okm.1.1
      rw [ekey, ekx] at ex1
      have ex2 : V.str kx = x1 := ex1
      subst ex2
      have s11 := same_upd (o := HO.tup [V.str kx, (ws[i]).2]) ntp
      have dval9 := dp_x (sl.trans (SameB.of (SameG.of (s10.trans s11)))) hrd7 _ _ dval
      have hD4' := s11 _ _ hD4
      have efact : roomF kvs[i] = (kx, .int (ps.length : Nat)) := by
        unfold roomF
        rw [ekx, eps]
        rfl
      have etake : (kvs.take (i + 1)).map roomF = (kvs.take i).map roomF ++ [(kx, .int (ps.length : Nat))] := by
        rw [List.take_add_one, List.getElem?_eq_getElem hi', List.map_append, ← efact]
        rfl
      have hacc' := dps_g (SameG.of s11) _ _ hacc
      have lacc := dps_len hacc
      rw [List.length_map, List.length_map, List.length_take] at lacc
      refine ⟨tp, _, rfl, SqT.of upd_same, rfl, _, _, rfl, _, _, rfl, rfl, rfl, ?_⟩
      generalize upd H8 tp (.tup [V.str kx, (ws[i]).2]) = H10 at s11 dval9 hD4' hacc' ⊢
      generalize (ws[i]).2 = wv at dval9 ⊢
      rw [eps] at dval9
      cases dval9 with
      | @tup pp xp _ hpp hAp =>
      have lap := dps_len hAp
      unfold tYes
      refine iteT ⟨_, rfl, _, rfl, pp, xp, rfl, .inr hpp, by show 2 ≤ sizeLine; decide, fun tb nb => ?_⟩
      have s13 := same_upd (o := HO.tup [V.str kx, V.int (xp.length : Nat)]) nb
      have dnew : Dp K (upd H10 tb (.tup [V.str kx, V.int (xp.length : Nat)])) (.ref tb) (factD (kx, .int (ps.length : Nat))) := by
        refine .tup (SqT.of upd_same) ?_
        rw [← lap]
        exact .cons (.str _) (.cons (.int _) .nil)
      have e3 : ((kvs.take i).map roomF).map factD ++ [factD (kx, .int (ps.length : Nat))] = ((kvs.take (i + 1)).map roomF).map factD := by
        rw [etake, List.map_append]
        rfl
      obtain ⟨k1, k2, k3⟩ := lc_push nD4 (s10.trans s11) hD4' hacc' (by
        rw [e3]
        exact facts_hash _ fun f hf => rooms_many okr f (by
          obtain ⟨kd, hkd, rfl⟩ := List.mem_map.mp hf
          exact List.mem_map.mpr ⟨kd, List.mem_of_mem_take hkd, rfl⟩)) s13 dnew
      refine ⟨acc, s13 _ _ hD4', by omega, k1, _, k2, ?_⟩
      rw [← e3]
      exact k3
    rintro H8 ⟨s10, rfs, hD4, hrfs⟩
    rw [hwl, List.take_length] at hrfs
    have hrd8 := s10 _ _ hL
    refine ⟨hrd8, ?_⟩
    have s11 : SameG H7 (upd H8 rd (.dK ws)) := (sl.trans (SameB.of (SameG.of s10))).back hrd7 hrd8
    have noR : NoRow (.frz od (.dK ws)) := ⟨(fun _ z => nomatch z), (fun _ _ z => nomatch z), (fun _ z => nomatch z), (fun _ _ z => nomatch z)⟩
    have hrfs' := dps_o (SameB.set (o' := .dK ws) hrd8 fun ps z => nomatch z) hrd8 noR _ _ hrfs
    have hD4' : upd H8 rd (.dK ws) D4 = some (.lst rfs) := by
      rw [upd_ne (fun z => by rw [z, hrd8] at hD4; exact nomatch hD4)]
      exact hD4
    have hrd9 := upd_same (H := H8) (a := rd) (o := HO.dK ws)
    generalize upd H8 rd (.dK ws) = H9 at s11 hrfs' hD4' hrd9 ⊢
    have u9 := u8.trans s11
    have hD39 := s11.keep _ _ hD3 fun ps z => nomatch z
    have hifs9 := dps_g s11 _ _ hifs
    have lrfs := dps_len hrfs'
    rw [List.length_map, List.length_map] at lrfs
    refine ⟨D4, rfs, rfl, .inr (SqL.of hD4'), _, rfl, D3, ifs, rfl, .inr (SqL.of hD39), ?_, fun D5 nD5 => ?_⟩
    · rw [List.append_nil, List.length_append]
      omega
    have s12 := same_upd (o := HO.lst (rfs ++ (ifs ++ []))) nD5
    have eA2 : arraysF (.dict kvs) (.tuple bs) = kvs.map roomF ++ (nodesOf (.tuple bs)).flatMap indexF := rfl
    have hfin : DpAll K (upd H9 D5 (.lst (rfs ++ (ifs ++ [])))) (rfs ++ (ifs ++ [])) ((arraysF (.dict kvs) (.tuple bs)).map factD) := by
      rw [eA2, List.map_append]
      refine dps_app (dps_g (SameG.of s12) _ _ hrfs') ?_
      have := dps_g (SameG.of s12) _ _ hifs9
      rw [List.append_nil] at this ⊢
      exact this
    have u10 := u9.trans (SameG.of s12)
    refine ⟨D5, _, arraysF (.dict kvs) (.tuple bs), rfl, SqL.of upd_same, hfin, fewA, ?_, ?_, fun e4 H10 s13 => bad e4 H10 (SameR.of (u10.trans s13))⟩
    · intro f hf
      rw [eA2] at hf
      rcases List.mem_append.mp hf with hf | hf
      · exact rooms_many okr f hf
      · exact index_many areN f hf
    intro e4 H10 ad zs fa s13 nad had permA srtA hfa
    rw [e4] at good
    have u11 := u10.trans (SameG.of s13)
    have hp0 := u11.keep _ _ hp fun ps z => nomatch z
    have hld10 := s13 _ _ (s12 _ _ (s11.keep _ _ hld7 fun ps z => nomatch z))
    have hrd10 := s13 _ _ (s12 _ _ hrd9)
    have noP : ∀ fs, NoRow (.ins CN dx fs) := fun fs => ⟨(fun _ z => nomatch z), (fun _ _ z => nomatch z), (fun _ z => nomatch z), (fun _ _ z => nomatch z)⟩
    have notb : ∀ fs ps, HO.ins CN dx fs ≠ .tbl ps := fun fs ps z => nomatch z
    have q1 : (putF "sizes" (V.ref pz) []).length ≤ 1 := len_putF "sizes" (V.ref pz) []
    have q2 := len_putF "given" vg (putF "sizes" (V.ref pz) [])
    have q3 := len_putF "kept" vk (putF "given" vg (putF "sizes" (V.ref pz) []))
    have q4 := len_putF "body" vb (putF "kept" vk (putF "given" vg (putF "sizes" (V.ref pz) [])))
    -- the fields, one after the other
    refine ⟨_, rfl, _, rfl, p, CN, dx, [], rfl, hp0, X.cl, X.n1, by decide, ?_⟩
    have k1 := SameB.set (o' := .ins CN dx (putF "sizes" (.ref pz) [])) hp0 (notb _)
    have hp1 := upd_same (H := H10) (a := p) (o := HO.ins CN dx (putF "sizes" (.ref pz) []))
    generalize upd H10 p (.ins CN dx (putF "sizes" (.ref pz) [])) = H11 at k1 hp1 ⊢
    refine ⟨_, rfl, _, rfl, p, CN, dx, _, rfl, hp1, X.cl, X.n2, by omega, ?_⟩
    have k2 := SameB.set (o' := .ins CN dx (putF "given" vg (putF "sizes" (.ref pz) []))) hp1 (notb _)
    have hp2 := upd_same (H := H11) (a := p) (o := HO.ins CN dx (putF "given" vg (putF "sizes" (.ref pz) [])))
    generalize upd H11 p (.ins CN dx (putF "given" vg (putF "sizes" (.ref pz) []))) = H12 at k2 hp2 ⊢
    refine ⟨_, rfl, _, rfl, p, CN, dx, _, rfl, hp2, X.cl, X.n3, by omega, ?_⟩
    have k3 := SameB.set (o' := .ins CN dx (putF "kept" vk (putF "given" vg (putF "sizes" (.ref pz) [])))) hp2 (notb _)
    have hp3 := upd_same (H := H12) (a := p) (o := HO.ins CN dx (putF "kept" vk (putF "given" vg (putF "sizes" (.ref pz) []))))
    generalize upd H12 p (.ins CN dx (putF "kept" vk (putF "given" vg (putF "sizes" (.ref pz) [])))) = H13 at k3 hp3 ⊢
    refine ⟨_, rfl, _, rfl, p, CN, dx, _, rfl, hp3, X.cl, X.n4, by omega, ?_⟩
    generalize hf4 : putF "body" vb (putF "kept" vk (putF "given" vg (putF "sizes" (.ref pz) []))) = f4
    have k4 := SameB.set (o' := .ins CN dx f4) hp3 (notb _)
    have hp4 := upd_same (H := H13) (a := p) (o := HO.ins CN dx f4)
    have l4 : f4.length ≤ 4 := by
      rw [← hf4]
      omega
    generalize upd H13 p (.ins CN dx f4) = H14 at k4 hp4 ⊢
    have w4 := ((k1.trans k2).trans k3).trans k4
    have prd : V.ref p ≠ .ref rd := fun z => by
      injection z with z
      rw [← z, hp] at hrd
      exact nomatch hrd
    have hrd14 := w4.keep _ _ prd hrd10 fun ps z => nomatch z
    refine ⟨_, rfl, rd, _, rfl, Rd.of hrd14, fun rd2 nrd2 => ⟨_, rfl, p, CN, dx, _, rfl, same_upd nrd2 _ _ hp4, X.cl, X.n5, by omega, ?_⟩⟩
    have k5 := SameB.set (o' := .ins CN dx (putF "_rooms" (.ref rd2) f4)) (same_upd (o := HO.dK ws) nrd2 _ _ hp4) (notb _)
    have w5 := (w4.trans (SameB.of (SameG.of (same_upd (o := HO.dK ws) nrd2)))).trans k5
    have hp5 := upd_same (H := upd H14 rd2 (.dK ws)) (a := p) (o := HO.ins CN dx (putF "_rooms" (.ref rd2) f4))
    generalize upd (upd H14 rd2 (.dK ws)) p (.ins CN dx (putF "_rooms" (.ref rd2) f4)) = H15 at w5 hp5 ⊢
    have pld : V.ref p ≠ .ref ld := fun z => by
      injection z with z
      rw [← z, hp0] at hld10
      exact nomatch hld10
    have hld15 := w5.keep _ _ pld hld10 fun ps z => nomatch z
    refine ⟨_, rfl, ld, _, rfl, hld15, fun ld2 nld2 => ⟨_, rfl, p, CN, dx, _, rfl, same_upd nld2 _ _ hp5, X.cl, X.n6, by have := len_putF "_rooms" (.ref rd2) f4; omega, ?_⟩⟩
    rw [dS_keys]
    have hl2 := upd_same (H := H15) (a := ld2) (o := HO.lst (ys.map V.str))
    have k6 := SameB.set (o' := .ins CN dx (putF "_labels" (.ref ld2) (putF "_rooms" (.ref rd2) f4))) (same_upd (o := HO.lst (ys.map V.str)) nld2 _ _ hp5) (notb _)
    have w6 := (w5.trans (SameB.of (SameG.of (same_upd (o := HO.lst (ys.map V.str)) nld2)))).trans k6
    have hp6 := upd_same (H := upd H15 ld2 (.lst (ys.map V.str))) (a := p) (o := HO.ins CN dx (putF "_labels" (.ref ld2) (putF "_rooms" (.ref rd2) f4)))
    have pl2 : V.ref p ≠ .ref ld2 := fun z => by
      injection z with z
      rw [← z, hp5] at nld2
      exact nomatch nld2
    have hl3 := k6.keep _ _ pl2 hl2 fun ps z => nomatch z
    generalize upd (upd H15 ld2 (.lst (ys.map V.str))) p (.ins CN dx (putF "_labels" (.ref ld2) (putF "_rooms" (.ref rd2) f4))) = H16 at w6 hp6 hl3 ⊢
    refine ⟨_, rfl, _, rfl, p, CN, dx, _, rfl, hp6, X.cl, X.n7, by have := len_putF "_rooms" (.ref rd2) f4; have := len_putF "_labels" (.ref ld2) (putF "_rooms" (.ref rd2) f4); omega, ?_⟩
    have k7 := SameB.set (o' := .ins CN dx (putF "_arrays" (.ref ad) (putF "_labels" (.ref ld2) (putF "_rooms" (.ref rd2) f4)))) hp6 (notb _)
    have w7 := w6.trans k7
    have pad : V.ref p ≠ .ref ad := fun z => by
      injection z with z
      rw [← z, hp0] at had
      exact nomatch had
    refine good rfl _ (fun x o n e t => (SameB.trans (SameB.of u11) w7).keep _ _ (fun z => n (by injection z with z; exact z.symm)) e t) (fun T h => w7.tab _ (u11.tab _ h)) ⟨⟨dx, .ref pz, vg, vk, rd2, ld2, ad, ys, zs, fa, ?_, k7.keep _ _ pl2 hl3 (fun ps z => nomatch z), perm, srt, w7.keep _ _ pad had (fun ps z => nomatch z), permA, srtA, fun x hx => ?_⟩, ?_⟩
    · rw [upd_same]
      unfold nfields
      rw [hf4]
    · obtain ⟨d, hd1, hd2⟩ := hfa x hx
      exact ⟨d, hd1, dp_o w7 hp0 (noP _) _ _ hd2⟩
    · exact dp_o w7 hp0 (noP _) _ _ (dp_g u11 _ _ hb)
end
end Kd
set_option maxHeartbeats 4000000
/-! labels, arrays; check_place, bounds with a place that is none; NoNode, node_at -/
namespace Kd
open PySem L2 Lo
abbrev sNLabels : Stmt := inClass cNest 2
abbrev sNArrays : Stmt := inClass cNest 3
abbrev sNoNodeInit : Stmt := inClass cNoNode 0
theorem nf_body {vz vg vk vb : V} {rd ld ad : Addr} : (nfields vz vg vk vb rd ld ad).lookup ("body" : Str) = some vb := by
  unfold nfields
  rw [lookup_putF, if_neg (by decide +kernel), lookup_putF, if_neg (by decide +kernel), lookup_putF, if_neg (by decide +kernel), lookup_putF, if_pos rfl]
theorem nf_labels {vz vg vk vb : V} {rd ld ad : Addr} : (nfields vz vg vk vb rd ld ad).lookup ("_labels" : Str) = some (.ref ld) := by
  unfold nfields
  rw [lookup_putF, if_neg (by decide +kernel), lookup_putF, if_pos rfl]
theorem nf_arrays {vz vg vk vb : V} {rd ld ad : Addr} : (nfields vz vg vk vb rd ld ad).lookup ("_arrays" : Str) = some (.ref ad) := by
  unfold nfields
  rw [lookup_putF, if_pos rfl]
theorem nf_no {vz vg vk vb : V} {rd ld ad : Addr} {m : Str} (h1 : ¬ m = "sizes") (h2 : ¬ m = "given") (h3 : ¬ m = "kept") (h4 : ¬ m = "body") (h5 : ¬ m = "_rooms") (h6 : ¬ m = "_labels") (h7 : ¬ m = "_arrays") : (nfields vz vg vk vb rd ld ad).lookup m = none := by
  unfold nfields
  rw [lookup_putF, if_neg h7, lookup_putF, if_neg h6, lookup_putF, if_neg h5, lookup_putF, if_neg h4, lookup_putF, if_neg h3, lookup_putF, if_neg h2, lookup_putF, if_neg h1]
  rfl
theorem dS_dup (ks : List Str) (f : Str → V) : (dS ks f) = dS ks f := rfl
section
variable {P : Program} {w : World} {K : PySem.W.Frag} {mg : Str → Option Value} {base : Heap}
theorem NestAt.g {C p : Addr} {H H' : Hp} {vb : V} {r : RD} {b : PyData} (s : SameG H H') (h : NestAt K C H p vb r b) : NestAt K C H' p vb r b := by
  obtain ⟨dx, vz, vg, vk, rd, ld, ad, ys, zs, f, h1, h2, h3, h4, h5, h6, h7, h8⟩ := h.ob
  exact ⟨⟨dx, vz, vg, vk, rd, ld, ad, ys, zs, f, s.keep _ _ h1 (fun _ z => nomatch z), s.keep _ _ h2 (fun _ z => nomatch z), h3, h4, s.keep _ _ h5 (fun _ z => nomatch z), h6, h7, fun x hx => by
    obtain ⟨d, h9, h10⟩ := h8 x hx
    exact ⟨d, h9, dp_g s _ _ h10⟩⟩, dp_g s _ _ h.bd⟩
/-! ### labels, arrays -/
def spLabels (K : PySem.W.Frag) (CN : Addr) : Sp := fun vs H Q _ => ∃ (p : Addr) (vb : V) (r : RD) (b : PyData), vs = [.ref p] ∧ NestAt K CN H p vb r b ∧ ∀ (l : Addr) (ys : List Str), H l = none → ys.Perm (namesIn (labelsF b)) → PyProof.Rows.sortedS ys = true → Q (.ref l) (upd H l (.lst (ys.map V.str)))
theorem scLabels : FnScope ["self"] ["self"] (defScope sNLabels) := ⟨rfl, rfl, rfl, by decide +kernel, rfl, by decide +kernel, by decide +kernel⟩
theorem ok_labels {CN f fI : Addr} {fd : FuncData} (F : Fun K "labels" "Nest.labels" sNLabels f fd) (X : NTxt K mg CN fI) (hlist : mg "list" = none) : FnOk P w K mg base CX0 1 f fd ["self"] (spLabels K CN) := by
  refine F.ok scLabels (fun vs H Q E h => ?_) (fun cdv A outer s H vs Q E hr h => ?_)
  · obtain ⟨p, vb, r, b, rfl, _⟩ := h
    rfl
  · obtain ⟨p, vb, r, b, rfl, h, q⟩ := h
    obtain ⟨dx, vz, vg, vk, rd, ld, ad, ys, zs, f, h1, h2, h3, h4, h5, h6, h7, h8⟩ := h.ob
    refine ⟨_, pss_one (ps_ret (pe_callTy call_list_of (by rfl) hlist PyProof.Rows.boot_list (pa_cons (pe_fld (pv 0) rfl) pa_nil))), ?_⟩
    exact ⟨_, rfl, p, CN, dx, _, _, rfl, h1, X.cl, X.n6, nf_labels, ld, _, rfl, .inl (SqL.of h2), fun l nl => q l ys nl h3 h4⟩
def spArrays (K : PySem.W.Frag) (CN : Addr) : Sp := fun vs H Q _ => ∃ (p : Addr) (vb : V) (r : RD) (b : PyData), vs = [.ref p] ∧ NestAt K CN H p vb r b ∧ ∀ (l : Addr) (zs : List Str) (f : Str → V), H l = none → zs.Perm (namesIn (arraysF r b)) → PyProof.Rows.sortedS zs = true → (∀ x ∈ zs, ∃ d, firstOf (arraysF r b) x = some d ∧ Dp K H (f x) d) → Q (.ref l) (upd H l (.dK (dS zs f)))
theorem scArrays : FnScope ["self"] ["self"] (defScope sNArrays) := ⟨rfl, rfl, rfl, by decide +kernel, rfl, by decide +kernel, by decide +kernel⟩
theorem ok_arrays {CN f fI : Addr} {fd : FuncData} (F : Fun K "arrays" "Nest.arrays" sNArrays f fd) (X : NTxt K mg CN fI) (hdict : mg "dict" = none) : FnOk P w K mg base CX0 1 f fd ["self"] (spArrays K CN) := by
  refine F.ok scArrays (fun vs H Q E h => ?_) (fun cdv A outer s H vs Q E hr h => ?_)
  · obtain ⟨p, vb, r, b, rfl, _⟩ := h
    rfl
  · obtain ⟨p, vb, r, b, rfl, h, q⟩ := h
    obtain ⟨dx, vz, vg, vk, rd, ld, ad, ys, zs, f, h1, h2, h3, h4, h5, h6, h7, h8⟩ := h.ob
    refine ⟨_, pss_one (ps_ret (pe_callTy call_dictD (by rfl) hdict PyProof.Rows.boot_dict (pa_cons (pe_fld (pv 0) rfl) pa_nil))), ?_⟩
    exact ⟨_, rfl, p, CN, dx, _, _, rfl, h1, X.cl, X.n7, nf_arrays, ad, _, rfl, Rd.of h5, fun l nl => q l zs f nl h6 h7 h8⟩
/-! ### check_place, bounds -/
def placeIn (m : Nat) (d : PyData) : Bool := match d with
  | .int i => decide (0 ≤ i) && decide (i < (m : Nat))
  | _ => false
def spPlace (K : PySem.W.Frag) (CP : Addr) : Sp := fun vs H Q E => ∃ (v : V) (d : PyData) (m : Nat), vs = [v, .int (m : Nat)] ∧ Dp K H v d ∧ (placeIn m d = true → Q .non H) ∧ (placeIn m d = false → E (.ref CP) none H)
theorem scPlace : FnScope ["place", "many"] ["place", "many"] (defScope sCheckPlace) := ⟨rfl, rfl, rfl, by decide +kernel, rfl, by decide +kernel, by decide +kernel⟩
theorem ok_place {CP f fW : Addr} {fd fdW : FuncData} (F : Fun K "check_place" "check_place" sCheckPlace f fd) (N : Err K mg "NoPlace" CP) (GW : FnOk P w K mg base CX0 1 fW fdW ["thing"] (spWhole K)) (kW : PySem.W.keepIn K (.ref fW) = true) (bW : Binds K fdW ["thing"] []) (gW : mg "is_whole" = some (.ref fW)) :
    FnOk P w K mg base (L2.CX P w) 2 f fd ["place", "many"] (spPlace K CP) := by
  refine F.okX scPlace (fun vs H Q E h => ?_) (fun cdv A outer s H vs Q E hr h => ?_)
  · obtain ⟨v, d, m, rfl, _⟩ := h
    rfl
  · obtain ⟨v, d, m, rfl, hd, q1, q2⟩ := h
    refine ⟨_, pss_one (ps_if (PW.pt (pw_or (pt_not (pt_val (pe_call GW hr (by rfl) gW kW bW .nil pass0 (pa_cons (pv 0) pa_nil)))) (pw_or1 (pt_not (pt_chain op_le op_lt pe_int (pv 0) (pv 1))))))
      (pss_one (ps_raise rfl (takes_of rfl rfl rfl rfl) (pmk_own PySem.F.excBase_ValueError N.x N.g N.k (raises_own N.b N.t) rfl))) pss_nil), ?_⟩
    refine ⟨_, rfl, v, d, rfl, hd, pWhole d, rfl, ?_⟩
    cases hd with
    | int i =>
      refine iteF ⟨_, rfl, _, _, rfl, rfl, _, rfl, ?_⟩
      have e0 : placeIn m (.int i) = (decide (0 ≤ i) && decide (i < (m : Nat))) := rfl
      rw [e0] at q1 q2
      cases e1 : decide (0 ≤ i) with
      | false =>
        rw [e1] at q2
        exact iteF ⟨false, rfl, iteT (q2 rfl)⟩
      | true =>
        rw [e1, Bool.true_and] at q1 q2
        refine iteT ⟨_, rfl, _, _, rfl, rfl, _, rfl, ?_⟩
        cases e2 : decide (i < (m : Int)) with
        | false => exact iteT (q2 e2)
        | true => exact iteF (q1 e2)
    | bl b => exact iteT (q2 rfl)
    | non => exact iteT (q2 rfl)
    | str x => exact iteT (q2 rfl)
    | lst a b => exact iteT (q2 rfl)
    | tup a b => exact iteT (q2 rfl)
end
end Kd
set_option maxHeartbeats 4000000
/-! bounds with a place that is none; NoNode, node_at -/
namespace Kd
open PySem L2 Lo
/-- what the text asks of NoNode -/
structure NNTxt (K : PySem.W.Frag) (mg : Str → Option Value) (C f : Addr) : Prop where
  ox : OexC K C
  no : PySem.W.findIn K (.ref C) "path" = some none
  iC : PySem.W.findIn K (.ref C) "__init__" = some (some (.ref f))
  tI : PySem.W.typeIn K (.ref f) = some (.type "function")
  mg : mg "NoNode" = some (.ref C)
/-- the body behind a node -/
def nextB (d : PyData) : List PyData := if isRunD d = true then [] else items (lastD d)
/-- the node that a path leads to; none where it leads nowhere -/
def walkTo : List PyData → List PyData → Option PyData → Option PyData
  | [], _, last => last
  | a :: p, body, _ => match a with
    | .int i => if 0 ≤ i ∧ i < (body.length : Nat) then walkTo p (nextB (body.getD i.toNat .none)) (some (body.getD i.toNat .none)) else none
    | _ => none
def nodeAt (body : List PyData) (d : PyData) : Option PyData := match d with
  | .tuple (a :: p) => walkTo (a :: p) body none
  | _ => none
def shapely (body : List PyData) : Prop := body = [] ∨ ∃ n, shape n body = true
theorem shapely_at {body : List PyData} (h : shapely body) {d : PyData} (hd : d ∈ body) : ∃ k r, d = .tuple (.str k :: r) ∧ (k = "run" ∨ ∃ ds, lastD d = .tuple ds ∧ shapely ds) := by
  rcases h with rfl | ⟨n, h⟩
  · exact nomatch hd
  · cases n with
    | zero => exact nomatch h
    | succ n =>
      obtain ⟨k, r, rfl, e⟩ := shape_at h hd
      exact ⟨k, r, rfl, e.elim .inl fun ⟨ds, e1, e2⟩ => .inr ⟨ds, e1, .inr ⟨n, e2⟩⟩⟩
def rEqNil (K : PySem.W.Frag) : R2 := fun x y H Q => ∃ d p, Dp K H x d ∧ small d = true ∧ y = .ref p ∧ SqT K H p [] ∧ Q (.bl (emptyD d)) H
theorem op_eqNil {X : Cx} (hu : X.A.units + 64 < cLine) : OpR X (compareOp .Eq) (rEqNil X.K) := by
  intro pins s σ H x y v u Q I rx ry h
  obtain ⟨d, p, hd, sm, rfl, hp, q⟩ := h
  obtain ⟨as, r1⟩ := Dp.reads I d x v hd rx
  obtain ⟨bs, r2⟩ := Dp.reads I (.tuple []) (.ref p) u (.tup hp .nil) ry
  refine SeqAt.compareEq_reads r1 r2 (small_lay d sm) (by rw [PyData.canLay0, PyData.canLayAll0]) ?_ ⟨.bl _, H, I, rfl, by rw [eqv_empty]; exact q⟩
  have h1 : min d.depth (PyData.tuple []).depth ≤ (PyData.tuple []).depth := Nat.min_le_right _ _
  have h2 : (PyData.tuple []).depth ≤ 1 := by simp [PyData.depth, PyData.depthAll]
  omega
section
variable {P : Program} {w : World} {K : PySem.W.Frag} {mg : Str → Option Value} {base : Heap}
/-! ### bounds, the place being none -/
def spBoundsX (K : PySem.W.Frag) (CN CP : Addr) : Sp := fun vs H Q E => ∃ (p : Addr) (vb v : V) (d : PyData) (r : RD) (bs : List PyData), vs = [.ref p, v] ∧ NestAt K CN H p vb r (.tuple bs) ∧ Dp K H v d ∧ shape 41 bs = true ∧ hashables bs = true ∧ (runsIn 41 bs [] []).length ≤ 1000 ∧ placeIn (runsIn 41 bs [] []).length d = false ∧
  ∀ H', SameG H H' → E (.ref CP) none H'
theorem scBounds : FnScope ["nest", "place", "rows"] ["nest", "place"] (defScope sBounds) := ⟨rfl, rfl, rfl, by decide +kernel, rfl, by decide +kernel, by decide +kernel⟩
theorem ok_boundsX {CN CP f fI fR fP : Addr} {fd fdR fdP : FuncData} (F : Fun K "bounds" "bounds" sBounds f fd) (B : Blt mg) (X : NTxt K mg CN fI)
    (GR : FnOk P w K mg base CX0 42 fR fdR ["body", "path", "around"] (spRunsIn K 41)) (kR : PySem.W.keepIn K (.ref fR) = true) (bR : Binds K fdR ["body", "path", "around"] []) (gR : mg "_runs_in" = some (.ref fR))
    (GP : FnOk P w K mg base (L2.CX P w) 2 fP fdP ["place", "many"] (spPlace K CP)) (kP : PySem.W.keepIn K (.ref fP) = true) (bP : Binds K fdP ["place", "many"] []) (gP : mg "check_place" = some (.ref fP)) :
    FnOk P w K mg base (L2.CX P w) 43 f fd ["nest", "place"] (spBoundsX K CN CP) := by
  refine F.okX scBounds (fun vs H Q E h => ?_) (fun cdv A outer s H vs Q E hr h => ?_)
  · obtain ⟨p, vb, v, d, r, bs, rfl, _⟩ := h
    rfl
  · obtain ⟨p, vb, v, d, r, bs, rfl, hN, hd, shp, hash, few, no, q⟩ := h
    have nd := scBounds.nd
    obtain ⟨dx, vz, vg, vk, rd, ld, ad, ys, zs, f, h1, h2, h3, h4, h5, h6, h7, h8⟩ := hN.ob
    refine ⟨_, pss_cons (ps_set (i := 2) nd rfl (.inl rfl) (pe_call GR hr (by rfl) gR kR bR .nil pass0 (pa_cons (pe_fld (pv 0) rfl) (pa_cons (pe_tup pa_nil) (pa_cons (pe_tup pa_nil) pa_nil)))))
      (pss_cons (ps_expr (pe_callS GP (hr.mono (by decide)) (by rfl) gP kP bP (fun σ => passAt (takes_of rfl rfl rfl rfl) σ) (pa_cons (pv 1) (pa_cons (pe_callB call_len_seq (by rfl) B.len PySem.boot_len (pa_cons (pv 2) pa_nil)) pa_nil))))
      (pss_one ps_never)), ?_⟩
    refine ⟨_, rfl, p, CN, dx, _, _, rfl, h1, X.cl, X.n4, nf_body, Nat.zero_le _, fun t1 nt1 => ⟨Nat.zero_le _, fun t2 nt2 => ?_⟩⟩
    have s3 := same_upd (o := HO.tup []) nt1
    have ht1 := upd_same (H := H) (a := t1) (o := HO.tup [])
    generalize upd H t1 (.tup []) = H2a at s3 ht1 nt2 ⊢
    have s4 := same_upd (o := HO.tup []) nt2
    have ht2 := upd_same (H := H2a) (a := t2) (o := HO.tup [])
    have ht1' := s4 _ _ ht1
    generalize upd H2a t2 (.tup []) = H2b at s4 ht2 ht1' ⊢
    have u3 := SameG.of (s3.trans s4)
    refine ⟨vb, .ref t1, .ref t2, bs, [], [], rfl, dp_g u3 _ _ hN.bd, .tup (SqT.of ht1') .nil, .tup (SqT.of ht2) .nil, shp, by decide, hash, rfl, rfl, by decide, by decide, few, fun H3 l xs s5 nl hl dz => ?_⟩
    have lz := dps_len dz
    have u4 := u3.trans (SameG.of s5)
    refine ⟨_, rfl, _, rfl, l, xs, rfl, .inl (SqL.of hl), v, d, xs.length, rfl, dp_g u4 _ _ hd, fun e => ?_, fun _ => q H3 u4⟩
    rw [lz, no] at e
    exact nomatch e
/-! ### NoNode, node_at -/
def spNNInit (K : PySem.W.Frag) : Sp := fun vs H Q _ => ∃ (a C : Addr) (x : V), vs = [.ref a, x] ∧ OexC K C ∧ PySem.W.findIn K (.ref C) "path" = some none ∧ H a = some (exo a C none) ∧ ∀ dx, H dx = none → dx ≠ a → Q .non (upd (upd H dx (exd dx [("path", x)])) a (exo a C (some dx)))
theorem scNNInit : FnScope ["self", "path"] ["self", "path"] (defScope sNoNodeInit) := ⟨rfl, rfl, rfl, by decide +kernel, rfl, by decide +kernel, by decide +kernel⟩
theorem ok_nninit {f : Addr} {fd : FuncData} (F : Fun K "__init__" "NoNode.__init__" sNoNodeInit f fd) : FnOk P w K mg base CX0 1 f fd ["self", "path"] (spNNInit K) := by
  refine F.ok scNNInit (fun vs H Q E h => ?_) (fun cdv A outer s H vs Q E hr h => ?_)
  · obtain ⟨a, C, x, rfl, _⟩ := h
    rfl
  · obtain ⟨a, C, x, rfl, T, no, ha, q⟩ := h
    refine ⟨_, pss_one (ps_ost (pv 0) (pv 1)), ?_⟩
    exact ⟨_, rfl, _, rfl, a, C, rfl, T, no, .inl ⟨ha, fun dx n ne => q dx n ne⟩⟩
/-- the making of a NoNode and what leaves -/
theorem nn_out {C : Addr} {H0 H : Hp} {x : V} {E : XK} (s0 : SameG H0 H) (T : OexC K C) (no : PySem.W.findIn K (.ref C) "path" = some none)
    (q : ∀ H' dx, SameG H0 H' → H' dx = some (.xd [("path", x)]) → E (.ref C) (some dx) H') (a : Addr) (na : H a = none) :
    spNNInit K [.ref a, x] (upd H a (exo a C none)) (fun v H2 => v = .non ∧ ∃ (d : Addr) (fs : List (Str × V)), H2 a = some (exo a C (some d)) ∧ H2 d = some (exd d fs) ∧ H d = none ∧ E (.ref C) (some d) (upd (del H2 a) d (.xd fs))) (fun _ _ _ => False) := by
  refine ⟨a, C, x, rfl, T, no, upd_same, fun dx nx ne => ⟨rfl, dx, _, upd_same, by rw [upd_ne ne]; exact upd_same, ?_, ?_⟩⟩
  · rw [upd_ne ne] at nx
    exact nx
  · rw [upd_ne ne] at nx
    refine q _ dx (s0.trans (SameG.of fun b o e => ?_)) upd_same
    have b1 := ne_of_none e nx
    have b2 := ne_of_none e na
    rw [upd_ne b1, del_ne b2, upd_ne b2, upd_ne b1, upd_ne b2]
    exact e
def spNodeAt (K : PySem.W.Frag) (CN CX : Addr) : Sp := fun vs H Q E => ∃ (p : Addr) (vb v : V) (d : PyData) (r : RD) (bs : List PyData), vs = [.ref p, v] ∧ NestAt K CN H p vb r (.tuple bs) ∧ Dp K H v d ∧ small d = true ∧ shapely bs ∧
  (∀ nd, nodeAt bs d = some nd → ∀ H' v', SameG H H' → Dp K H' v' nd → Q v' H') ∧ (nodeAt bs d = none → ∀ H' dx, SameG H H' → H' dx = some (.xd [("path", v)]) → E (.ref CX) (some dx) H')
abbrev nNodeAt : List Str := ["nest", "path", "body", "node", "at"]
theorem scNodeAt : FnScope nNodeAt ["nest", "path"] (defScope sNodeAt) := ⟨rfl, rfl, rfl, by decide +kernel, rfl, by decide +kernel, by decide +kernel⟩
theorem ok_nodeat {CN C2 f fI f2 fW : Addr} {fd fd2 fdW : FuncData} (F : Fun K "node_at" "node_at" sNodeAt f fd) (B : Blt mg) (X : NTxt K mg CN fI) (U : NNTxt K mg C2 f2)
    (G2 : FnOk P w K mg base CX0 1 f2 fd2 ["self", "path"] (spNNInit K)) (b2 : Binds K fd2 ["self", "path"] [])
    (GW : FnOk P w K mg base CX0 1 fW fdW ["thing"] (spWhole K)) (kW : PySem.W.keepIn K (.ref fW) = true) (bW : Binds K fdW ["thing"] []) (gW : mg "is_whole" = some (.ref fW)) :
    FnOk P w K mg base (L2.CX P w) 3 f fd ["nest", "path"] (spNodeAt K CN C2) := by
  refine F.okX scNodeAt (fun vs H Q E h => ?_) (fun cdv A outer s H vs Q E hr h => ?_)
  · obtain ⟨p, vb, v, d, r, bs, rfl, _⟩ := h
    rfl
  · obtain ⟨p, vb, v, d, r, bs, rfl, hN, hd, sm, shp, good, bad⟩ := h
    have nd := scNodeAt.nd
    have r1 := hr.mono (show 1 ≤ 2 by decide)
    obtain ⟨dx, vz, vg, vk, rd, ld, ad, ys, zs, fA, h1, h2, h3, h4, h5, h6, h7, h8⟩ := hN.ob
    have body : PSs (cxOf (L2.CX P w) P w K mg base nNodeAt "node_at" (defScope sNodeAt) f cdv A outer s H E) (defBody sNodeAt) _ := pss_cons (ps_if (PW.pt (pw_or (pt_not (pt_val (pe_callB (call_isD kit_tup) (by rfl) B.isi PyProof.Rows.boot_isinstance (pa_cons (pv 1) (pa_cons (pe_bltn (v := .ty "tuple") rfl B.tuple PyProof.Rows.boot_tuple rfl) pa_nil))))) (pw_or1 (pt_cmpR (op_eqNil hr.units) (pv 1) (pe_tup pa_nil) (nomark _)))))
        (pss_one (ps_raise rfl (takes_of rfl rfl rfl rfl) (pmk_oex U.ox U.iC U.tI G2 hr b2 .nil pass0 (by rfl) U.mg (pa_cons (pv 1) pa_nil)))) pss_nil)
      (pss_cons (ps_set (i := 2) nd rfl (.inl rfl) (pe_fld (pv 0) rfl))
      (pss_cons (ps_set (i := 3) nd rfl (.inl rfl) pe_non)
      (pss_cons (ps_for (passes_of rfl) rfl (pi_tup (pv 1)) (pg_name (i := 4) nd rfl (.inl rfl))
        (pss_cons (ps_if (PW.pt (pw_or (pt_not (pt_val (pe_call GW r1 (by rfl) gW kW bW .nil pass0 (pa_cons (pv 4) pa_nil)))) (pw_or1 (pt_not (pt_chain op_le op_lt pe_int (pv 4) (pe_callB call_len_seq (by rfl) B.len PySem.boot_len (pa_cons (pv 2) pa_nil)))))))
          (pss_one (ps_raise rfl (takes_of rfl rfl rfl rfl) (pmk_oex U.ox U.iC U.tI G2 hr b2 .nil pass0 (by rfl) U.mg (pa_cons (pv 1) pa_nil)))) pss_nil)
        (pss_cons (ps_set (i := 3) nd rfl (.inl rfl) (pe_ix ix_tup (pv 2) (pv 4) (fun _ _ => rfl)))
        (pss_one (ps_set (i := 2) nd rfl (.inl rfl) (pe_ifExp (pt_cmpR op_eq (pe_ix ix_tup (pv 3) pe_int (fun _ _ => rfl)) pe_str (nomark _)) (pe_tup pa_nil) (pe_ix ix_tup (pv 3) (pe_un un_neg pe_int) (fun _ _ => rfl))))))))
      (pss_one (ps_ret (pv 3))))))
    refine ⟨_, body, ?_⟩
    refine ⟨_, rfl, v, d, rfl, hd, isTup d, rfl, ?_⟩
    cases e1 : isTup d with
    | false =>
      refine iteT ⟨_, rfl, by show 1 ≤ 1000; decide, fun a na => nn_out (SameG.refl H) U.ox U.no (bad ?_) a na⟩
      cases d with
      | tuple ds => exact nomatch e1
      | _ => rfl
    | true =>
    obtain ⟨ps, rfl⟩ : ∃ ps, d = .tuple ps := by
      cases d with
      | tuple ps => exact ⟨ps, rfl⟩
      | _ => exact nomatch e1
    refine iteF ⟨_, rfl, Nat.zero_le _, fun t0 nt0 => ?_⟩
    have s0 := SameG.of (same_upd (o := HO.tup []) nt0)
    refine ⟨.tuple ps, t0, dp_g s0 _ _ hd, sm, rfl, SqT.of upd_same, _, rfl, ?_⟩
    generalize upd H t0 (.tup []) = H1 at s0 ⊢
    cases ps with
    | nil => exact iteT ⟨_, rfl, by show 1 ≤ 1000; decide, fun a na => nn_out s0 U.ox U.no (bad rfl) a na⟩
    | cons a0 pr =>
    cases hd with
    | @tup pp xp _ hpp hAp =>
    have hlp := dps_len hAp
    have hN1 := h1
    generalize hres : nodeAt bs (.tuple (a0 :: pr)) = res at good bad
    have hres' : walkTo (a0 :: pr) bs none = res := hres
    refine iteF ⟨_, rfl, p, CN, dx, _, _, rfl, s0.keep _ _ h1 (fun _ z => nomatch z), X.cl, X.n4, nf_body, ?_⟩
    refine ⟨_, rfl, pp, rfl, ⟨_, sqT_g s0 hpp⟩, for_tup (K := K) (a := pp) (xs := xp) (fun i σ H' => ∃ (vc vn : V) (y : Option V) (cur : List PyData) (last : Option PyData), σ = [some (.ref p), some (.ref pp), some vc, some vn, y] ∧ SameG H1 H' ∧ Dp K H' vc (.tuple cur) ∧ shapely cur ∧ walkTo ((a0 :: pr).drop i) cur last = res ∧
        (∀ nd, last = some nd → Dp K H' vn nd) ∧ (0 < i → last.isSome = true)) ⟨vb, .non, none, bs, none, rfl, SameG.refl _, dp_g s0 _ _ hN.bd, shp, hres', (fun nd z => nomatch z), (fun z => absurd z (Nat.lt_irrefl 0))⟩ (fun i σ H' _ ⟨_, _, _, _, _, _, k, _⟩ => sqT_g (s0.trans k) hpp) ?_ ?_⟩
    · rintro i x σ H2 hx ⟨vc, vn, y, cur, last, rfl, s2, hc, sc, hw, hl, hi0⟩
      have u2 := s0.trans s2
      obtain ⟨d, ed, dd⟩ := dps_at (dps_g u2 _ _ hAp) hx
      have hi : i < (a0 :: pr).length := (List.getElem?_eq_some_iff.mp ed).1
      have edr : (a0 :: pr).drop i = d :: (a0 :: pr).drop (i + 1) := by
        rw [List.drop_eq_getElem_cons hi]
        rw [List.getElem?_eq_getElem hi] at ed
        rw [Option.some.inj ed]
      rw [edr] at hw
      refine ⟨_, rfl, x, d, rfl, dd, pWhole d, rfl, ?_⟩
      cases e2 : pWhole d with
      | false =>
        refine iteT ⟨_, rfl, by show 1 ≤ 1000; decide, fun a na => nn_out u2 U.ox U.no (bad ?_) a na⟩
        rw [← hw]
        cases d with
        | int k => exact nomatch e2
        | _ => rfl
      | true =>
      obtain ⟨k, rfl⟩ : ∃ k, d = .int k := by
        cases d with
        | int k => exact ⟨k, rfl⟩
        | _ => exact nomatch e2
      cases dd
      have hw' : (if 0 ≤ k ∧ k < (cur.length : Nat) then walkTo ((a0 :: pr).drop (i + 1)) (nextB (cur.getD k.toNat .none)) (some (cur.getD k.toNat .none)) else none) = res := hw
      cases hc with
      | @tup pc xc _ hpc hAc =>
      have hlc := dps_len hAc
      refine iteF ⟨_, rfl, _, _, rfl, rfl, _, rfl, ?_⟩
      by_cases k0 : 0 ≤ k
      · rw [decide_eq_true k0]
        refine iteT ⟨_, rfl, pc, xc, rfl, .inr hpc, _, _, rfl, rfl, _, rfl, ?_⟩
        by_cases k1 : k < (cur.length : Nat)
        · rw [if_pos ⟨k0, k1⟩] at hw'
          rw [show decide (k < ((xc.length : Nat) : Int)) = true from decide_eq_true (by rw [hlc]; exact k1)]
          obtain ⟨j, rfl⟩ : ∃ j : Nat, k = (j : Nat) := ⟨k.toNat, by omega⟩
          rw [Int.toNat_natCast] at hw'
          have hj : j < cur.length := by omega
          have ej : cur[j]? = some (cur.getD j .none) := by
            rw [List.getD_eq_getElem?_getD, List.getElem?_eq_getElem hj]
            rfl
          obtain ⟨w1, ew, dw⟩ := dps_at' hAc ej
          obtain ⟨kk, rr, end_, hk⟩ := shapely_at sc (List.mem_of_getElem? ej)
          generalize cur.getD j .none = nd at hw' dw end_ ej hk
          subst end_
          refine iteF ⟨_, rfl, _, rfl, pc, xc, (j : Nat), w1, rfl, rfl, hpc, atI_nat ew, ?_⟩
          have dw' := dw
          cases dw with
          | @tup q zs' _ hq hB =>
          obtain ⟨z0, zr, rfl, b0, hBr⟩ := dps_cons hB
          cases b0
          refine ⟨_, rfl, q, _, _, _, rfl, rfl, hq, atI_nat (j := 0) rfl, rfl, _, rfl, ?_⟩
          rw [str_dec]
          have en : nextB (.tuple (.str kk :: rr)) = if decide (kk = "run") = true then [] else items (lastD (.tuple (.str kk :: rr))) := rfl
          by_cases kr : kk = "run"
          · rw [decide_eq_true kr]
            rw [decide_eq_true kr, if_pos rfl] at en
            rw [en] at hw'
            refine iteT ⟨Nat.zero_le _, fun t nt => ?_⟩
            have s3 := SameG.of (same_upd (o := HO.tup []) nt)
            exact ⟨_, _, _, [], some (.tuple (.str kk :: rr)), rfl, s2.trans s3, .tup (SqT.of upd_same) .nil, .inl rfl, hw', fun nd z => by rw [← Option.some.inj z]; exact dp_g s3 _ _ dw', fun _ => rfl⟩
          · rw [decide_eq_false kr]
            rw [decide_eq_false kr, if_neg Bool.false_ne_true] at en
            rw [en] at hw'
            obtain ⟨ds, el, shp'⟩ := hk.resolve_left kr
            obtain ⟨vl, hat, dl⟩ := dps_last hB (by simp)
            have el' : (PyData.str kk :: rr).getLastD .none = .tuple ds := el
            rw [el'] at dl
            rw [el] at hw'
            refine iteF ⟨_, rfl, _, rfl, q, _, -1, vl, rfl, rfl, hq, hat, ?_⟩
            exact ⟨_, _, _, ds, some (.tuple (.str kk :: rr)), rfl, s2, dl, shp', hw', fun nd z => by rw [← Option.some.inj z]; exact dw', fun _ => rfl⟩
        · rw [if_neg fun z => k1 z.2] at hw'
          rw [show decide (k < ((xc.length : Nat) : Int)) = false from decide_eq_false (by rw [hlc]; exact k1)]
          exact iteT ⟨_, rfl, by show 1 ≤ 1000; decide, fun a na => nn_out u2 U.ox U.no (bad hw'.symm) a na⟩
      · rw [decide_eq_false k0]
        rw [if_neg fun z => k0 z.1] at hw'
        exact iteF ⟨false, rfl, iteT ⟨_, rfl, by show 1 ≤ 1000; decide, fun a na => nn_out u2 U.ox U.no (bad hw'.symm) a na⟩⟩
    · rintro σ H2 ⟨vc, vn, y, cur, last, rfl, s2, hc, sc, hw, hl, hi0⟩
      have e3 : (a0 :: pr).drop xp.length = [] := by rw [hlp]; exact List.drop_length
      rw [e3] at hw
      have hw2 : last = res := hw
      have hsome := hi0 (by rw [hlp]; exact Nat.succ_pos _)
      cases last with
      | none => exact nomatch hsome
      | some nd => exact ⟨_, rfl, good nd hw2.symm H2 vn (s0.trans s2) (hl nd rfl)⟩
end
end Kd
set_option maxHeartbeats 4000000
/-! Statement, statements -/
namespace Kd
open PySem L2 Lo
abbrev sSInit : Stmt := inClass cStatement 0
/-- nodes around a statement -/
def aroundOk (ar : List PyData) : Bool := ar.all fun d => match d with
  | .tuple (.str k :: x :: _) => decide (k ≠ "test") || isTup x
  | _ => false
theorem around_at {ar : List PyData} (h : aroundOk ar = true) {d : PyData} (hd : d ∈ ar) : ∃ k x r, d = .tuple (.str k :: x :: r) ∧ (k = "test" → isTup x = true) := by
  have h' := List.all_eq_true.mp h d hd
  match d, h' with
  | .tuple (.str k :: x :: r), h' =>
    refine ⟨k, x, r, rfl, fun e => ?_⟩
    rw [Bool.or_eq_true, decide_eq_true_eq] at h'
    exact h'.resolve_left fun n => n e
structure STxt (K : PySem.W.Frag) (mg : Str → Option Value) (C fI : Addr) : Prop where
  cl : Cls K C
  n1 : NoAttr K C "label"
  n2 : NoAttr K C "stamp"
  n3 : NoAttr K C "target"
  n4 : NoAttr K C "reads"
  n5 : NoAttr K C "path"
  n6 : NoAttr K C "levels"
  n7 : NoAttr K C "loops"
  n8 : NoAttr K C "counters"
  n9 : NoAttr K C "tests"
  make : Mk K C fI
  mg : mg "Statement" = some (.ref C)
theorem lc2_tup {K : PySem.W.Frag} {a : Addr} {xs : List V} {g g1 : TG} {tt tt1 : TT} {wi1 : TI} {te : TE} {vs vs1 : List Nat} {σ : L2.St} {H1 : Hp} {D : Addr} {Qd : Hp → Prop} (Pv : Nat → Hp → Prop) (h0 : Pv 0 (upd H1 D (.lst []))) (hl : ∀ i H, i ≤ xs.length → Pv i H → SqT K H a xs)
    (hs : ∀ i x H, xs[i]? = some x → Pv i H → g x (wipe σ vs) H fun σ2 H2 => wipe σ2 vs = wipe σ vs ∧ tt σ2 H2 fun b H3 =>
      if b = true then wi1 σ2 H3 fun J1 H4 => ∃ W1 : Nat → Nat → Hp → Prop, (∃ m, W1 0 m H4) ∧ ∀ j k H, W1 j k H →
        (J1.stop j H ∧ Pv (i + 1) H) ∨ (J1.go j H ∧ ∃ Nx1 : Hp → Prop, (∀ H', Nx1 H' → ∃ k', k' < k ∧ W1 (j + 1) k' H') ∧ ∀ x H', J1.yld j H x H' → g1 x (wipe σ2 vs1) H' fun σ3 H5 => wipe σ3 vs1 = wipe σ2 vs1 ∧ tt1 σ3 H5 fun b H6 =>
          if b = true then te σ3 H6 fun y H7 => ∃ acc, H7 D = some (.lst acc) ∧ acc.length < sizeLine ∧ Nx1 (upd H7 D (.lst (acc ++ [y]))) else Nx1 H6)
      else Pv (i + 1) H3) (hd : ∀ H, Pv xs.length H → Qd H) :
    ∃ W : Nat → Nat → Hp → Prop, (∃ m, W 0 m (upd H1 D (.lst []))) ∧ ∀ i m H, W i m H →
      ((Itt K a).stop i H ∧ Qd H) ∨ ((Itt K a).go i H ∧ ∃ Nx : Hp → Prop, (∀ H', Nx H' → ∃ m', m' < m ∧ W (i + 1) m' H') ∧ ∀ x H', (Itt K a).yld i H x H' → g x (wipe σ vs) H' fun σ2 H2 => wipe σ2 vs = wipe σ vs ∧ tt σ2 H2 fun b H3 =>
        if b = true then wi1 σ2 H3 fun J1 H4 => ∃ W1 : Nat → Nat → Hp → Prop, (∃ m, W1 0 m H4) ∧ ∀ j k H, W1 j k H →
          (J1.stop j H ∧ Nx H) ∨ (J1.go j H ∧ ∃ Nx1 : Hp → Prop, (∀ H', Nx1 H' → ∃ k', k' < k ∧ W1 (j + 1) k' H') ∧ ∀ x H', J1.yld j H x H' → g1 x (wipe σ2 vs1) H' fun σ3 H5 => wipe σ3 vs1 = wipe σ2 vs1 ∧ tt1 σ3 H5 fun b H6 =>
            if b = true then te σ3 H6 fun y H7 => ∃ acc, H7 D = some (.lst acc) ∧ acc.length < sizeLine ∧ Nx1 (upd H7 D (.lst (acc ++ [y]))) else Nx1 H6)
        else Nx H3) := by
  refine ⟨fun i m H => m = xs.length - i ∧ i ≤ xs.length ∧ Pv i H, ⟨xs.length, by simp, Nat.zero_le _, h0⟩, ?_⟩
  rintro i m H ⟨rfl, hi, p⟩
  have q := hl i H hi p
  by_cases hlt : i < xs.length
  · refine .inr ⟨⟨xs, xs[i], q, by simp [hlt]⟩, Pv (i + 1), fun H' p' => ⟨xs.length - (i + 1), by omega, rfl, hlt, p'⟩, fun x H' y => ?_⟩
    obtain ⟨e, y⟩ := y
    subst e
    exact hs i x _ (y xs q) p
  · have e : i = xs.length := by omega
    subst e
    exact .inl ⟨⟨xs, q, Nat.le_refl _⟩, hd H p⟩
/-- a field is stored -/
theorem stf {H Hk : Hp} {p C dx : Addr} {fs fs' : List (Str × V)} (s : SameB (.ref p) H Hk) (hp : Hk p = some (.ins C dx fs)) : SameB (.ref p) H (upd Hk p (.ins C dx fs')) ∧ (upd Hk p (.ins C dx fs')) p = some (.ins C dx fs') :=
  ⟨s.trans (SameB.set hp fun ps z => nomatch z), upd_same⟩
section
variable {P : Program} {w : World} {K : PySem.W.Frag} {mg : Str → Option Value} {base : Heap}
def spSInit (K : PySem.W.Frag) (CS : Addr) : Sp := fun vs H Q _ => ∃ (p dx pa : Addr) (vn vp : V) (nd : PyData) (ar : List PyData), vs = [.ref p, vn, vp, .ref pa] ∧ H p = some (.ins CS dx []) ∧ Dp K H vn nd ∧ RunP nd ∧ Dp K H (.ref pa) (.tuple ar) ∧ aroundOk ar = true ∧ ar.length ≤ 200 ∧
  (∀ d ∈ ar, (items ((items d).getD 1 .none)).length ≤ 1000) ∧ ∀ H', SameB (.ref p) H H' → Q .non H'
abbrev nSInit : List Str := ["self", "node", "path", "around", "at", "outer", "difference"]
theorem scSInit : FnScope nSInit ["self", "node", "path", "around"] (defScope sSInit) := ⟨rfl, rfl, rfl, by decide +kernel, rfl, by decide +kernel, by decide +kernel⟩
theorem ok_sinit {CS f fI : Addr} {fd : FuncData} (F : Fun K "__init__" "Statement.__init__" sSInit f fd) (B : Blt mg) (henum : mg "enumerate" = none) (X : STxt K mg CS fI) : FnOk P w K mg base CX0 1 f fd ["self", "node", "path", "around"] (spSInit K CS) := by
  refine F.ok scSInit (fun vs H Q E h => ?_) (fun cdv A outer s H vs Q E hr h => ?_)
  · obtain ⟨p, dx, pa, vn, vp, nd, ar, rfl, _⟩ := h
    rfl
  · obtain ⟨p, dx, pa, vn, vp, nd, ar, rfl, hp, hn, hrun, ha, aok, alen, dlen, q⟩ := h
    have nd := scSInit.nd
    have body : PSs (cxOf CX0 P w K mg base nSInit "Statement.__init__" (defScope sSInit) f cdv A outer s H E).nox (defBody sSInit) _ := pss_cons (ps_fld (pv 0) (pe_ix ix_tup (pv 1) pe_int (fun _ _ => rfl)) rfl)
      (pss_cons (ps_fld (pv 0) (pe_ix ix_tup (pv 1) pe_int (fun _ _ => rfl)) rfl)
      (pss_cons (ps_fld (pv 0) (pe_ix ix_tup (pv 1) pe_int (fun _ _ => rfl)) rfl)
      (pss_cons (ps_fld (pv 0) (pe_ix ix_tup (pv 1) pe_int (fun _ _ => rfl)) rfl)
      (pss_cons (ps_fld (pv 0) (pv 2) rfl)
      (pss_cons (ps_fld (pv 0) (pe_lc (own := [("at", 4), ("outer", 5)]) (g := gTup K 2 (gCons (gName 4) (gCons (gName 5) gNil))) rfl nd (pi_enumT (by rfl) henum (pa_cons (pv 3) pa_nil)) (blkOk_by (N := nSInit) (sc := defScope sSInit) (by decide +kernel))
          (fun _ _ _ _ _ => pg_tup rfl (pgs_cons (pg_name (i := 4) nd rfl (.inl rfl)) (pgs_cons (pg_name (i := 5) nd rfl (.inl rfl)) pgs_nil))) (fun _ _ _ _ _ => pts_one (pt_cmpR op_eq (pe_ix (r := rIxT K) ix_tup (pv 5) pe_int (fun _ _ => rfl)) pe_str (nomark _))) (fun _ _ _ _ _ => pe_op op_add (pv 4) pe_int)) rfl)
      (pss_cons (ps_fld (pv 0) (pe_lc (own := [("outer", 5)]) (g := gName 5) rfl nd (pi_tup (pv 3)) (blkOk_by (N := nSInit) (sc := defScope sSInit) (by decide +kernel))
          (fun _ _ _ _ _ => pg_name (i := 5) nd rfl (.inl rfl)) (fun _ _ _ _ _ => pts_one (pt_cmpR op_eq (pe_ix (r := rIxT K) ix_tup (pv 5) pe_int (fun _ _ => rfl)) pe_str (nomark _))) (fun _ _ _ _ _ => pe_slice (show SlR _ (rSlT K) from sl_tup) (pv 5) (po_some pe_int) (po_some pe_int))) rfl)
      (pss_cons (ps_fld (pv 0) (pe_callTy call_tuple_of (by rfl) B.tuple PyProof.Rows.boot_tuple (pa_cons (pe_lc (own := [("outer", 5)]) (g := gName 5) rfl nd (pi_tup (pv 3)) (blkOk_by (N := nSInit) (sc := defScope sSInit) (by decide +kernel))
          (fun _ _ _ _ _ => pg_name (i := 5) nd rfl (.inl rfl)) (fun _ _ _ _ _ => pts_one (pt_cmpR op_eq (pe_ix (r := rIxT K) ix_tup (pv 5) pe_int (fun _ _ => rfl)) pe_str (nomark _))) (fun _ _ _ _ _ => pe_ix (r := rIxT K) ix_tup (pv 5) pe_int (fun _ _ => rfl))) pa_nil)) rfl)
      (pss_one (ps_fld (pv 0) (pe_lc2 (own := [("outer", 5), ("difference", 6)]) (vs1 := [6]) (g := gName 5) (g1 := gName 6) (tt1 := tYes) rfl nd (pi_tup (pv 3)) (blkOk_by (N := nSInit) (sc := defScope sSInit) (by decide +kernel)) (by decide)
          (fun _ _ _ _ _ => pg_name (i := 5) nd rfl (.inl rfl)) (fun _ _ _ _ _ => pts_one (pt_cmpR op_eq (pe_ix (r := rIxT K) ix_tup (pv 5) pe_int (fun _ _ => rfl)) pe_str (nomark _)))
          (fun _ _ _ _ _ => pi_tupK (K := K) rfl (pe_ix (r := rIxT K) ix_tup (pv 5) pe_int (fun _ _ => rfl))) (fun _ _ _ _ _ => pg_name (i := 6) nd rfl (.inl rfl)) (fun _ _ _ _ _ => pts_nil) (fun _ _ _ _ _ => pv 6)) rfl)))))))))
    refine ⟨_, body, ?_⟩
    have noP : NoRow (.ins CS dx []) := ⟨(fun _ z => nomatch z), (fun _ _ z => nomatch z), (fun _ z => nomatch z), (fun _ _ z => nomatch z)⟩
    have notb : ∀ fs ps, HO.ins CS dx fs ≠ .tbl ps := fun fs ps z => nomatch z
    obtain ⟨qn, ast, ars, k', l', st, rs, tg, x3, xst, xrs, rfl, rfl, hq, _⟩ := run_dp hn hrun
    obtain ⟨xa, hpa, hAa⟩ : ∃ xa, SqT K H pa xa ∧ DpAll K H xa ar := by
      cases ha with
      | tup h1 h2 => exact ⟨_, h1, h2⟩
    have hla := dps_len hAa
    have big : (400000 : Nat) ≤ sizeLine := by decide
    -- label, stamp, target, reads, path
    refine ⟨_, rfl, qn, _, _, _, rfl, rfl, hq, atI_nat (j := 1) rfl, _, rfl, p, CS, dx, _, rfl, hp, X.cl, X.n1, by decide, ?_⟩
    obtain ⟨w1, p1⟩ := stf (fs' := putF "label" (.str l') []) (SameB.of (SameG.refl H)) hp
    have l1 := len_putF "label" (V.str l') []
    generalize upd H p (.ins CS dx (putF "label" (.str l') [])) = H1 at w1 p1 ⊢
    generalize putF "label" (V.str l') [] = f1 at p1 l1 ⊢
    refine ⟨_, rfl, qn, _, _, _, rfl, rfl, sqT_o w1 hp noP hq, atI_nat (j := 2) rfl, _, rfl, p, CS, dx, _, rfl, p1, X.cl, X.n2, by simp only [List.length_nil] at l1; omega, ?_⟩
    obtain ⟨w2, p2⟩ := stf (fs' := putF "stamp" (.ref ast) f1) w1 p1
    have l2 := len_putF "stamp" (V.ref ast) f1
    generalize upd H1 p (.ins CS dx (putF "stamp" (.ref ast) f1)) = H2 at w2 p2 ⊢
    generalize putF "stamp" (V.ref ast) f1 = f2 at p2 l2 ⊢
    simp only [List.length_nil] at l1
    refine ⟨_, rfl, qn, _, _, _, rfl, rfl, sqT_o w2 hp noP hq, atI_nat (j := 3) rfl, _, rfl, p, CS, dx, _, rfl, p2, X.cl, X.n3, by omega, ?_⟩
    obtain ⟨w3, p3⟩ := stf (fs' := putF "target" x3 f2) w2 p2
    have l3 := len_putF "target" x3 f2
    generalize upd H2 p (.ins CS dx (putF "target" x3 f2)) = H3 at w3 p3 ⊢
    generalize putF "target" x3 f2 = f3 at p3 l3 ⊢
    refine ⟨_, rfl, qn, _, _, _, rfl, rfl, sqT_o w3 hp noP hq, atI_nat (j := 4) rfl, _, rfl, p, CS, dx, _, rfl, p3, X.cl, X.n4, by omega, ?_⟩
    obtain ⟨w4, p4⟩ := stf (fs' := putF "reads" (.ref ars) f3) w3 p3
    have l4 := len_putF "reads" (V.ref ars) f3
    generalize upd H3 p (.ins CS dx (putF "reads" (.ref ars) f3)) = H4 at w4 p4 ⊢
    generalize putF "reads" (V.ref ars) f3 = f4 at p4 l4 ⊢
    refine ⟨_, rfl, _, rfl, p, CS, dx, _, rfl, p4, X.cl, X.n5, by omega, ?_⟩
    obtain ⟨w5, p5⟩ := stf (fs' := putF "path" vp f4) w4 p4
    have l5 := len_putF "path" vp f4
    generalize upd H4 p (.ins CS dx (putF "path" vp f4)) = H5 at w5 p5 ⊢
    generalize putF "path" vp f4 = f5 at p5 l5 ⊢
    -- levels
    have hpa5 := sqT_o w5 hp noP hpa
    have hAa5 := dps_o w5 hp noP _ _ hAa
    refine ⟨_, rfl, pa, _, rfl, hpa5, fun D nD => ?_⟩
    refine lc_it walk_enumT (fun i H' => Same H5 H' ∧ ∃ acc, H' D = some (.lst acc) ∧ acc.length ≤ i) ⟨same_upd nD, [], upd_same, Nat.le_refl _⟩ (fun i H' _ h => sqT_g (SameG.of h.1) hpa5) ?_ ?_
    · rintro i x H6 H7 hi ⟨s6, acc, hD, la⟩ ⟨tp, x1, x2, rfl, ntp, rfl, ea, eb⟩
      obtain rfl := Option.some.inj ea
      obtain ⟨d, ed, dd⟩ := dps_at (dps_g (SameG.of s6) _ _ hAa5) eb
      have hi' : i < ar.length := hla ▸ hi
      obtain ⟨k, y, r, rfl, hk⟩ := around_at aok (List.mem_of_getElem? ed)
      have s7 := same_upd (o := HO.tup [V.int (i : Nat), x2]) ntp
      have dd7 := dp_g (SameG.of s7) _ _ dd
      cases dd7 with
      | @tup q zs _ hq7 hB =>
      obtain ⟨z0, zr, rfl, b0, hBr⟩ := dps_cons hB
      cases b0
      refine ⟨tp, _, rfl, SqT.of upd_same, rfl, _, _, rfl, _, _, rfl, rfl, rfl, ?_⟩
      have hD7 := s7 _ _ hD
      have s67 := s6.trans s7
      generalize upd H6 tp (.tup [V.int (i : Nat), V.ref q]) = H8 at hq7 hD7 s67 ⊢
      refine ⟨_, rfl, q, _, _, _, rfl, rfl, hq7, atI_nat (j := 0) rfl, rfl, _, rfl, ?_⟩
      rw [str_dec]
      by_cases kl : k = "loop"
      · rw [decide_eq_true kl]
        refine iteT ⟨_, rfl, _, _, rfl, rfl, acc, hD7, by omega, s67.later nD, _, upd_same, ?_⟩
        rw [List.length_append]
        exact Nat.succ_le_succ la
      · rw [decide_eq_false kl]
        exact iteF ⟨s67, acc, hD7, Nat.le_succ_of_le la⟩
    rintro H6 ⟨s6, _, _, _⟩
    refine ⟨_, rfl, p, CS, dx, _, rfl, s6 _ _ p5, X.cl, X.n6, by omega, ?_⟩
    obtain ⟨w6, p6⟩ := stf (fs' := putF "levels" (.ref D) f5) (w5.trans (SameB.of (SameG.of s6))) (s6 _ _ p5)
    have l6 := len_putF "levels" (V.ref D) f5
    generalize upd H6 p (.ins CS dx (putF "levels" (.ref D) f5)) = H7 at w6 p6 ⊢
    generalize putF "levels" (V.ref D) f5 = f6 at p6 l6 ⊢
    -- loops
    have hpa7 := sqT_o w6 hp noP hpa
    have hAa7 := dps_o w6 hp noP _ _ hAa
    refine ⟨_, rfl, pa, rfl, ⟨_, hpa7⟩, fun D2 nD2 => ?_⟩
    refine lc_tup (K := K) (a := pa) (xs := xa) (fun i H' => Same H7 H' ∧ ∃ acc, H' D2 = some (.lst acc) ∧ acc.length ≤ i) ⟨same_upd nD2, [], upd_same, Nat.le_refl _⟩ (fun i H' _ h => sqT_g (SameG.of h.1) hpa7) ?_ ?_
    · rintro i x H8 hx ⟨s8, acc, hD, la⟩
      obtain ⟨d, ed, dd⟩ := dps_at (dps_g (SameG.of s8) _ _ hAa7) hx
      have hi' : i < ar.length := (List.getElem?_eq_some_iff.mp ed).1
      obtain ⟨k, y, r, rfl, hk⟩ := around_at aok (List.mem_of_getElem? ed)
      cases dd with
      | @tup q zs _ hq8 hB =>
      obtain ⟨z0, zr, rfl, b0, hBr⟩ := dps_cons hB
      cases b0
      refine ⟨rfl, _, rfl, q, _, _, _, rfl, rfl, hq8, atI_nat (j := 0) rfl, rfl, _, rfl, ?_⟩
      rw [str_dec]
      by_cases kl : k = "loop"
      · rw [decide_eq_true kl]
        refine iteT ⟨_, rfl, _, rfl, _, rfl, q, _, rfl, hq8, ?_, fun t nt => ?_⟩
        · intro z
          have h1 := z.1
          have h2 : HT.sIx (V.str k :: zr).length 0 (some (1 : Int)) = min 1 (V.str k :: zr).length := HT.sIx_nat _ _ 1
          rw [h2, List.length_cons] at h1
          omega
        · have s9 := same_upd (o := HO.tup (cutV (V.str k :: zr) (some 1) (some 5))) nt
          refine ⟨acc, s9 _ _ hD, by omega, (s8.trans s9).later nD2, _, upd_same, ?_⟩
          rw [List.length_append]
          exact Nat.succ_le_succ la
      · rw [decide_eq_false kl]
        exact iteF ⟨s8, acc, hD, Nat.le_succ_of_le la⟩
    rintro H8 ⟨s8, _, _, _⟩
    refine ⟨_, rfl, p, CS, dx, _, rfl, s8 _ _ p6, X.cl, X.n7, by omega, ?_⟩
    obtain ⟨w7, p7⟩ := stf (fs' := putF "loops" (.ref D2) f6) (w6.trans (SameB.of (SameG.of s8))) (s8 _ _ p6)
    have l7 := len_putF "loops" (V.ref D2) f6
    generalize upd H8 p (.ins CS dx (putF "loops" (.ref D2) f6)) = H9 at w7 p7 ⊢
    generalize putF "loops" (V.ref D2) f6 = f7 at p7 l7 ⊢
    -- counters
    have hpa9 := sqT_o w7 hp noP hpa
    have hAa9 := dps_o w7 hp noP _ _ hAa
    refine ⟨_, rfl, pa, rfl, ⟨_, hpa9⟩, fun D3 nD3 => ?_⟩
    refine lc_tup (K := K) (a := pa) (xs := xa) (fun i H' => Same H9 H' ∧ ∃ acc, H' D3 = some (.lst acc) ∧ acc.length ≤ i) ⟨same_upd nD3, [], upd_same, Nat.le_refl _⟩ (fun i H' _ h => sqT_g (SameG.of h.1) hpa9) ?_ ?_
    · rintro i x H10 hx ⟨s10, acc, hD, la⟩
      obtain ⟨d, ed, dd⟩ := dps_at (dps_g (SameG.of s10) _ _ hAa9) hx
      have hi' : i < ar.length := (List.getElem?_eq_some_iff.mp ed).1
      obtain ⟨k, y, r, rfl, hk⟩ := around_at aok (List.mem_of_getElem? ed)
      cases dd with
      | @tup q zs _ hq10 hB =>
      obtain ⟨z0, zr, rfl, b0, hBr⟩ := dps_cons hB
      obtain ⟨z1, zr, rfl, b1, hBr⟩ := dps_cons hBr
      cases b0
      refine ⟨rfl, _, rfl, q, _, _, _, rfl, rfl, hq10, atI_nat (j := 0) rfl, rfl, _, rfl, ?_⟩
      rw [str_dec]
      by_cases kl : k = "loop"
      · rw [decide_eq_true kl]
        refine iteT ⟨_, rfl, q, _, _, _, rfl, rfl, hq10, atI_nat (j := 1) rfl, acc, hD, by omega, s10.later nD3, _, upd_same, ?_⟩
        rw [List.length_append]
        exact Nat.succ_le_succ la
      · rw [decide_eq_false kl]
        exact iteF ⟨s10, acc, hD, Nat.le_succ_of_le la⟩
    rintro H10 ⟨s10, acc3, hD3, la3⟩
    refine ⟨D3, acc3, rfl, .inl ⟨SqL.of hD3, fun tc ntc => ?_⟩⟩
    have s11 := same_upd (o := HO.tup acc3) ntc
    have s1011 := s10.trans s11
    refine ⟨_, rfl, p, CS, dx, _, rfl, s1011 _ _ p7, X.cl, X.n8, by omega, ?_⟩
    obtain ⟨w8, p8⟩ := stf (fs' := putF "counters" (.ref tc) f7) (w7.trans (SameB.of (SameG.of s1011))) (s1011 _ _ p7)
    have l8 := len_putF "counters" (V.ref tc) f7
    generalize upd (upd H10 tc (.tup acc3)) p (.ins CS dx (putF "counters" (.ref tc) f7)) = H11 at w8 p8 ⊢
    generalize putF "counters" (V.ref tc) f7 = f8 at p8 l8 ⊢
    -- tests
    have hpa11 := sqT_o w8 hp noP hpa
    have hAa11 := dps_o w8 hp noP _ _ hAa
    refine ⟨_, rfl, pa, rfl, ⟨_, hpa11⟩, fun D4 nD4 => ?_⟩
    refine lc2_tup (K := K) (a := pa) (xs := xa) (fun i H' => Same H11 H' ∧ ∃ acc, H' D4 = some (.lst acc) ∧ acc.length ≤ i * 1000) ⟨same_upd nD4, [], upd_same, Nat.le_refl _⟩ (fun i H' _ h => sqT_g (SameG.of h.1) hpa11) ?_ ?_
    · rintro i x H12 hx ⟨s12, acc0, hD0, la0⟩
      obtain ⟨d, ed, dd⟩ := dps_at (dps_g (SameG.of s12) _ _ hAa11) hx
      have hi' : i < ar.length := (List.getElem?_eq_some_iff.mp ed).1
      have hm := List.mem_of_getElem? ed
      have dl := dlen d hm
      obtain ⟨k, y, r, rfl, hk⟩ := around_at aok hm
      cases dd with
      | @tup q zs _ hq12 hB =>
      obtain ⟨z0, zr, rfl, b0, hBr⟩ := dps_cons hB
      obtain ⟨z1, zr, rfl, b1, hBr⟩ := dps_cons hBr
      cases b0
      refine ⟨rfl, _, rfl, q, _, _, _, rfl, rfl, hq12, atI_nat (j := 0) rfl, rfl, _, rfl, ?_⟩
      rw [str_dec]
      by_cases kt : k = "test"
      · rw [decide_eq_true kt]
        obtain ⟨ds, rfl⟩ : ∃ ds, y = .tuple ds := by
          have := hk kt
          cases y with
          | tuple ds => exact ⟨ds, rfl⟩
          | _ => exact nomatch this
        have dl' : ds.length ≤ 1000 := dl
        cases b1 with
        | @tup pd xd _ hpd hAd =>
        have hld := dps_len hAd
        refine iteT ⟨_, rfl, q, _, _, _, rfl, rfl, hq12, atI_nat (j := 1) rfl, pd, rfl, ⟨_, hpd⟩, ?_⟩
        refine lci_tup (K := K) (tt := tYes) (g := gName 6) (te := tVar 6) (D := D4) (vs := [6]) (a := pd) (xs := xd) (fun j H' => (Same H11 H' ∧ ∀ b o, b ≠ D4 → H12 b = some o → H' b = some o) ∧ ∃ acc, H' D4 = some (.lst acc) ∧ acc.length ≤ i * 1000 + j) ⟨⟨s12, fun b o _ e => e⟩, acc0, hD0, la0⟩ (fun j H' _ h => ?_) ?_ ?_
        · rcases hpd with (h1 | ⟨o, h1⟩) | h1
          · exact .inl (.inl (h.1.2 _ _ (fun z => by rw [z, hD0] at h1; exact nomatch h1) h1))
          · exact .inl (.inr ⟨o, h.1.2 _ _ (fun z => by rw [z, hD0] at h1; exact nomatch h1) h1⟩)
          · exact .inr h1
        · rintro j z H13 hz ⟨⟨s13, k13⟩, acc, hD, la⟩
          have hj : j < xd.length := (List.getElem?_eq_some_iff.mp hz).1
          refine ⟨rfl, ?_⟩
          unfold tYes
          refine iteT ⟨_, rfl, acc, hD, by omega, ⟨s13.later nD4, fun b o n e => ?_⟩, _, upd_same, ?_⟩
          · rw [upd_ne n]
            exact k13 b o n e
          · rw [List.length_append]
            exact Nat.succ_le_succ la
        · rintro H13 ⟨⟨s13, _⟩, acc, hD, la⟩
          exact ⟨s13, acc, hD, by omega⟩
      · rw [decide_eq_false kt]
        exact iteF ⟨s12, acc0, hD0, by omega⟩
    rintro H12 ⟨s12, _, _, _⟩
    refine ⟨_, rfl, p, CS, dx, _, rfl, s12 _ _ p8, X.cl, X.n9, by omega, ?_⟩
    exact q _ (stf (fs' := putF "tests" (.ref D4) f8) (w8.trans (SameB.of (SameG.of s12))) (s12 _ _ p8)).1
end
end Kd
set_option maxHeartbeats 4000000
/-! statements -/
namespace Kd
open PySem L2 Lo
def tripOk (t : PyData) : Bool := match t with
  | .tuple [_, .tuple _, .tuple a] => aroundOk a && decide (a.length ≤ 200) && a.all fun d => decide ((items ((items d).getD 1 .none)).length ≤ 1000)
  | _ => false
section
variable {P : Program} {w : World} {K : PySem.W.Frag} {mg : Str → Option Value} {base : Heap}
def spStatements (K : PySem.W.Frag) (CN : Addr) : Sp := fun vs H Q _ => ∃ (p : Addr) (vb : V) (r : RD) (bs : List PyData), vs = [.ref p] ∧ NestAt K CN H p vb r (.tuple bs) ∧ shape 41 bs = true ∧ hashables bs = true ∧ (runsIn 41 bs [] []).length ≤ 1000 ∧ (∀ d ∈ nodesOf (.tuple bs), RunP d) ∧ (runsIn 41 bs [] []).all tripOk = true ∧
  ∀ (H' : Hp) (l : Addr) (xs : List V), SameG H H' → H' l = some (.lst xs) → xs.length = (runsIn 41 bs [] []).length → Q (.ref l) H'
abbrev nStatements : List Str := ["nest", "node", "path", "around"]
theorem scStatements : FnScope nStatements ["nest"] (defScope sStatements) := ⟨rfl, rfl, rfl, by decide +kernel, rfl, by decide +kernel, by decide +kernel⟩
theorem ok_statements {CN CS f fI fS fR : Addr} {fd fdS fdR : FuncData} (F : Fun K "statements" "statements" sStatements f fd) (X : NTxt K mg CN fI) (Y : STxt K mg CS fS)
    (GR : FnOk P w K mg base CX0 42 fR fdR ["body", "path", "around"] (spRunsIn K 41)) (kR : PySem.W.keepIn K (.ref fR) = true) (bR : Binds K fdR ["body", "path", "around"] []) (gR : mg "_runs_in" = some (.ref fR))
    (GS : FnOk P w K mg base CX0 1 fS fdS ["self", "node", "path", "around"] (spSInit K CS)) (bS : Binds K fdS ["self", "node", "path", "around"] []) : FnOk P w K mg base CX0 43 f fd ["nest"] (spStatements K CN) := by
  refine F.ok scStatements (fun vs H Q E h => ?_) (fun cdv A outer s H vs Q E hr h => ?_)
  · obtain ⟨p, vb, r, bs, rfl, _⟩ := h
    rfl
  · obtain ⟨p, vb, r, bs, rfl, hN, shp, hash, few, runs, tok, q⟩ := h
    have nd := scStatements.nd
    obtain ⟨dx, vz, vg, vk, rd, ld, ad, ys, zs, fA, h1, h2, h3, h4, h5, h6, h7, h8⟩ := hN.ob
    refine ⟨_, pss_one (ps_ret (pe_lc (own := [("node", 1), ("path", 2), ("around", 3)]) (g := gTup K 3 (gCons (gName 1) (gCons (gName 2) (gCons (gName 3) gNil)))) (tt := tYes) rfl nd (pi_list (pe_call GR hr (by rfl) gR kR bR .nil pass0 (pa_cons (pe_fld (pv 0) rfl) (pa_cons (pe_tup pa_nil) (pa_cons (pe_tup pa_nil) pa_nil))))) (blkOk_by (N := nStatements) (sc := defScope sStatements) (by decide +kernel))
        (fun _ _ _ _ _ => pg_tup rfl (pgs_cons (pg_name (i := 1) nd rfl (.inl rfl)) (pgs_cons (pg_name (i := 2) nd rfl (.inl rfl)) (pgs_cons (pg_name (i := 3) nd rfl (.inl rfl)) pgs_nil)))) (fun _ _ _ _ _ => pts_nil) (fun _ _ _ _ _ => pe_make Y.make GS (hr.mono (by decide)) (by rfl) Y.mg bS .nil pass0 (pa_cons (pv 1) (pa_cons (pv 2) (pa_cons (pv 3) pa_nil)))))), ?_⟩
    refine ⟨_, rfl, p, CN, dx, _, _, rfl, h1, X.cl, X.n4, nf_body, Nat.zero_le _, fun t1 nt1 => ⟨Nat.zero_le _, fun t2 nt2 => ?_⟩⟩
    have s3 := same_upd (o := HO.tup []) nt1
    have ht1 := upd_same (H := H) (a := t1) (o := HO.tup [])
    generalize upd H t1 (.tup []) = H2a at s3 ht1 nt2 ⊢
    have s4 := same_upd (o := HO.tup []) nt2
    have ht2 := upd_same (H := H2a) (a := t2) (o := HO.tup [])
    have ht1' := s4 _ _ ht1
    generalize upd H2a t2 (.tup []) = H2b at s4 ht2 ht1' ⊢
    have u3 := SameG.of (s3.trans s4)
    refine ⟨vb, .ref t1, .ref t2, bs, [], [], rfl, dp_g u3 _ _ hN.bd, .tup (SqT.of ht1') .nil, .tup (SqT.of ht2) .nil, shp, by decide, hash, rfl, rfl, by decide, by decide, few, fun H3 l xs s5 nl hl dz => ?_⟩
    have lz := dps_len dz
    have u4 := u3.trans (SameG.of s5)
    have big : (2000 : Nat) ≤ sizeLine := by decide
    refine ⟨l, rfl, ⟨_, SqL.of hl⟩, fun D nD => ?_⟩
    refine lc_list (K := K) (a := l) (xs := xs) (fun j H' => SameG H3 H' ∧ ∃ acc, H' D = some (.lst acc) ∧ acc.length = j) ⟨SameG.of (same_upd nD), [], upd_same, rfl⟩ (fun j H' _ h => sqL_g h.1 (SqL.of hl)) ?_ ?_
    · rintro j v H4 hj ⟨s6, acc, hD, lacc⟩
      have hjl := (List.getElem?_eq_some_iff.mp hj).1
      obtain ⟨t, et, dt⟩ := dps_at (dps_g s6 _ _ dz) hj
      have hm := List.mem_of_getElem? et
      have tk := List.all_eq_true.mp tok t hm
      match t, tk with
      | .tuple [nd', .tuple p', .tuple a'], tk =>
        have tk' : (aroundOk a' && decide (a'.length ≤ 200) && a'.all fun d => decide ((items ((items d).getD 1 .none)).length ≤ 1000)) = true := tk
        simp only [Bool.and_eq_true, decide_eq_true_eq, List.all_eq_true] at tk'
        have hrun : RunP nd' := runs nd' (List.mem_map.mpr ⟨_, hm, rfl⟩)
        obtain ⟨qq, v1, v2, v3, rfl, hq, d1, d2, d3⟩ := dp_three dt
        obtain ⟨pa, rfl⟩ : ∃ pa, v3 = .ref pa := by
          cases d3 with
          | @tup pa _ _ _ _ => exact ⟨pa, rfl⟩
        refine ⟨qq, _, rfl, hq, rfl, _, _, rfl, _, _, rfl, _, _, rfl, rfl, rfl, ?_⟩
        unfold tYes
        refine iteT ?_
        refine ⟨_, rfl, _, rfl, _, rfl, fun x dx' nx ndx ne => ?_⟩
        have k1 : Same H4 (upd (upd H4 dx' (.own x)) x (.ins CS dx' [])) := fun b o e => by
          rw [upd_ne (ne_of_none e nx), upd_ne (ne_of_none e ndx)]
          exact e
        refine ⟨x, dx', pa, v1, v2, nd', a', rfl, upd_same, dp_g (SameG.of k1) _ _ d1, hrun, dp_g (SameG.of k1) _ _ d3, tk'.1.1, tk'.1.2, tk'.2, fun H' k2 => ⟨rfl, acc, ?_, by omega, ?_, _, upd_same, ?_⟩⟩
        · exact k2.keep _ _ (fun z => by
            injection z with z
            rw [← z, nx] at hD
            exact nomatch hD) (k1 _ _ hD) fun ps z => nomatch z
        · have hD' : H' D = some (.lst acc) := k2.keep _ _ (fun z => by
            injection z with z
            rw [← z, nx] at hD
            exact nomatch hD) (k1 _ _ hD) fun ps z => nomatch z
          refine ⟨fun b o e n => ?_, fun T hT => ?_⟩
          · have e4 := s6.keep b o e n
            rw [upd_ne (ne_of_none e nD)]
            exact k2.keep _ _ (fun z => by
              injection z with z
              rw [← z, nx] at e4
              exact nomatch e4) (k1 _ _ e4) n
          · have hT' := k2.tab T ((SameG.of k1).tab T (s6.tab T hT))
            exact tab_upd hT' (tab_ne hT' hD' fun ps z => nomatch z)
        · rw [List.length_append, lacc]
          rfl
    rintro H4 ⟨s6, acc, hD, lacc⟩
    exact q H4 D acc (u4.trans s6) hD (by rw [lacc, lz])
end
end Kd
/-! _law_number, _law_take, _law_pick -/
namespace Kd
open PySem L2 Lo
theorem fmod_in {i m : Int} (h : 0 < m) : 0 ≤ i.fmod m ∧ i.fmod m < m := by
  rw [Int.fmod_eq_emod_of_nonneg i (by omega)]
  exact ⟨Int.emod_nonneg _ (by omega), Int.emod_lt_of_pos _ h⟩
theorem dpInts {K : PySem.W.Frag} {H : Hp} : ∀ ns : List Int, DpAll K H (ns.map V.int) (ns.map PyData.int)
  | [] => .nil
  | n :: ns => .cons (.int n) (dpInts ns)
theorem eqv_nil (ns : List Int) : PyData.eqv (.list (ns.map PyData.int)) (.list []) = decide (ns = []) := by
  cases ns with
  | nil => rfl
  | cons n ns => exact (decide_eq_false (fun z => nomatch z)).symm
/-- int(e), e an int -/
theorem call_intI {X : Cx} : CallR X (.type "int") (fun xs H Q => ∃ i, xs = [.int i] ∧ Q (.int i) H) := fun pins s σ H xs us Q I r ⟨i, e, q⟩ => call_int1 pins s σ H xs us Q I r (.inl ⟨i, e, q⟩)
/-- the script at s -/
def Scr (K : PySem.W.Frag) (H : Hp) (s : Addr) : Prop := ∃ ns : List Int, SqL K H s (ns.map V.int) ∧ ns.length ≤ 63
section
variable {P : Program} {w : World} {K : PySem.W.Frag} {mg : Str → Option Value} {base : Heap}
/-! ### _law_number -/
def spLNumber (K : PySem.W.Frag) : Sp := fun vs H Q _ => ∃ (s : Addr) (i : Int), vs = [.ref s, .int i] ∧ Scr K H s ∧ ∀ H' k, Same H H' → 0 ≤ k → k < 2147483647 → Q (.int k) H'
abbrev nLNumber : List Str := ["script", "index", "cell", "blend"]
theorem scLNumber : FnScope nLNumber ["script", "index"] (defScope sLNumber) := ⟨rfl, rfl, rfl, by decide +kernel, rfl, by decide +kernel, by decide +kernel⟩
theorem ok_lnumber {f : Addr} {fd : FuncData} (F : Fun K "_law_number" "_law_number" sLNumber f fd) (T : Blt mg) (habs : mg "abs" = none) : FnOk P w K mg base CX0 1 f fd ["script", "index"] (spLNumber K) := by
  refine F.ok scLNumber (fun vs H Q E h => ?_) (fun cdv A outer s H vs Q E hr h => ?_)
  · obtain ⟨s, i, rfl, _⟩ := h
    rfl
  · obtain ⟨s, i, rfl, ⟨ns, hS, hlen⟩, q⟩ := h
    have nd := scLNumber.nd
    refine ⟨_, pss_cons (ps_if (pt_cmpR (op_eqD hr.units) (pv 0) (pe_lst pa_nil) (nomark _)) (pss_one (ps_ret (pe_callTy call_intI (by rfl) T.int PyProof.Rows.boot_int (pa_cons (pe_op op_modN (pe_op op_add (pe_op op_mul (pv 1) pe_int) pe_int) pe_int) pa_nil)))) pss_nil)
      (C8.pss_cut (ps_set (i := 2) nd rfl (.inl rfl) (pe_ix ix_list (pv 0) (pe_op op_modN (pv 1) (pe_callB call_len_seq (by rfl) T.len PySem.boot_len (pa_cons (pv 0) pa_nil))) (fun _ _ => rfl)))
      (C8.pss_cut (ps_if (pt_cmpR op_ge (pe_callB call_abs (by rfl) habs PyProof.Rows.boot_abs (pa_cons (pv 2) pa_nil)) (pe_op op_pow pe_int pe_int) (nomark _)) (pss_one (ps_set (i := 2) nd rfl (.inl rfl) (pe_op op_modN (pv 2) (pe_op op_pow pe_int pe_int)))) pss_nil)
      (pss_cons (ps_set (i := 3) nd rfl (.inl rfl) (pe_op op_modN (pe_op op_add (pe_op op_mul (pe_op op_add (pv 2) (pe_op op_mul pe_int (pv 1))) pe_int) (pe_op op_mul pe_int (pe_callB call_len_seq (by rfl) T.len PySem.boot_len (pa_cons (pv 0) pa_nil)))) pe_int))
      (pss_one (ps_ret (pe_callTy call_intI (by rfl) T.int PyProof.Rows.boot_int (pa_cons (pe_op op_modN (pe_op op_add (pe_op op_mul (pe_op op_modN (pe_op op_mul (pv 3) pe_int) pe_int) pe_int) (pv 1)) pe_int) pa_nil))))))), ?_⟩
    have small : ∀ {a b : Int}, b ≠ 0 → (fun (_ j : Int) => j ≠ 0) a b := fun h => h
    refine ⟨_, rfl, Nat.zero_le _, fun e0 ne0 => ?_⟩
    have s1 := same_upd (o := HO.lst []) ne0
    refine ⟨_, _, .lst (s1.seq hS) (dpInts ns), .lst (SqL.of upd_same) .nil, PySem.W.ke_shaped_ints ns, PySem.W.ke_shaped_ints [], _, rfl, ?_⟩
    rw [eqv_nil]
    have fin : ∀ (H' : Hp) (x : Int), Same H H' → Q (.int (x.fmod 2147483587)) H' := fun H' x s' => by
      obtain ⟨h0, h1⟩ := fmod_in (i := x) (m := 2147483587) (by decide)
      exact q H' _ s' h0 (by omega)
    have fin2 : ∀ (H' : Hp) (x : Int), Same H H' → Q (.int (x.fmod 2147483647)) H' := fun H' x s' => by
      obtain ⟨h0, h1⟩ := fmod_in (i := x) (m := 2147483647) (by decide)
      exact q H' _ s' h0 h1
    by_cases hn : ns = []
    · rw [decide_eq_true hn]
      exact iteT ⟨_, rfl, _, _, rfl, rfl, .inr ⟨by decide, by decide⟩, _, _, rfl, rfl, _, _, rfl, rfl, (by decide : (2147483647 : Int) ≠ 0), _, rfl, fin2 _ _ s1⟩
    rw [decide_eq_false hn]
    refine iteF ?_
    have hpos : (0 : Int) < (ns.length : Nat) := by
      have := List.length_pos_iff.mpr hn
      omega
    have elen : (((ns.map V.int).length : Nat) : Int) = (ns.length : Nat) := by rw [List.length_map]
    obtain ⟨j, ej, hj⟩ : ∃ j : Nat, i.fmod (ns.length : Nat) = (j : Nat) ∧ j < ns.length := by
      obtain ⟨h0, h1⟩ := fmod_in (i := i) hpos
      exact ⟨(i.fmod (ns.length : Nat)).toNat, by omega, by omega⟩
    have hcell : (ns.map V.int)[j]? = some (.int ns[j]) := by
      rw [List.getElem?_map, List.getElem?_eq_getElem hj]
      rfl
    generalize upd H e0 (.lst []) = H1 at *
    have hS1 := s1.seq hS
    refine ⟨fun σ' H' => ∃ c : Int, σ' = [some (.ref s), some (.int i), some (.int c), none] ∧ H' = H1, ?_, ?_⟩
    · refine ⟨_, rfl, _, rfl, _, rfl, s, _, rfl, .inl hS1, _, _, rfl, rfl, ?_, s, _, (j : Nat), .int ns[j], rfl, ?_, hS1, atI_nat hcell, _, rfl, rfl⟩
      · rw [elen]
        omega
      · rw [elen]
        show V.int (i.fmod (ns.length : Nat)) = _
        rw [ej]
    rintro σ1 H' ⟨c, rfl, rfl⟩
    refine ⟨fun σ' H'' => ∃ c : Int, σ' = [some (.ref s), some (.int i), some (.int c), none] ∧ H'' = H', ?_, ?_⟩
    · have p18 : (10 : Int) ^ Int.toNat 18 ≠ 0 := by decide
      exact ⟨_, rfl, _, rfl, _, _, rfl, rfl, ⟨by decide, by decide, by decide⟩, _, _, rfl, rfl, _, rfl, ite2 (fun _ => ⟨_, rfl, _, _, rfl, rfl, ⟨by decide, by decide, by decide⟩, _, _, rfl, rfl, p18, _, rfl, rfl⟩) (fun _ => ⟨c, rfl, rfl⟩)⟩
    rintro σ2 H'' ⟨c2, rfl, rfl⟩
    refine ⟨_, rfl, _, rfl, _, _, rfl, rfl, .inl ⟨by decide, by decide⟩, _, _, rfl, rfl, _, _, rfl, rfl, .inr ⟨by decide, by decide⟩, ?_⟩
    refine ⟨_, rfl, s, _, rfl, .inl hS1, _, _, rfl, rfl, .inl ⟨by decide, by decide⟩, _, _, rfl, rfl, _, _, rfl, rfl, (by decide : (2147483647 : Int) ≠ 0), ?_⟩
    refine ⟨_, rfl, _, _, rfl, rfl, .inr ⟨by decide, by decide⟩, _, _, rfl, rfl, (by decide : (2147483629 : Int) ≠ 0), _, _, rfl, rfl, .inr ⟨by decide, by decide⟩, ?_⟩
    exact ⟨_, rfl, _, _, rfl, rfl, _, _, rfl, rfl, (by decide : (2147483587 : Int) ≠ 0), _, rfl, fin _ _ s1⟩
end
/-- xs[i] as what is read for xs[i] += e, i not negative -/
def rGetL (K : PySem.W.Frag) : V → V → Hp → VK → Prop := fun x y H Q => ∃ p xs i v, x = .ref p ∧ y = .int i ∧ 0 ≤ i ∧ SqL K H p xs ∧ atI xs i = some v ∧ Q v H
theorem get_list {X : Cx} : PGet X (rGetL X.K) := by
  intro pins s σ H x y v u Q I rx ry h
  obtain ⟨p, xs, i, z, rfl, rfl, h0, hq, he, q⟩ := h
  cases rx
  obtain ⟨t, rfl⟩ := ry
  obtain ⟨its, r, pl, hz⟩ := I.list hq
  obtain ⟨j, h1, h2, h3, h4, h5⟩ := atI_get he
  obtain ⟨w, ew, rw'⟩ := r.get h2
  have hl := r.length
  have hn := line63
  have fin : EP X pins σ Q w s := ⟨z, H, I, rw', q⟩
  have hj : i.toNat = j := by
    rw [seqIndex_of h0 h5] at h1
    exact Option.some.inj h1
  exact wpAny_getItem_list pl.isList h0 (by omega) (by rw [hj]; simpa using ew) fin
/-- all but d is kept -/
def SameD (d : Addr) (H H' : Hp) : Prop := ∀ b o, b ≠ d → H b = some o → H' b = some o
theorem SameD.trans {d : Addr} {H H' H'' : Hp} (h : SameD d H H') (k : SameD d H' H'') : SameD d H H'' := fun b o n e => k b o n (h b o n e)
theorem SameD.of {d : Addr} {H H' : Hp} (s : Same H H') : SameD d H H' := fun b o _ e => s b o e
theorem sqL_d {K : PySem.W.Frag} {d : Addr} {H H' : Hp} {a : Addr} {xs : List V} (s : SameD d H H') (ne : a ≠ d) (h : SqL K H a xs) : SqL K H' a xs := by
  rcases h with (h | ⟨o, h⟩) | h
  · exact .inl (.inl (s _ _ ne h))
  · exact .inl (.inr ⟨o, s _ _ ne h⟩)
  · exact .inr h
/-- the draws: the script and how many -/
def DrawAt (K : PySem.W.Frag) (H : Hp) (d s : Addr) (n : Int) : Prop := H d = some (.lst [.ref s, .int n]) ∧ Scr K H s ∧ (s ≠ d ∨ ∃ ns : List Int, ns.length ≤ 63 ∧ ∀ H' : Hp, SqL K H' s (ns.map V.int))
section
variable {P : Program} {w : World} {K : PySem.W.Frag} {mg : Str → Option Value} {base : Heap}
def spLTake (K : PySem.W.Frag) : Sp := fun vs H Q _ => ∃ (d s : Addr) (n many : Int), vs = [.ref d, .int many] ∧ DrawAt K H d s n ∧ 1 ≤ many ∧ ∀ H' k n', SameD d H H' → DrawAt K H' d s n' → 0 ≤ k → k < many → Q (.int k) H'
theorem scLTake : FnScope ["draw", "many"] ["draw", "many"] (defScope sLTake) := ⟨rfl, rfl, rfl, by decide +kernel, rfl, by decide +kernel, by decide +kernel⟩
theorem ok_ltake {f fN : Addr} {fd fdN : FuncData} (F : Fun K "_law_take" "_law_take" sLTake f fd) (T : Blt mg) (GN : FnOk P w K mg base CX0 1 fN fdN ["script", "index"] (spLNumber K)) (kN : PySem.W.keepIn K (.ref fN) = true) (bN : Binds K fdN ["script", "index"] []) (gN : mg "_law_number" = some (.ref fN)) :
    FnOk P w K mg base CX0 2 f fd ["draw", "many"] (spLTake K) := by
  refine F.ok scLTake (fun vs H Q E h => ?_) (fun cdv A outer s0 H vs Q E hr h => ?_)
  · obtain ⟨d, s, n, m, rfl, _⟩ := h
    rfl
  · obtain ⟨d, s, n, m, rfl, ⟨hd, ⟨ns, hs, hl⟩, nsd⟩, hm, q⟩ := h
    obtain ⟨ns, hl, hall⟩ : ∃ ns : List Int, ns.length ≤ 63 ∧ ∀ H', SameD d H H' → SqL K H' s (ns.map V.int) := by
      rcases nsd with k | ⟨ms, k1, k2⟩
      · exact ⟨ns, hl, fun H' s' => sqL_d s' k hs⟩
      · exact ⟨ms, k1, fun H' _ => k2 H'⟩
    refine ⟨_, pss_cons (ps_augS (pv 0) pe_int get_list pe_int ip_add set_list)
      (pss_one (ps_ret (pe_op op_modN (pe_callTy call_intI (by rfl) T.int PyProof.Rows.boot_int (pa_cons (pe_call GN hr (by rfl) gN kN bN .nil pass0 (pa_cons (pe_ix ix_list (pv 0) pe_int (fun _ _ => rfl)) (pa_cons (pe_callTy call_intI (by rfl) T.int PyProof.Rows.boot_int (pa_cons (pe_ix ix_list (pv 0) pe_int (fun _ _ => rfl)) pa_nil)) pa_nil))) pa_nil)) (pv 1)))), ?_⟩
    refine ⟨_, rfl, d, _, 1, .int n, rfl, rfl, by decide, SqL.of hd, atI_nat (j := 1) rfl, n, 1, rfl, rfl, d, _, 1, 1, rfl, rfl, hd, rfl, ?_⟩
    have e1 := upd_same (H := H) (a := d) (o := HO.lst [V.ref s, V.int (n + 1)])
    have sD : SameD d H (upd H d (.lst [V.ref s, V.int (n + 1)])) := fun b o h e => (upd_ne h).trans e
    have hs1 := hall _ sD
    refine ⟨_, rfl, d, _, 0, .ref s, rfl, rfl, SqL.of e1, atI_nat (j := 0) rfl, _, rfl, d, _, 1, .int (n + 1), rfl, rfl, SqL.of e1, atI_nat (j := 1) rfl, n + 1, rfl, s, n + 1, rfl, ⟨ns, hs1, hl⟩, fun H2 k s2 k0 k1 => ?_⟩
    obtain ⟨h0, h1⟩ := fmod_in (i := k) (m := m) (by omega)
    exact ⟨k, rfl, _, rfl, _, _, rfl, rfl, (by omega : m ≠ 0), q H2 _ (n + 1) (sD.trans (SameD.of s2)) ⟨s2 _ _ e1, ⟨ns, s2.seq hs1, hl⟩, nsd⟩ h0 h1⟩
/-! ### _law_pick: an item of a list or tuple -/
def spLPick (K : PySem.W.Frag) : Sp := fun vs H Q _ => ∃ (d s a : Addr) (n : Int) (xs : List V), vs = [.ref d, .ref a] ∧ DrawAt K H d s n ∧ a ≠ d ∧ (SqL K H a xs ∨ SqT K H a xs) ∧ xs ≠ [] ∧ ∀ H' n' x, SameD d H H' → DrawAt K H' d s n' → x ∈ xs → Q x H'
theorem scLPick : FnScope ["draw", "items"] ["draw", "items"] (defScope sLPick) := ⟨rfl, rfl, rfl, by decide +kernel, rfl, by decide +kernel, by decide +kernel⟩
theorem ok_lpick {f fT : Addr} {fd fdT : FuncData} (F : Fun K "_law_pick" "_law_pick" sLPick f fd) (T : Blt mg) (GT : FnOk P w K mg base CX0 2 fT fdT ["draw", "many"] (spLTake K)) (kT : PySem.W.keepIn K (.ref fT) = true) (bT : Binds K fdT ["draw", "many"] []) (gT : mg "_law_take" = some (.ref fT)) :
    FnOk P w K mg base CX0 3 f fd ["draw", "items"] (spLPick K) := by
  refine F.ok scLPick (fun vs H Q E h => ?_) (fun cdv A outer s0 H vs Q E hr h => ?_)
  · obtain ⟨d, s, a, n, xs, rfl, _⟩ := h
    rfl
  · obtain ⟨d, s, a, n, xs, rfl, hd, ad, ha, hne, q⟩ := h
    refine ⟨_, pss_one (ps_ret (pe_ix ix_seq (pv 1) (pe_call GT hr (by rfl) gT kT bT .nil pass0 (pa_cons (pv 0) (pa_cons (pe_callB call_len_seq (by rfl) T.len PySem.boot_len (pa_cons (pv 1) pa_nil)) pa_nil))) (fun _ _ => rfl))), ?_⟩
    have hpos := List.length_pos_iff.mpr hne
    refine ⟨_, rfl, _, rfl, _, rfl, a, xs, rfl, ha, d, s, n, _, rfl, hd, by omega, fun H' k n' sD hd' k0 k1 => ?_⟩
    obtain ⟨j, rfl⟩ : ∃ j : Nat, k = (j : Nat) := ⟨k.toNat, by omega⟩
    have hj : j < xs.length := by omega
    have e := List.getElem?_eq_getElem hj
    rcases ha with ha | ha
    · exact .inl ⟨a, xs, _, _, rfl, rfl, sqL_d sD ad ha, atI_nat e, q H' n' _ sD hd' (List.getElem_mem hj)⟩
    · refine .inr (.inl ⟨a, xs, _, _, rfl, rfl, ?_, atI_nat e, q H' n' _ sD hd' (List.getElem_mem hj)⟩)
      rcases ha with (h | ⟨o, h⟩) | h
      · exact .inl (.inl (sD _ _ ad h))
      · exact .inl (.inr ⟨o, sD _ _ ad h⟩)
      · exact .inr h
end
end Kd
/-! check_body at its depth; _runs_in at its depth -/
namespace Kd
open PySem L2 Lo
section
variable {P : Program} {w : World} {K : PySem.W.Frag} {mg : Str → Option Value} {base : Heap}
theorem ok_body {C TN TA TT cT fC fL fT fU fB fD fR fN fA fF : Addr} {fdC fdL fdT fdU fdB fdD fdR fdN fdA fdF : FuncData} {t1 t2 : Nat} (FL : Fun K "_check_loop" "_check_loop" sCheckLoop fL fdL) (FT : FunC K "_check_test" "_check_test" sCheckTest fT fdT cT) (FB : Fun K "check_body" "check_body" sCheckBody fB fdB) (B : Blt mg) (hall : mg "all" = none) (TB : GxR.TabB base mg cT TT)
    (h12 : mg "MOST_ROW" = some (.int 12 t1)) (h39 : mg "MOST_AROUND" = some (.int 39 t2))
    (GC : FnOk P w K mg base (L2.CX P w) 1 fC fdC ["fits"] (spCheck C)) (kC : PySem.W.keepIn K (.ref fC) = true) (bC : Binds K fdC ["fits"] []) (gC : mg "check" = some (.ref fC))
    (GD : FnOk P w K mg base (L2.CX P w) 2 fD fdD ["row"] (spDifferent K C)) (kD : PySem.W.keepIn K (.ref fD) = true) (bD : Binds K fdD ["row"] []) (gD : mg "check_different" = some (.ref fD))
    (GR : FnOk P w K mg base CX0 1 fR fdR ["thing", "least", "most"] (spIsRow K)) (kR : PySem.W.keepIn K (.ref fR) = true) (bR : Binds K fdR ["thing", "least", "most"] []) (gR : mg "is_row" = some (.ref fR))
    (GN : FnOk P w K mg base CX0 2 fN fdN ["thing"] (spNestName K TN)) (kN : PySem.W.keepIn K (.ref fN) = true) (bN : Binds K fdN ["thing"] []) (gN : mg "is_nest_name" = some (.ref fN))
    (GA : FnOk P w K mg base CX0 5 fA fdA ["thing", "scope", "most"] (spAreAtoms K TA)) (kA : PySem.W.keepIn K (.ref fA) = true) (bA : Binds K fdA ["thing", "scope", "most"] []) (gA : mg "are_atoms" = some (.ref fA))
    (GF : FnOk P w K mg base CX0 3 fF fdF ["thing", "scope"] (spIsDiff K)) (kF : PySem.W.keepIn K (.ref fF) = true) (bF : Binds K fdF ["thing", "scope"] []) (gF : mg "is_difference_of" = some (.ref fF))
    (GU : FnOk P w K mg base (L2.CX P w) 6 fU fdU ["node", "scope"] (spRun K C TN TA)) (kU : PySem.W.keepIn K (.ref fU) = true) (bU : Binds K fdU ["node", "scope"] []) (gU : mg "_check_run" = some (.ref fU))
    (kL : PySem.W.keepIn K (.ref fL) = true) (bL : Binds K fdL ["node", "scope", "around"] []) (gL : mg "_check_loop" = some (.ref fL))
    (kT : PySem.W.keepIn K (.ref fT) = true) (bT : Binds K fdT ["node", "scope", "around"] []) (gT : mg "_check_test" = some (.ref fT))
    (kB : PySem.W.keepIn K (.ref fB) = true) (bB : Binds K fdB ["body", "scope", "around"] []) (gB : mg "check_body" = some (.ref fB)) :
    ∀ n : Nat, FnOk P w K mg base (L2.CX P w) (2 * n + 7) fB fdB ["body", "scope", "around"] (spBody K C TN TA TT n)
  | 0 => by
    refine FB.okX scBody (fun vs H Q E h => ?_) (fun cdv A outer s H vs Q E hr h => ?_)
    · obtain ⟨v, d, sc, ns, rfl, _⟩ := h
      rfl
    · obtain ⟨v, d, sc, ns, rfl, hd, sm, hs, nsl, tN, tA, tT, n0, fin⟩ := h
      exact absurd n0 (Nat.lt_irrefl 0)
  | n + 1 => by
    have ih := ok_body FL FT FB B hall TB h12 h39 GC kC bC gC GD kD bD gD GR kR bR gR GN kN bN gN GA kA bA gA GF kF bF gF GU kU bU gU kL bL gL kT bT gT kB bB gB n
    exact ok_bodyS n (2 * n + 8) (by omega) FB B h39 GC kC bC gC (ok_loop n (2 * n + 7) (by omega) FL B h12 GC kC bC gC GD kD bD gD GR kR bR gR GN kN bN gN GA kA bA gA ih kB bB gB) kL bL gL
      (ok_test n (2 * n + 7) (by omega) FT B hall TB h12 GC kC bC gC GD kD bD gD GR kR bR gR GF kF bF gF ih kB bB gB) kT bT gT GU kU bU gU
theorem ok_runsin {f : Addr} {fd : FuncData} (F : Fun K "_runs_in" "_runs_in" sRunsIn f fd) (henum : mg "enumerate" = none) (bF : Binds K fd ["body", "path", "around"] []) (gF : mg "_runs_in" = some (.ref f)) :
    ∀ n : Nat, FnOk P w K mg base CX0 (n + 1) f fd ["body", "path", "around"] (spRunsIn K n)
  | 0 => by
    refine F.ok scRunsIn (fun vs H Q E h => ?_) (fun cdv A outer s H vs Q E hr h => ?_)
    · obtain ⟨vb, vp, va, body, path, ar, rfl, _⟩ := h
      rfl
    · obtain ⟨vb, vp, va, bd, path, ar, rfl, hb, hp, ha, shp, n0, _⟩ := h
      exact absurd n0 (Nat.lt_irrefl 0)
  | n + 1 => ok_runsInS n F henum bF gF (ok_runsin F henum bF gF n)
end
end Kd
/-! written data: an expression's data, computed -/
namespace Kd
open PySem L2 Lo
/-- the heap but for A -/
noncomputable def hide (A : Addr → Prop) (H : Hp) : Hp := fun a => by
  classical exact if A a then none else H a
def Out (A : Addr → Prop) (H : Hp) : Prop := ∀ a, A a → H a ≠ none
theorem hide_out {A : Addr → Prop} {H : Hp} {a : Addr} (h : ¬ A a) : hide A H a = H a := by
  unfold hide
  rw [if_neg h]
theorem hide_in {A : Addr → Prop} {H : Hp} {a : Addr} (h : A a) : hide A H a = none := by
  unfold hide
  rw [if_pos h]
theorem hide_sub {A : Addr → Prop} {H : Hp} : Same (hide A H) H := fun b o e => by
  by_cases h : A b
  · rw [hide_in h] at e
    exact nomatch e
  · rw [hide_out h] at e
    exact e
theorem same_hide {A : Addr → Prop} {H H' : Hp} (s : Same H H') : Same (hide A H) (hide A H') := fun b o e => by
  by_cases h : A b
  · rw [hide_in h] at e
    exact nomatch e
  · rw [hide_out h] at e ⊢
    exact s _ _ e
theorem Out.same {A : Addr → Prop} {H H' : Hp} (s : Same H H') (h : Out A H) : Out A H' := fun a q z => h a q (s.free z)
theorem Out.new {A : Addr → Prop} {H : Hp} {p : Addr} (h : Out A H) (np : H p = none) : ¬ A p := fun q => h p q np
theorem hide_new {A : Addr → Prop} {H : Hp} {p : Addr} {o : HO} (h : Out A H) (np : H p = none) : hide A (upd H p o) p = some o := by
  rw [hide_out (h.new np)]
  exact upd_same
theorem hide_no {H : Hp} : hide (fun _ => False) H = H := funext fun a => hide_out fun h => h
theorem out_no {H : Hp} : Out (fun _ => False) H := fun a h => h.elim
/-- a premise on slots and heap, then the data, apart from A -/
def tData (K : PySem.W.Frag) (Γ : L2.St → Hp → Prop) (d : PyData) : TE := fun σ H Q => ∃ A, Out A H ∧ Γ σ (hide A H) ∧ ∀ H' v, Same H H' → Dp K (hide A H') v d → Q v H'
def tDatas (K : PySem.W.Frag) (Γ : L2.St → Hp → Prop) (ds : List PyData) : TA := fun σ H Q => ∃ A, Out A H ∧ Γ σ (hide A H) ∧ ∀ H' vs, Same H H' → DpAll K (hide A H') vs ds → Q vs H'
theorem tell {K : PySem.W.Frag} {Γ : L2.St → Hp → Prop} {d : PyData} {σ : L2.St} {H : Hp} {Q : VK} (g : Γ σ H) (q : ∀ H' v, Same H H' → Dp K H' v d → Q v H') : tData K Γ d σ H Q :=
  ⟨fun _ => False, out_no, by rw [hide_no]; exact g, fun H' v s d => q H' v s (by rw [hide_no] at d; exact d)⟩
/-- names with slots and data -/
abbrev Nm := List (Str × Nat × PyData)
def EnvOk (K : PySem.W.Frag) (Ln : Nat) (ρ : Nm) : L2.St → Hp → Prop := fun σ H => Ln ≤ σ.length ∧ ∀ p ∈ ρ, ∃ v, σ[p.2.1]? = some (some v) ∧ Dp K H v p.2.2
theorem EnvOk.same {K : PySem.W.Frag} {Ln : Nat} {ρ : Nm} {σ : L2.St} {H H' : Hp} (s : Same H H') (h : EnvOk K Ln ρ σ H) : EnvOk K Ln ρ σ H' := ⟨h.1, fun p m => by
  obtain ⟨v, e, d⟩ := h.2 p m
  exact ⟨v, e, dp_g (SameG.of s) _ _ d⟩⟩
theorem PE.imp {X : Cx} {e : Expr} {t t' : TE} (h : PE X e t) (k : ∀ σ H Q, t' σ H Q → t σ H Q) : PE X e t' := ⟨fun pins s σ H Q I q => h.run pins s σ H Q I (k σ H Q q)⟩
theorem PA.imp {X : Cx} {e : List Expr} {t t' : TA} (h : PA X e t) (k : ∀ σ H Q, t' σ H Q → t σ H Q) : PA X e t' := ⟨fun pos pins s σ H Q I q => h.run pos pins s σ H Q I (k σ H Q q)⟩
def konst : Const → Option PyData
  | .int i => some (.int i)
  | .str x => some (.str x)
  | .none => some .none
  | .bool b => some (.bool b)
  | _ => none
def minus : Expr → Option PyData
  | .Constant (.int i) _ _ => some (.int (-i))
  | _ => none
def timesK : Expr → Option Int
  | .Constant (.int k) _ _ => if 2 ≤ k ∧ k ≤ 1000 then some k else none
  | _ => none
def repD (d : PyData) (k : Int) : Option PyData := match d with
  | .tuple ds => if ds ≠ [] ∧ ds.length ≤ 1000 then some (.tuple (List.replicate k.toNat ds).flatten) else none
  | _ => none
def catD (a b : PyData) : Option PyData := match a, b with
  | .tuple ds, .tuple es => if ds ≠ [] ∧ es ≠ [] ∧ ds.length + es.length ≤ 1000 then some (.tuple (ds ++ es)) else none
  | _, _ => none
def allE (f : Expr → Option PyData) : List Expr → Option (List PyData)
  | [] => some []
  | e :: es => (f e).bind fun d => (allE f es).bind fun ds => some (d :: ds)
def litE (ρ : Nm) : Nat → Expr → Option PyData
  | 0, _ => none
  | n + 1, .Constant c _ _ => konst c
  | n + 1, .UnaryOp .USub e _ => minus e
  | n + 1, .Tuple es _ _ => (allE (litE ρ n) es).bind fun ds => if ds.length ≤ 1000 then some (.tuple ds) else none
  | n + 1, .List es _ => (allE (litE ρ n) es).bind fun ds => if ds.length ≤ 1000 then some (.list ds) else none
  | n + 1, .Name x _ => (ρ.lookup x).map (·.2)
  | n + 1, .BinOp a .Mult b _ => (litE ρ n a).bind fun d => (timesK b).bind fun k => repD d k
  | n + 1, .BinOp a .Add b _ => (litE ρ n a).bind fun d => (litE ρ n b).bind fun e => catD d e
  | _, _ => none
theorem dps_rep {K : PySem.W.Frag} {H : Hp} {xs : List V} {ds : List PyData} (h : DpAll K H xs ds) : ∀ m : Nat, DpAll K H (List.replicate m xs).flatten (List.replicate m ds).flatten
  | 0 => .nil
  | m + 1 => by
    rw [List.replicate_succ, List.replicate_succ, List.flatten_cons, List.flatten_cons]
    exact dps_app h (dps_rep h m)
theorem sz1000 {n : Nat} (h : n ≤ 1000) : n ≤ sizeLine := Nat.le_of_lt (small1000 h)
section
variable {Ln : Nat} {X : Cx} {K : PySem.W.Frag} {Γ : L2.St → Hp → Prop}
theorem no_star {n : Nat} {ρ : Nm} {e : Expr} {d : PyData} (h : litE ρ n e = some d) (es : List Expr) : starEach (e :: es) X.env = (false, eval e X.env) :: starEach es X.env := by
  cases n with
  | zero => exact nomatch h
  | succ n =>
    cases e <;> first | rfl | exact nomatch h
theorem pa_data {e : Expr} {es : List Expr} {d : PyData} {ds : List PyData} (hΓ : ∀ σ H H', Same H H' → Γ σ H → Γ σ H') (he : PE X e (tData K Γ d)) (hs : PA X es (tDatas K Γ ds)) (st : starEach (e :: es) X.env = (false, eval e X.env) :: starEach es X.env := by rfl) : PA X (e :: es) (tDatas K Γ (d :: ds)) :=
  PA.imp (pa_cons he hs st) fun σ H Q ⟨A, o, g, q⟩ => ⟨A, o, g, fun H1 v s1 d1 => ⟨A, o.same s1, hΓ _ _ _ (same_hide s1) g, fun H2 vs s2 d2 => q H2 _ (s1.trans s2) (.cons (dp_g (SameG.of (same_hide s2)) _ _ d1) d2)⟩⟩
theorem pa_data0 : PA X [] (tDatas K Γ []) := PA.imp pa_nil fun σ H Q ⟨A, o, g, q⟩ => q H [] (Same.refl H) .nil
theorem pe_tupD {es : List Expr} {k : Nat} {pos : Pos} {ds : List PyData} (h : PA X es (tDatas K Γ ds)) (hl : ds.length ≤ 1000) : PE X (.Tuple es k pos) (tData K Γ (.tuple ds)) :=
  PE.imp (pe_tup h) fun σ H Q ⟨A, o, g, q⟩ => ⟨A, o, g, fun H1 vs s1 d1 => ⟨by rw [← dps_len d1] at hl; exact sz1000 hl, fun p np => q _ _ (s1.trans (same_upd np)) (.tup (SqT.of (hide_new (o.same s1) np)) (dps_g (SameG.of (same_hide (same_upd np))) _ _ d1))⟩⟩
theorem pe_lstD {es : List Expr} {pos : Pos} {ds : List PyData} (h : PA X es (tDatas K Γ ds)) (hl : ds.length ≤ 1000) : PE X (.List es pos) (tData K Γ (.list ds)) :=
  PE.imp (pe_lst h) fun σ H Q ⟨A, o, g, q⟩ => ⟨A, o, g, fun H1 vs s1 d1 => ⟨by rw [← dps_len d1] at hl; exact sz1000 hl, fun p np => q _ _ (s1.trans (same_upd np)) (.lst (SqL.of (hide_new (o.same s1) np)) (dps_g (SameG.of (same_hide (same_upd np))) _ _ d1))⟩⟩
theorem pe_repD {a b : Expr} {pos : Pos} {d e : PyData} {k : Int} (hK : X.K = K) (ha : PE X a (tData K Γ d)) (hb : timesK b = some k) (h : repD d k = some e) : PE X (.BinOp a .Mult b pos) (tData K Γ e) := by
  subst hK
  cases d with
  | tuple ds =>
    rw [repD] at h
    split at h
    · rename_i hc
      obtain rfl := Option.some.inj h
      cases b with
      | Constant c j p =>
        cases c with
        | int i =>
          rw [timesK] at hb
          split at hb
          · rename_i hk
            obtain rfl := Option.some.inj hb
            refine PE.imp (pe_op op_repT ha pe_int) fun σ H Q ⟨A, o, g, q⟩ => ⟨A, o, g, fun H1 v s1 d1 => ?_⟩
            cases d1 with
            | @tup p xs _ hp hA =>
            have hl := dps_len hA
            refine ⟨p, i, xs, rfl, rfl, sqT_g (SameG.of hide_sub) hp, fun z => ?_, hk.1, hk.2, by rw [hl]; exact hc.2, fun p' np => q _ _ (s1.trans (same_upd np)) (.tup (SqT.of (hide_new (o.same s1) np)) (dps_rep (dps_g (SameG.of (same_hide (same_upd np))) _ _ hA) _))⟩
            rw [z] at hl
            exact hc.1 (List.length_eq_zero_iff.mp hl.symm)
          · exact nomatch hb
        | _ => exact nomatch hb
      | _ => exact nomatch hb
    · exact nomatch h
  | _ => exact nomatch h
theorem pe_catD {a b : Expr} {pos : Pos} {d e f : PyData} (hK : X.K = K) (hΓ : ∀ σ H H', Same H H' → Γ σ H → Γ σ H') (ha : PE X a (tData K Γ d)) (hb : PE X b (tData K Γ e)) (h : catD d e = some f) : PE X (.BinOp a .Add b pos) (tData K Γ f) := by
  subst hK
  cases d with
  | tuple ds =>
    cases e with
    | tuple es =>
      rw [catD] at h
      split at h
      · rename_i hc
        obtain rfl := Option.some.inj h
        refine PE.imp (pe_op op_catT ha hb) fun σ H Q ⟨A, o, g, q⟩ => ⟨A, o, g, fun H1 v s1 d1 => ⟨A, o.same s1, hΓ _ _ _ (same_hide s1) g, fun H2 u s2 d2 => ?_⟩⟩
        cases d1 with
        | @tup p xs _ hp hA =>
        cases d2 with
        | @tup p2 ys _ hp2 hB =>
        have hl := dps_len hA
        have hl2 := dps_len hB
        have ne1 : xs ≠ [] := fun z => hc.1 (by rw [z] at hl; exact List.length_eq_zero_iff.mp hl.symm)
        have ne2 : ys ≠ [] := fun z => hc.2.1 (by rw [z] at hl2; exact List.length_eq_zero_iff.mp hl2.symm)
        refine ⟨p, p2, xs, ys, rfl, rfl, sqT_g (SameG.of (hide_sub.trans s2)) hp, sqT_g (SameG.of hide_sub) hp2, ne1, by rw [hl, hl2]; exact sz1000 hc.2.2, fun z => absurd z ne2, fun _ p' np => q _ _ ((s1.trans s2).trans (same_upd np)) (.tup (SqT.of (hide_new (o.same (s1.trans s2)) np)) (dps_app (dps_g (SameG.of (same_hide (s2.trans (same_upd np)))) _ _ hA) (dps_g (SameG.of (same_hide (same_upd np))) _ _ hB)))⟩
      · exact nomatch h
    | _ => exact nomatch h
  | _ => exact nomatch h
theorem pa_all {ρ : Nm} (hΓ : ∀ σ H H', Same H H' → Γ σ H → Γ σ H') {n : Nat} (h : ∀ e d, litE ρ n e = some d → PE X e (tData K Γ d)) : ∀ (es : List Expr) (ds : List PyData), allE (litE ρ n) es = some ds → PA X es (tDatas K Γ ds)
  | [], _, e => by
    obtain rfl := Option.some.inj e
    exact pa_data0
  | e :: es, ds, q => by
    rw [allE] at q
    cases h1 : litE ρ n e with
    | none => rw [h1] at q; exact nomatch q
    | some d =>
      rw [h1, Option.bind_some] at q
      cases h2 : allE (litE ρ n) es with
      | none => rw [h2] at q; exact nomatch q
      | some ds' =>
        rw [h2, Option.bind_some] at q
        obtain rfl := Option.some.inj q
        exact pa_data hΓ (h e d h1) (pa_all hΓ h es ds' h2) (no_star h1 es)
/-- names: their slots are seen -/
def NamesOk (X : Cx) (ρ : Nm) : Prop := ∀ x i d, (x, i, d) ∈ ρ → X.N[i]? = some x ∧ Vis X.env.scope x ∧ (x == ("__debug__" : Str)) = false ∧ (x == ("__classdict__" : Str)) = false
theorem lookup_mem {ρ : Nm} {x : Str} {p : Nat × PyData} (h : ρ.lookup x = some p) : (x, p.1, p.2) ∈ ρ := by
  induction ρ with
  | nil => exact nomatch h
  | cons q ρ ih =>
    obtain ⟨y, r⟩ := q
    rw [List.lookup_cons] at h
    split at h
    · rename_i e
      have : x = y := beq_iff_eq.mp e
      obtain rfl := Option.some.inj h
      rw [this]
      exact List.mem_cons_self
    · exact List.mem_cons_of_mem _ (ih h)
theorem pe_lit {ρ : Nm} (hK : X.K = K) (hN : NamesOk X ρ) : ∀ (n : Nat) (e : Expr) (d : PyData), litE ρ n e = some d → PE X e (tData K (EnvOk K Ln ρ) d)
  | 0, _, _, h => nomatch h
  | n + 1, e, d, h => by
    have ih := pe_lit hK hN n
    have hΓ : ∀ σ H H', Same H H' → EnvOk K Ln ρ σ H → EnvOk K Ln ρ σ H' := fun σ H H' s g => g.same s
    cases e with
    | Constant c j p =>
      have h : konst c = some d := h
      cases c with
      | int i => obtain rfl := Option.some.inj h; exact PE.imp pe_int fun σ H Q ⟨A, o, g, q⟩ => q H _ (Same.refl H) (.int i)
      | str i => obtain rfl := Option.some.inj h; exact PE.imp pe_str fun σ H Q ⟨A, o, g, q⟩ => q H _ (Same.refl H) (.str i)
      | none => obtain rfl := Option.some.inj h; exact PE.imp pe_non fun σ H Q ⟨A, o, g, q⟩ => q H _ (Same.refl H) .non
      | bool b => obtain rfl := Option.some.inj h; exact PE.imp pe_bl fun σ H Q ⟨A, o, g, q⟩ => q H _ (Same.refl H) (.bl b)
      | _ => exact nomatch h
    | UnaryOp op e p =>
      cases op with
      | USub =>
        have h : minus e = some d := h
        cases e with
        | Constant c j p =>
          cases c with
          | int i => obtain rfl := Option.some.inj h; exact PE.imp (pe_un un_neg pe_int) fun σ H Q ⟨A, o, g, q⟩ => ⟨i, rfl, q H _ (Same.refl H) (.int (-i))⟩
          | _ => exact nomatch h
        | _ => exact nomatch h
      | _ => exact nomatch h
    | Tuple es k p =>
      have h : ((allE (litE ρ n) es).bind fun ds => if ds.length ≤ 1000 then some (PyData.tuple ds) else none) = some d := h
      cases h2 : allE (litE ρ n) es with
      | none => rw [h2] at h; exact nomatch h
      | some ds =>
        rw [h2, Option.bind_some] at h
        split at h
        · rename_i hc
          obtain rfl := Option.some.inj h
          exact pe_tupD (pa_all hΓ ih es ds h2) hc
        · exact nomatch h
    | List es p =>
      have h : ((allE (litE ρ n) es).bind fun ds => if ds.length ≤ 1000 then some (PyData.list ds) else none) = some d := h
      cases h2 : allE (litE ρ n) es with
      | none => rw [h2] at h; exact nomatch h
      | some ds =>
        rw [h2, Option.bind_some] at h
        split at h
        · rename_i hc
          obtain rfl := Option.some.inj h
          exact pe_lstD (pa_all hΓ ih es ds h2) hc
        · exact nomatch h
    | Name x p =>
      have h : (ρ.lookup x).map (·.2) = some d := h
      cases h2 : ρ.lookup x with
      | none => rw [h2] at h; exact nomatch h
      | some q =>
        rw [h2, Option.map_some] at h
        obtain rfl := Option.some.inj h
        have m := lookup_mem h2
        obtain ⟨a, b, c, e⟩ := hN _ _ _ m
        refine PE.imp (pe_var a b c e) fun σ H Q ⟨A, o, g, q⟩ => ?_
        obtain ⟨v, ev, dv⟩ := g.2 _ m
        exact ⟨v, ev, q H v (Same.refl H) dv⟩
    | BinOp a op b p =>
      cases op with
      | Mult =>
        have h : ((litE ρ n a).bind fun d => (timesK b).bind fun k => repD d k) = some d := h
        cases h1 : litE ρ n a with
        | none => rw [h1] at h; exact nomatch h
        | some da =>
          rw [h1, Option.bind_some] at h
          cases h2 : timesK b with
          | none => rw [h2] at h; exact nomatch h
          | some k =>
            rw [h2, Option.bind_some] at h
            exact pe_repD hK (ih a da h1) h2 h
      | Add =>
        have h : ((litE ρ n a).bind fun d => (litE ρ n b).bind fun e => catD d e) = some d := h
        cases h1 : litE ρ n a with
        | none => rw [h1] at h; exact nomatch h
        | some da =>
          rw [h1, Option.bind_some] at h
          cases h2 : litE ρ n b with
          | none => rw [h2] at h; exact nomatch h
          | some k =>
            rw [h2, Option.bind_some] at h
            exact pe_catD hK hΓ (ih a da h1) (ih b k h2) h
      | _ => exact nomatch h
    | _ => exact nomatch h
/-- written data: d is found by computing -/
theorem pe_w {ρ : Nm} {e : Expr} {d : PyData} (n : Nat) (hK : X.K = K) (hN : NamesOk X ρ) (h : litE ρ n e = some d) : PE X e (tData K (EnvOk K Ln ρ) d) := pe_lit hK hN n e d h
theorem noNames : NamesOk X [] := fun x i d h => nomatch h
theorem noEnv {σ : L2.St} {H : Hp} : EnvOk K 0 [] σ H := ⟨Nat.zero_le _, fun p h => nomatch h⟩
/-- a row with one thing that is not written data at place n -/
theorem pa_at {ρ : Nm} {es rest : List Expr} {e : Expr} {d : PyData} {ds ds' : List PyData} (m n : Nat) (hK : X.K = K) (hN : NamesOk X ρ) (h : allE (litE ρ m) (es.take n) = some ds) (hd : es.drop n = e :: rest) (he : PE X e (tData K (EnvOk K Ln ρ) d)) (hr : PA X rest (tDatas K (EnvOk K Ln ρ) ds'))
    (st : starEach (e :: rest) X.env = (false, eval e X.env) :: starEach rest X.env := by rfl) : PA X es (tDatas K (EnvOk K Ln ρ) (ds ++ d :: ds')) := by
  have hΓ : ∀ σ H H', Same H H' → EnvOk K Ln ρ σ H → EnvOk K Ln ρ σ H' := fun σ H H' s g => g.same s
  rw [← List.take_append_drop n es, hd]
  generalize es.take n = as at h
  clear hd
  induction as generalizing ds with
  | nil =>
    obtain rfl := Option.some.inj h
    exact pa_data hΓ he hr st
  | cons a as ih =>
    rw [allE] at h
    cases h1 : litE ρ m a with
    | none => rw [h1] at h; exact nomatch h
    | some da =>
      rw [h1, Option.bind_some] at h
      cases h2 : allE (litE ρ m) as with
      | none => rw [h2] at h; exact nomatch h
      | some das =>
        rw [h2, Option.bind_some] at h
        obtain rfl := Option.some.inj h
        exact pa_data hΓ (pe_lit hK hN m a da h1) (ih h2) (no_star h1 _)
theorem pa_w {ρ : Nm} {es : List Expr} {ds : List PyData} (n : Nat) (hK : X.K = K) (hN : NamesOk X ρ) (h : allE (litE ρ n) es = some ds) : PA X es (tDatas K (EnvOk K Ln ρ) ds) := pa_all (fun σ H H' s g => g.same s) (pe_lit hK hN n) es ds h
end
end Kd
/-! comprehensions of written data -/
namespace Kd
open PySem L2 Lo
theorem hide_upd {A : Addr → Prop} {H : Hp} {D : Addr} {o : HO} (h : A D) : hide A (upd H D o) = hide A H := funext fun a => by
  by_cases e : A a
  · rw [hide_in e, hide_in e]
  · have ne : a ≠ D := fun z => e (z ▸ h)
    rw [hide_out e, hide_out e, upd_ne ne]
theorem same_more {A : Addr → Prop} {H H' : Hp} {D : Addr} (s : Same H H') (nD : H D = none) : Same (hide A H) (hide (fun a => A a ∨ a = D) H') := fun b o e => by
  have e1 := hide_sub _ _ e
  have nA : ¬ A b := fun z => by
    rw [hide_in z] at e
    exact nomatch e
  have nb : b ≠ D := fun z => by
    rw [z, nD] at e1
    exact nomatch e1
  rw [hide_out (fun z => z.elim nA nb)]
  exact s _ _ e1
theorem same_less {A : Addr → Prop} {H : Hp} {D : Addr} : Same (hide (fun a => A a ∨ a = D) H) (hide A H) := fun b o e => by
  have nA : ¬ A b := fun z => by
    rw [hide_in (.inl z)] at e
    exact nomatch e
  rw [hide_out nA]
  exact hide_sub _ _ e
section
variable {X : Cx} {K : PySem.W.Frag} {Ln : Nat} {ρ : Nm}
/-- a new list -/
def tNew (K : PySem.W.Frag) (Γ : L2.St → Hp → Prop) (ds : List PyData) : TE := fun σ H Q => ∃ A, Out A H ∧ Γ σ (hide A H) ∧ ∀ H' l xs, Same H H' → H l = none → H' l = some (.lst xs) → DpAll K (hide (fun a => A a ∨ a = l) H') xs ds → Q (.ref l) H'
theorem PE.new {Γ : L2.St → Hp → Prop} {e : Expr} {ds : List PyData} (h : PE X e (tNew K Γ ds)) : PE X e (tData K Γ (.list ds)) := PE.imp h fun σ H Q ⟨A, o, g, q⟩ => ⟨A, o, g, fun H' l xs s nl hl d => q H' _ s (.lst (SqL.of ((hide_out (o.new nl)).trans hl)) (dps_g (SameG.of same_less) _ _ d))⟩
theorem new_tell {Γ : L2.St → Hp → Prop} {ds : List PyData} {σ : L2.St} {H : Hp} {Q : VK} (g : Γ σ H) (q : ∀ H' l xs, Same H H' → H l = none → H' l = some (.lst xs) → DpAll K (hide (fun a => a = l) H') xs ds → Q (.ref l) H') : tNew K Γ ds σ H Q :=
  ⟨fun _ => False, out_no, by rw [hide_no]; exact g, fun H' l xs s nl hl d => q H' l xs s nl hl (by
    have : (fun a => False ∨ a = l) = (fun a => a = l) := funext fun a => propext ⟨fun z => z.resolve_left fun f => f, .inr⟩
    rw [this] at d
    exact d)⟩
/-- the element at one thing -/
def tEach (K : PySem.W.Frag) (Ln : Nat) (ρ : Nm) (x : Str) (slot : Nat) (ds : List PyData) (F : PyData → PyData) : TE := fun σ H Q => ∃ d ∈ ds, tData K (EnvOk K Ln ((x, slot, d) :: ρ)) (F d) σ H Q
theorem pe_each {ds : List PyData} {F : PyData → PyData} {x : Str} {slot : Nat} {elt : Expr} (h : ∀ d ∈ ds, PE X elt (tData K (EnvOk K Ln ((x, slot, d) :: ρ)) (F d))) : PE X elt (tEach K Ln ρ x slot ds F) :=
  ⟨fun pins s σ H Q I ⟨d, m, q⟩ => (h d m).run pins s σ H Q I q⟩
theorem env_each {A : Addr → Prop} {H H1 H' : Hp} {D : Addr} {σ : L2.St} {x : Str} {v : V} {slot : Nat} {d : PyData} (g : EnvOk K Ln ρ σ (hide A H)) (s1 : Same H H1) (nD : H1 D = none) (s2 : Same H1 H') (dv : Dp K (hide A H1) v d) (hns : ∀ p ∈ ρ, p.2.1 ≠ slot) (hsl : slot < Ln) :
    EnvOk K Ln ((x, slot, d) :: ρ) ((σ.set slot none).set slot (some v)) (hide (fun a => A a ∨ a = D) H') := by
  have s12 : Same (hide A H1) (hide (fun a => A a ∨ a = D) H') := same_more s2 nD
  rw [List.set_set]
  refine ⟨by rw [List.length_set]; exact g.1, fun p m => ?_⟩
  rcases List.mem_cons.mp m with rfl | m
  · exact ⟨v, List.getElem?_set_self (Nat.lt_of_lt_of_le hsl g.1), dp_g (SameG.of s12) _ _ dv⟩
  · obtain ⟨u, e, du⟩ := g.2 p m
    exact ⟨u, by rw [List.getElem?_set_ne (hns p m).symm]; exact e, dp_g (SameG.of ((same_hide s1).trans s12)) _ _ du⟩
theorem step_each {A : Addr → Prop} {H1 H' H4 : Hp} {D : Addr} {acc : List V} {v : V} {ds : List PyData} {d : PyData} {i : Nat} (nD : H1 D = none) (s2 : Same H1 H') (s4 : Same H' H4) (hD : H' D = some (.lst acc)) (hl : acc.length = i) (hacc : DpAll K (hide (fun a => A a ∨ a = D) H') acc (ds.take i)) (e : ds[i]? = some d) (hv : Dp K (hide (fun a => A a ∨ a = D) H4) v d) :
    Same H1 (upd H4 D (.lst (acc ++ [v]))) ∧ ∃ acc', (upd H4 D (.lst (acc ++ [v]))) D = some (.lst acc') ∧ acc'.length = i + 1 ∧ DpAll K (hide (fun a => A a ∨ a = D) (upd H4 D (.lst (acc ++ [v])))) acc' (ds.take (i + 1)) := by
  refine ⟨(s2.trans s4).later nD, _, upd_same, by rw [List.length_append, hl]; rfl, ?_⟩
  rw [hide_upd (.inr rfl), List.take_add_one, e]
  exact dps_app (dps_g (SameG.of (same_hide s4)) _ _ hacc) (.cons hv .nil)
/-- [elt for x in iter], iter a list of data -/
theorem pe_lcW {elt iter : Expr} {scope : Scope} {pos px : Pos} {x : Str} {slot : Nat} {ds : List PyData} (F : PyData → PyData) (hK : X.K = K) (hc : X.calm = true) (hN : X.N.Nodup) (ok : BlkOk X.N X.env.scope scope [(x, slot)]) (hi : PE X iter (tData K (EnvOk K Ln ρ) (.list ds)))
    (hg : ∀ (s : Shared) (H : Hp) (C : Addr) (cl : List (Str × Addr)) (fp : List Addr), PG (X.blk s H scope (compEnvC scope cl C X.env) fp) (.Name x px) (gName slot))
    (he : ∀ (s : Shared) (H : Hp) (C : Addr) (cl : List (Str × Addr)) (fp : List Addr), ∀ d ∈ ds, PE (X.blk s H scope (compEnvC scope cl C X.env) fp) elt (tData K (EnvOk K Ln ((x, slot, d) :: ρ)) (F d)))
    (hns : ∀ p ∈ ρ, p.2.1 ≠ slot) (hsl : slot < Ln) (few : ds.length ≤ 1000) (hs : ∀ x, foldedSetIterable iter X.env x = pure x := by intro _; rfl) :
    PE X (.ListComp elt [⟨.Name x px, iter, [], 0⟩] scope pos) (tNew K (EnvOk K Ln ρ) (ds.map F)) := by
  subst hK
  refine PE.imp (pe_lc (te := tEach X.K Ln ρ x slot ds F) hc hN (pi_list hi) ok hg (fun _ _ _ _ _ => pts_nil) (fun s H C cl fp => pe_each (he s H C cl fp)) hs) fun σ H Q ⟨A, o, g, q⟩ => ?_
  refine ⟨A, o, g, fun H1 v s1 d1 => ?_⟩
  cases d1 with
  | @lst p xs _ hp hA =>
  have lxs := dps_len hA
  refine ⟨p, rfl, ⟨xs, sqL_g (SameG.of hide_sub) hp⟩, fun D nD => ?_⟩
  refine lc_list (K := X.K) (a := p) (xs := xs) (te := tEach X.K Ln ρ x slot ds F) (tt := tYes) (g := gName slot) (vs := [slot]) (σ := σ) (fun i H' => Same H1 H' ∧ ∃ acc, H' D = some (.lst acc) ∧ acc.length = i ∧ DpAll X.K (hide (fun a => A a ∨ a = D) H') acc ((ds.map F).take i))
    ⟨same_upd nD, [], upd_same, rfl, .nil⟩ (fun i H' _ ⟨s2, _⟩ => sqL_g (SameG.of (hide_sub.trans s2)) hp) ?_ ?_
  · rintro i y H' hy ⟨s2, acc, hD, hl, hacc⟩
    obtain ⟨d, ed, dd⟩ := dps_at hA hy
    have hm := List.mem_of_getElem? ed
    have hi' : i < ds.length := (List.getElem?_eq_some_iff.mp ed).1
    show ((σ.set slot none).set slot (some y)).set slot none = σ.set slot none ∧ _
    refine ⟨by rw [List.set_set, List.set_set], ?_⟩
    unfold tYes
    refine iteT ⟨d, hm, (fun a => A a ∨ a = D), fun a z => ?_, env_each g s1 nD s2 dd hns hsl, fun H4 v s4 d4 => ⟨acc, s4 _ _ hD, ?_, step_each nD s2 s4 hD hl hacc (by rw [List.getElem?_map, ed]; rfl) d4⟩⟩
    · rcases z with z | rfl
      · exact o.same (s1.trans s2) a z
      · rw [hD]
        exact fun z => nomatch z
    · rw [hl]
      exact small1000 (by omega)
  · rintro H' ⟨s2, acc, hD, hl, hacc⟩
    refine q H' _ acc (s1.trans s2) (s1.free nD) hD ?_
    rw [List.take_of_length_le (by rw [List.length_map, lxs]; exact Nat.le_refl _)] at hacc
    exact hacc
/-- [elt for x in range(k)] -/
theorem pe_lcR {elt : Expr} {scope : Scope} {pos px pr prr pk : Pos} {jk : Nat} {x : Str} {slot : Nat} (k : Nat) (F : PyData → PyData) (hK : X.K = K) (hc : X.calm = true) (hN : X.N.Nodup) (hgr : Gl X "range") (hmr : X.mg "range" = none) (ok : BlkOk X.N X.env.scope scope [(x, slot)])
    (hg : ∀ (s : Shared) (H : Hp) (C : Addr) (cl : List (Str × Addr)) (fp : List Addr), PG (X.blk s H scope (compEnvC scope cl C X.env) fp) (.Name x px) (gName slot))
    (he : ∀ (s : Shared) (H : Hp) (C : Addr) (cl : List (Str × Addr)) (fp : List Addr), ∀ d ∈ (List.range k).map (fun i => PyData.int (i : Nat)), PE (X.blk s H scope (compEnvC scope cl C X.env) fp) elt (tData K (EnvOk K Ln ((x, slot, d) :: ρ)) (F d)))
    (hns : ∀ p ∈ ρ, p.2.1 ≠ slot) (hsl : slot < Ln) (few : k ≤ 1000) (hs : ∀ y, foldedSetIterable (.Call (.Name "range" prr) [.Constant (.int k) jk pk] [] pr) X.env y = pure y := by intro _; rfl) :
    PE X (.ListComp elt [⟨.Name x px, .Call (.Name "range" prr) [.Constant (.int k) jk pk] [] pr, [], 0⟩] scope pos) (tNew K (EnvOk K Ln ρ) (((List.range k).map (fun i => PyData.int (i : Nat))).map F)) := by
  subst hK
  generalize hds : (List.range k).map (fun i => PyData.int (i : Nat)) = ds at he ⊢
  have lds : ds.length = k := by rw [← hds, List.length_map, List.length_range]
  refine PE.imp (pe_lc (te := tEach X.K Ln ρ x slot ds F) hc hN (pi_range1 hgr hmr (pa_cons pe_int pa_nil)) ok hg (fun _ _ _ _ _ => pts_nil) (fun s H C cl fp => pe_each (he s H C cl fp)) hs) fun σ H Q ⟨A, o, g, q⟩ => ?_
  refine ⟨k, rfl, by omega, by omega, fun D nD => ?_⟩
  rw [Int.toNat_natCast]
  refine lc_range (lo := 0) (te := tEach X.K Ln ρ x slot ds F) (tt := tYes) (g := gName slot) (vs := [slot]) (σ := σ) (fun i H' => Same H H' ∧ ∃ acc, H' D = some (.lst acc) ∧ acc.length = i ∧ DpAll X.K (hide (fun a => A a ∨ a = D) H') acc ((ds.map F).take i))
    ⟨same_upd nD, [], upd_same, rfl, .nil⟩ ?_ ?_
  · rintro i H' hi' ⟨s2, acc, hD, hl, hacc⟩
    have ed : ds[i]? = some (.int (i : Nat)) := by
      rw [← hds, List.getElem?_map, List.getElem?_range hi']
      rfl
    have hm := List.mem_of_getElem? ed
    rw [Int.zero_add]
    show ((σ.set slot none).set slot (some (.int (i : Nat)))).set slot none = σ.set slot none ∧ _
    refine ⟨by rw [List.set_set, List.set_set], ?_⟩
    unfold tYes
    refine iteT ⟨_, hm, (fun a => A a ∨ a = D), fun a z => ?_, env_each g (Same.refl H) nD s2 (.int _) hns hsl, fun H4 v s4 d4 => ⟨acc, s4 _ _ hD, ?_, step_each nD s2 s4 hD hl hacc (by rw [List.getElem?_map, ed]; rfl) d4⟩⟩
    · rcases z with z | rfl
      · exact o.same s2 a z
      · rw [hD]
        exact fun z => nomatch z
    · rw [hl]
      exact small1000 (by omega)
  · rintro H' ⟨s2, acc, hD, hl, hacc⟩
    refine q H' _ acc s2 nD hD ?_
    rw [List.take_of_length_le (by rw [List.length_map, lds]; exact Nat.le_refl _)] at hacc
    exact hacc
/-- tuple(e), e a list of data -/
theorem pe_tupOf {Γ : L2.St → Hp → Prop} {e : Expr} {pos pt : Pos} {ds : List PyData} (hK : X.K = K) (hg : Gl X "tuple") (hm : X.mg "tuple" = none) (he : PE X e (tData K Γ (.list ds))) (st : starEach [e] X.env = [(false, eval e X.env)] := by rfl) :
    PE X (.Call (.Name "tuple" pt) [e] [] pos) (tData K Γ (.tuple ds)) := by
  subst hK
  refine PE.imp (pe_callTy call_tuple_of hg hm PyProof.Rows.boot_tuple (pa_cons he pa_nil st) (he := st)) fun σ H Q ⟨A, o, g, q⟩ => ⟨A, o, g, fun H1 v s1 d1 => ?_⟩
  cases d1 with
  | @lst p xs _ hp hA =>
  exact ⟨p, xs, rfl, .inl ⟨sqL_g (SameG.of hide_sub) hp, fun l nl => q _ _ (s1.trans (same_upd nl)) (.tup (SqT.of (hide_new (o.same s1) nl)) (dps_g (SameG.of (same_hide (same_upd nl))) _ _ hA))⟩⟩
/-- list(e), e a tuple of data -/
theorem pe_lstOf {Γ : L2.St → Hp → Prop} {e : Expr} {pos pt : Pos} {ds : List PyData} (hK : X.K = K) (hg : Gl X "list") (hm : X.mg "list" = none) (he : PE X e (tData K Γ (.tuple ds))) (st : starEach [e] X.env = [(false, eval e X.env)] := by rfl) :
    PE X (.Call (.Name "list" pt) [e] [] pos) (tData K Γ (.list ds)) := by
  subst hK
  refine PE.imp (pe_callTy call_list_of hg hm PyProof.Rows.boot_list (pa_cons he pa_nil st) (he := st)) fun σ H Q ⟨A, o, g, q⟩ => ⟨A, o, g, fun H1 v s1 d1 => ?_⟩
  cases d1 with
  | @tup p xs _ hp hA =>
  exact ⟨p, xs, rfl, .inr (sqT_g (SameG.of hide_sub) hp), fun l nl => q _ _ (s1.trans (same_upd nl)) (.lst (SqL.of (hide_new (o.same s1) nl)) (dps_g (SameG.of (same_hide (same_upd nl))) _ _ hA))⟩
end
end Kd
set_option maxHeartbeats 4000000
/-! the wrong atoms, accesses and nodes -/
namespace Kd
open PySem L2 Lo
def badAtomsD : List PyData := [.tuple [.str "n"], .tuple [.str "n", .int 1, .int 2], .list [.str "n", .int 1], .tuple [.str "n", .bool true], .tuple [.str "n", .str "1"], .tuple [.str "n", .int 10000], .tuple [.str "n", .int (-10000)], .tuple [.str "x", .int 0], .tuple [.str "", .int 0], .tuple [.none, .int 0], .tuple [.int 0, .int 0], .str "n", .int 3, .none, .tuple [.str "N", .int 0], .tuple [.str "n", .none]]
def badAccD : List PyData := [.tuple [.str "a"], .tuple [.str "a", .list [.tuple [.str "n", .int 0]]], .list [.str "a", .tuple []], .tuple [.str "A", .tuple []], .tuple [.str "up", .tuple []], .tuple [.str "a", .tuple [.str "n", .int 0]], .tuple [.str "a", .tuple (List.replicate 5 (items (.tuple [.tuple [.str "n", .int 0]]))).flatten], .tuple [.int 3, .tuple []], .none, .tuple [.str "abcdefghijklm", .tuple []], .tuple [.str "", .tuple []], .tuple [.str "a", .none], .tuple [.str "2a", .tuple []], .tuple [.str "a b", .tuple []]]
def runD : PyData := .tuple [.str "run", .str "f", .tuple [], .tuple [.str "a", .tuple []], .tuple []]
def lowsD : PyData := .tuple [.tuple [.str "0", .int 0]]
def highsD : PyData := .tuple [.tuple [.str "n", .int 0]]
def foundD : List PyData := [.tuple [], .none, .str "run", .list [.str "run", .str "f", .tuple [], .tuple [.str "a", .tuple []], .tuple []], .tuple [.str "walk", .str "f", .tuple [], .tuple [.str "a", .tuple []], .tuple []], .tuple [.str "run", .str "f", .tuple [], .tuple [.str "a", .tuple []]], .tuple (items (runD) ++ items (.tuple [.tuple []])), .tuple [.str "run", .str "F", .tuple [], .tuple [.str "a", .tuple []], .tuple []], .tuple [.str "run", .str "f", .list [], .tuple [.str "a", .tuple []], .tuple []], .tuple [.str "run", .str "f", .tuple [], .tuple [.str "a", .tuple []], .list []], .tuple [.str "run", .str "f", .tuple (List.replicate 9 (items (.tuple [.tuple [.str "n", .int 0]]))).flatten, .tuple [.str "a", .tuple []], .tuple []], .tuple [.str "run", .str "f", .tuple [], .tuple [.str "a", .tuple []], .tuple (List.replicate 7 (items (.tuple [.tuple [.str "b", .tuple []]]))).flatten], .tuple [.str "loop", .str "i", lowsD, highsD, .bool false], .tuple [.str "loop", .str "i", lowsD, highsD, .int 0, .tuple [runD]], .tuple [.str "loop", .str "i", lowsD, highsD, .none, .tuple [runD]], .tuple [.str "loop", .str "i", lowsD, highsD, .bool false, .tuple []], .tuple [.str "loop", .str "i", lowsD, highsD, .bool false, .list [runD]], .tuple [.str "loop", .str "n", lowsD, highsD, .bool false, .tuple [runD]], .tuple [.str "loop", .str "I", lowsD, highsD, .bool false, .tuple [runD]], .tuple [.str "loop", .str "i", .tuple [], highsD, .bool false, .tuple [runD]], .tuple [.str "loop", .str "i", lowsD, .tuple [], .bool false, .tuple [runD]], .tuple [.str "loop", .str "i", .tuple (List.replicate 2 (items (lowsD))).flatten, highsD, .bool false, .tuple [runD]], .tuple [.str "loop", .str "i", .list (items (lowsD)), highsD, .bool false, .tuple [runD]], .tuple [.str "loop", .str "i", .tuple [.tuple [.str "i", .int 0]], highsD, .bool false, .tuple [runD]], .tuple [.str "loop", .str "i", .tuple (((List.range 13).map (fun i => PyData.int (i : Nat))).map fun d => PyData.tuple [.str "0", d]), highsD, .bool false, .tuple [runD]], .tuple [.str "loop", .str "from", lowsD, highsD, .bool false, .tuple [runD]], .tuple [.str "test", .tuple [], .tuple [runD]], .tuple [.str "test", .tuple [.tuple [.str "n", .str "0", .int 3]], .tuple []], .tuple [.str "test", .tuple (List.replicate 2 (items (.tuple [.tuple [.str "n", .str "0", .int 3]]))).flatten, .tuple [runD]], .tuple [.str "test", .tuple [.tuple [.str "n", .str "n", .int 3]], .tuple [runD]], .tuple [.str "test", .tuple [.tuple [.str "n", .str "0", .bool true]], .tuple [runD]], .tuple [.str "test", .tuple [.tuple [.str "n", .str "x", .int 3]], .tuple [runD]], .tuple [.str "test", .tuple [.list [.str "n", .str "0", .int 3]], .tuple [runD]], .tuple [.str "test", .list [.tuple [.str "n", .str "0", .int 3]], .tuple [runD]], .tuple [.str "test", .tuple [.tuple [.str "n", .str "0", .int 3]], runD], .tuple [.str "test", .tuple [.tuple [.str "n", .str "0", .int 3]], .tuple [runD], .tuple []], .tuple [.str "test", .tuple (((List.range 13).map (fun i => PyData.int (i : Nat))).map fun d => PyData.tuple [.str "n", .str "0", d]), .tuple [runD]], .tuple [.str "test", .tuple [.tuple [.str "0", .str "0", .int 3]], .tuple [runD]]]
def fBad1 (d : PyData) : PyData := .tuple [.str "run", .str "f", .tuple [d], .tuple [.str "a", .tuple []], .tuple []]
def fBad2 (d : PyData) : PyData := .tuple [.str "run", .str "f", .tuple [], d, .tuple []]
def fBad3 (d : PyData) : PyData := .tuple [.str "run", .str "f", .tuple [], .tuple [.str "c", .tuple []], .tuple [d]]
def fBad4 (d : PyData) : PyData := .tuple [.str "loop", .str "i", .tuple [d], highsD, .bool false, .tuple [runD]]
def badNodesD : List PyData := foundD ++ badAtomsD.map fBad1 ++ (badAccD.map fBad2 ++ badAccD.map fBad3) ++ badAtomsD.map fBad4
theorem EnvOk.sub {K : PySem.W.Frag} {Ln : Nat} {ρ ρ' : Nm} {σ : L2.St} {H : Hp} (s : ∀ p ∈ ρ', p ∈ ρ) (h : EnvOk K Ln ρ σ H) : EnvOk K Ln ρ' σ H := ⟨h.1, fun p m => h.2 p (s p m)⟩
theorem same_gen {A B : Addr → Prop} {H H' : Hp} (s : Same H H') (h : ∀ b, B b → A b ∨ H b = none) : Same (hide A H) (hide B H') := fun b o e => by
  have e1 := hide_sub _ _ e
  have nA : ¬ A b := fun z => by
    rw [hide_in z] at e
    exact nomatch e
  have nB : ¬ B b := fun z => by
    rcases h b z with z | z
    · exact nA z
    · rw [z] at e1
      exact nomatch e1
  rw [hide_out nB]
  exact s _ _ e1
section
variable {X : Cx} {K : PySem.W.Frag} {Γ Γ' : L2.St → Hp → Prop}
theorem PE.env {e : Expr} {d : PyData} (s : ∀ σ H, Γ σ H → Γ' σ H) (h : PE X e (tData K Γ' d)) : PE X e (tData K Γ d) := PE.imp h fun σ H Q ⟨A, o, g, q⟩ => ⟨A, o, s _ _ g, q⟩
theorem PE.envN {e : Expr} {ds : List PyData} (s : ∀ σ H, Γ σ H → Γ' σ H) (h : PE X e (tNew K Γ' ds)) : PE X e (tNew K Γ ds) := PE.imp h fun σ H Q ⟨A, o, g, q⟩ => ⟨A, o, s _ _ g, q⟩
theorem pe_lstN {es : List Expr} {pos : Pos} {ds : List PyData} (h : PA X es (tDatas K Γ ds)) (hl : ds.length ≤ 1000) : PE X (.List es pos) (tNew K Γ ds) :=
  PE.imp (pe_lst h) fun σ H Q ⟨A, o, g, q⟩ => ⟨A, o, g, fun H1 vs s1 d1 => ⟨by rw [← dps_len d1] at hl; exact sz1000 hl, fun p np => q _ p vs (s1.trans (same_upd np)) (s1.free np) upd_same (dps_g (SameG.of (same_more (same_upd np) np)) _ _ d1)⟩⟩
theorem pe_catN {a b : Expr} {pos : Pos} {ds es : List PyData} (hΓ : ∀ σ H H', Same H H' → Γ σ H → Γ σ H') (ha : PE X a (tNew K Γ ds)) (hb : PE X b (tNew K Γ es)) (hl : ds.length + es.length ≤ 1000) : PE X (.BinOp a .Add b pos) (tNew K Γ (ds ++ es)) :=
  PE.imp (pe_op op_cat ha hb) fun σ H Q ⟨A, o, g, q⟩ => ⟨A, o, g, fun H1 l xs s1 nl hl1 d1 => ⟨fun a => A a ∨ a = l, fun a z => by
      rcases z with z | rfl
      · exact o.same s1 a z
      · rw [hl1]
        exact Option.some_ne_none _, hΓ _ _ _ (same_more s1 nl) g, fun H2 m zs s2 nm hm d2 => ⟨l, m, xs, zs, rfl, rfl, s2 _ _ hl1, hm, by rw [dps_len d1, dps_len d2]; exact sz1000 hl, fun p np => by
        have n1 := s2.free np
        refine q _ p _ ((s1.trans s2).trans (same_upd np)) (s1.free n1) upd_same (dps_app (dps_g (SameG.of (same_gen (s2.trans (same_upd np)) ?_)) _ _ d1) (dps_g (SameG.of (same_gen (same_upd np) ?_)) _ _ d2))
        · exact fun b z => z.elim (fun z => .inl (.inl z)) fun z => .inr (z ▸ n1)
        · exact fun b z => z.elim (fun z => .inl (.inl (.inl z))) fun z => .inr (z ▸ np)⟩⟩⟩
end
/-- a def without parameters that makes a new list -/
def spNew (K : PySem.W.Frag) (ds : List PyData) : Sp := fun vs H Q _ => vs = [] ∧ ∃ A, Out A H ∧ ∀ H' l xs, Same H H' → H l = none → H' l = some (.lst xs) → DpAll K (hide (fun a => A a ∨ a = l) H') xs ds → Q (.ref l) H'
section
variable {P : Program} {w : World} {K : PySem.W.Frag} {mg : Str → Option Value} {base : Heap}
theorem scBadAtoms : FnScope [] [] (defScope sLBadAtoms) := ⟨rfl, rfl, rfl, by decide +kernel, rfl, by decide +kernel, by decide +kernel⟩
theorem scBadAcc : FnScope [] [] (defScope sLBadAccesses) := ⟨rfl, rfl, rfl, by decide +kernel, rfl, by decide +kernel, by decide +kernel⟩
theorem ok_badatoms {f : Addr} {fd : FuncData} (F : Fun K "_law_bad_atoms" "_law_bad_atoms" sLBadAtoms f fd) : FnOk P w K mg base CX0 1 f fd [] (spNew K badAtomsD) := by
  refine F.ok scBadAtoms (fun vs H Q E h => ?_) (fun cdv A outer s H vs Q E hr h => ?_)
  · obtain ⟨rfl, _⟩ := h
    rfl
  · obtain ⟨rfl, A, o, q⟩ := h
    refine ⟨_, pss_one (ps_ret (pe_lstN (K := K) (Γ := EnvOk K 0 []) (ds := badAtomsD) (pa_w 8 rfl noNames (by kernel_rfl)) (by decide))), ?_⟩
    exact ⟨A, o, noEnv, fun H' l xs s nl hl d => q H' l xs s nl hl d⟩
theorem ok_badacc {f : Addr} {fd : FuncData} (F : Fun K "_law_bad_accesses" "_law_bad_accesses" sLBadAccesses f fd) : FnOk P w K mg base CX0 1 f fd [] (spNew K badAccD) := by
  refine F.ok scBadAcc (fun vs H Q E h => ?_) (fun cdv A outer s H vs Q E hr h => ?_)
  · obtain ⟨rfl, _⟩ := h
    rfl
  · obtain ⟨rfl, A, o, q⟩ := h
    refine ⟨_, pss_one (ps_ret (pe_lstN (K := K) (Γ := EnvOk K 0 []) (ds := badAccD) (pa_w 8 rfl noNames (by kernel_rfl)) (by decide))), ?_⟩
    exact ⟨A, o, noEnv, fun H' l xs s nl hl d => q H' l xs s nl hl d⟩
end
end Kd
set_option maxHeartbeats 8000000
/-! _law_bad_nodes -/
namespace Kd
open PySem L2 Lo
theorem nm_cons {X : Cx} {ρ : Nm} {x : Str} {i : Nat} {d : PyData} (h : X.N[i]? = some x) (v : Vis X.env.scope x) (r : NamesOk X ρ) (e1 : (x == ("__debug__" : Str)) = false := by decide) (e2 : (x == ("__classdict__" : Str)) = false := by decide) : NamesOk X ((x, i, d) :: ρ) := fun y j e m => by
  rcases List.mem_cons.mp m with m | m
  · injection m with m1 m
    injection m with m2 m3
    rw [m1, m2]
    exact ⟨h, v, e1, e2⟩
  · exact r y j e m
theorem env_nil {K : PySem.W.Frag} {Ln : Nat} {σ : L2.St} {H : Hp} (h : Ln ≤ σ.length) : EnvOk K Ln [] σ H := ⟨h, fun p m => nomatch m⟩
theorem env_cons {K : PySem.W.Frag} {Ln : Nat} {ρ : Nm} {σ : L2.St} {H : Hp} {x : Str} {i : Nat} {d : PyData} {v : V} (e : σ[i]? = some (some v)) (h : Dp K H v d) (r : EnvOk K Ln ρ σ H) : EnvOk K Ln ((x, i, d) :: ρ) σ H := ⟨r.1, fun p m => by
  rcases List.mem_cons.mp m with rfl | m
  · exact ⟨v, e, h⟩
  · exact r.2 p m⟩
theorem out_more {A : Addr → Prop} {H : Hp} {f : Addr} {o : HO} (h : Out A H) (e : H f = some o) : Out (fun a => A a ∨ a = f) H := fun a z => by
  rcases z with z | rfl
  · exact h a z
  · rw [e]
    exact Option.some_ne_none _
theorem aug_step {K : PySem.W.Frag} {A : Addr → Prop} {H3 H4 : Hp} {f l : Addr} {o : HO} {xs ys : List V} {ds es : List PyData} (d3 : DpAll K (hide (fun a => A a ∨ a = f) H3) xs ds) (s : Same H3 H4) (d4 : DpAll K (hide (fun a => (A a ∨ a = f) ∨ a = l) H4) ys es) :
    DpAll K (hide (fun a => A a ∨ a = f) (upd H4 f o)) (xs ++ ys) (ds ++ es) := by
  rw [hide_upd (A := fun a => A a ∨ a = f) (.inr rfl)]
  exact dps_app (dps_g (SameG.of (same_hide s)) _ _ d3) (dps_g (SameG.of (same_less (A := fun a => A a ∨ a = f))) _ _ d4)
theorem ip_ext {X : Cx} : PIp X .Add rExt2 := fun pins s σ H x y v u Q I rx ry h => iop_ext pins s σ H x y v u Q I rx ry h
abbrev nBadNodes : List Str := ["run", "lows", "highs", "found", "at", "atom", "access"]
abbrev rhoB : Nm := [("run", 0, runD), ("lows", 1, lowsD), ("highs", 2, highsD)]
def d22 : PyData := .tuple [.str "loop", .str "i", .list (items lowsD), highsD, .bool false, .tuple [runD]]
def fAt2 (d : PyData) : PyData := .tuple [.str "0", d]
def fAt3 (d : PyData) : PyData := .tuple [.str "n", .str "0", d]
def rangeD (k : Nat) : List PyData := (List.range k).map fun i => PyData.int (i : Nat)
def d24 : PyData := .tuple [.str "loop", .str "i", .tuple ((rangeD 13).map fAt2), highsD, .bool false, .tuple [runD]]
def d36 : PyData := .tuple [.str "test", .tuple ((rangeD 13).map fAt3), .tuple [runD]]
theorem found_eq : foundD = foundD.take 22 ++ d22 :: ((foundD.drop 23).take 1 ++ d24 :: ((foundD.drop 25).take 11 ++ d36 :: foundD.drop 37)) := rfl
section
variable {P : Program} {w : World} {K : PySem.W.Frag} {mg : Str → Option Value} {base : Heap}
theorem scBadNodes : FnScope nBadNodes [] (defScope sLBadNodes) := ⟨rfl, rfl, rfl, by decide +kernel, rfl, by decide +kernel, by decide +kernel⟩
/-- a call of a def that makes a new list -/
theorem pe_newCall {X : Cx} {k : Nat} {x : Str} {f : Addr} {fd : FuncData} {p pos : Pos} {Γ : L2.St → Hp → Prop} {ds : List PyData} (hr : Room k X.A) (G : FnOk X.prog X.w X.K X.mg X.base CX0 k f fd [] (spNew X.K ds)) (hg : Gl X x) (hm : X.mg x = some (.ref f)) (hk : PySem.W.keepIn X.K (.ref f) = true) (hb : Binds X.K fd [] [])
    (hdb : (x == ("__debug__" : Str)) = false := by decide) : PE X (.Call (.Name x p) [] [] pos) (tNew X.K Γ ds) :=
  PE.imp (pe_call0 G hr hg hm hk hb .nil pass0 hdb) fun σ H Q ⟨A, o, g, q⟩ => ⟨rfl, A, o, q⟩
theorem ok_badnodes {f fA fC : Addr} {fd fdA fdC : FuncData} (F : Fun K "_law_bad_nodes" "_law_bad_nodes" sLBadNodes f fd) (T : Blt mg) (hlist : mg "list" = none) (hrange : mg "range" = none)
    (GA : FnOk P w K mg base CX0 1 fA fdA [] (spNew K badAtomsD)) (kA : PySem.W.keepIn K (.ref fA) = true) (bA : Binds K fdA [] []) (gA : mg "_law_bad_atoms" = some (.ref fA))
    (GC : FnOk P w K mg base CX0 1 fC fdC [] (spNew K badAccD)) (kC : PySem.W.keepIn K (.ref fC) = true) (bC : Binds K fdC [] []) (gC : mg "_law_bad_accesses" = some (.ref fC)) :
    FnOk P w K mg base CX0 2 f fd [] (spNew K badNodesD) := by
  refine F.ok scBadNodes (fun vs H Q E h => ?_) (fun cdv A outer s H vs Q E hr h => ?_)
  · obtain ⟨rfl, _⟩ := h
    rfl
  · obtain ⟨rfl, A0, o, q⟩ := h
    have nd := scBadNodes.nd
    have body : PSs (cxOf CX0 P w K mg base nBadNodes "_law_bad_nodes" (defScope sLBadNodes) f cdv A outer s H E).nox (defBody sLBadNodes) _ := pss_cons (ps_set (i := 0) nd rfl (.inr rfl) (pe_w (K := K) (Ln := 0) (d := runD) 8 rfl noNames (by kernel_rfl)))
      (pss_cons (ps_asg (pe_w (K := K) (Ln := 0) (d := .tuple [lowsD, highsD]) 8 rfl noNames (by kernel_rfl)) (pg_tup rfl (pgs_cons (pg_name (i := 1) nd rfl (.inl rfl)) (pgs_cons (pg_name (i := 2) nd rfl (.inr rfl)) pgs_nil))))
      (pss_cons (ps_set (i := 3) nd rfl (.inl rfl) (pe_lstN (K := K) (Γ := EnvOk K 7 rhoB) (ds := foundD) (by
          have hN : NamesOk (cxOf CX0 P w K mg base nBadNodes "_law_bad_nodes" (defScope sLBadNodes) f cdv A outer s H E).nox rhoB := nm_cons rfl (.inr (.inl rfl)) (nm_cons rfl (.inl rfl) (nm_cons rfl (.inr (.inl rfl)) noNames))
          rw [found_eq]
          exact pa_at 8 22 rfl hN (by kernel_rfl) rfl (pe_tupD (pa_at (ds := [.str "loop", .str "i"]) 8 2 rfl hN (by kernel_rfl) rfl (pe_lstOf (ds := items lowsD) rfl (by rfl) hlist (pe_w 8 rfl hN (by kernel_rfl))) (pa_w 8 rfl hN (by kernel_rfl))) (by decide))
            (pa_at 8 1 rfl hN (by kernel_rfl) rfl (pe_tupD (pa_at (ds := [.str "loop", .str "i"]) 8 2 rfl hN (by kernel_rfl) rfl (pe_tupOf rfl (by rfl) T.tuple (PE.env (fun σ H g => g.sub (ρ' := []) fun p m => nomatch m) (PE.new (pe_lcR (slot := 4) 13 fAt2 rfl rfl nd (by rfl) hrange (blkOk_by (N := nBadNodes) (sc := defScope sLBadNodes) (by decide +kernel)) (fun _ _ _ _ _ => pg_name (i := 4) nd rfl (.inl rfl)) (fun _ _ _ _ _ d _ => pe_w 8 rfl (nm_cons rfl (.inl rfl) noNames) rfl) (fun p m => nomatch m) (by decide) (by decide))))) (pa_w 8 rfl hN (by kernel_rfl))) (by decide))
            (pa_at 8 11 rfl hN (by kernel_rfl) rfl (pe_tupD (pa_at (ds := [.str "test"]) 8 1 rfl hN (by kernel_rfl) rfl (pe_tupOf rfl (by rfl) T.tuple (PE.env (fun σ H g => g.sub (ρ' := []) fun p m => nomatch m) (PE.new (pe_lcR (slot := 4) 13 fAt3 rfl rfl nd (by rfl) hrange (blkOk_by (N := nBadNodes) (sc := defScope sLBadNodes) (by decide +kernel)) (fun _ _ _ _ _ => pg_name (i := 4) nd rfl (.inl rfl)) (fun _ _ _ _ _ d _ => pe_w 8 rfl (nm_cons rfl (.inl rfl) noNames) rfl) (fun p m => nomatch m) (by decide) (by decide))))) (pa_w 8 rfl hN (by kernel_rfl))) (by decide))
            (pa_w 8 rfl hN (by kernel_rfl))))) (by decide +kernel)))
      (pss_cons (ps_aug (i := 3) nd rfl (.inl rfl) (pe_lcW (K := K) (Ln := 7) (ρ := []) (slot := 5) fBad1 rfl rfl nd (blkOk_by (N := nBadNodes) (sc := defScope sLBadNodes) (by decide +kernel)) (PE.new (pe_newCall hr GA (by rfl) gA kA bA)) (fun _ _ _ _ _ => pg_name (i := 5) nd rfl (.inl rfl)) (fun _ _ _ _ _ d _ => pe_w 8 rfl (nm_cons rfl (.inl rfl) noNames) rfl) (fun p m => nomatch m) (by decide) (by decide)) ip_ext)
      (pss_cons (ps_aug (i := 3) nd rfl (.inl rfl) (pe_catN (K := K) (Γ := EnvOk K 7 []) (fun σ H H' s g => g.same s) (pe_lcW (slot := 6) fBad2 rfl rfl nd (blkOk_by (N := nBadNodes) (sc := defScope sLBadNodes) (by decide +kernel)) (PE.new (pe_newCall hr GC (by rfl) gC kC bC)) (fun _ _ _ _ _ => pg_name (i := 6) nd rfl (.inl rfl)) (fun _ _ _ _ _ d _ => pe_w 8 rfl (nm_cons rfl (.inl rfl) noNames) rfl) (fun p m => nomatch m) (by decide) (by decide))
          (pe_lcW (slot := 6) fBad3 rfl rfl nd (blkOk_by (N := nBadNodes) (sc := defScope sLBadNodes) (by decide +kernel)) (PE.new (pe_newCall hr GC (by rfl) gC kC bC)) (fun _ _ _ _ _ => pg_name (i := 6) nd rfl (.inl rfl)) (fun _ _ _ _ _ d _ => pe_w 8 rfl (nm_cons rfl (.inl rfl) noNames) rfl) (fun p m => nomatch m) (by decide) (by decide)) (by decide)) ip_ext)
      (pss_one (ps_ret (pe_op op_cat (pv 3) (pe_lcW (K := K) (Ln := 7) (ρ := [("run", 0, runD), ("highs", 2, highsD)]) (slot := 5) fBad4 rfl rfl nd (blkOk_by (N := nBadNodes) (sc := defScope sLBadNodes) (by decide +kernel)) (PE.new (pe_newCall hr GA (by rfl) gA kA bA)) (fun _ _ _ _ _ => pg_name (i := 5) nd rfl (.inl rfl)) (fun _ _ _ _ _ d _ => pe_w 8 rfl (nm_cons rfl (.inl rfl) (nm_cons rfl (by first | exact .inl rfl | exact .inr (.inl rfl) | exact .inr (.inr rfl)) (nm_cons rfl (by first | exact .inl rfl | exact .inr (.inl rfl) | exact .inr (.inr rfl)) noNames))) rfl) (by decide) (by decide) (by decide)))))))))
    refine ⟨_, body, ?_⟩
    refine ⟨A0, o, noEnv, fun H1 vr s1 d1 => ⟨A0, o.same s1, noEnv, fun H2 vp s2 d2 => ?_⟩⟩
    cases d2 with
    | @tup p2 xs2 _ hp2 hA2 =>
    obtain ⟨vl, xs2, rfl, dl, hA2⟩ := dps_cons hA2
    obtain ⟨vh, xs2, rfl, dh, hA2⟩ := dps_cons hA2
    obtain rfl := dps_nil hA2
    have d1' := dp_g (SameG.of (same_hide (A := A0) s2)) _ _ d1
    refine ⟨p2, _, rfl, sqT_g (SameG.of hide_sub) hp2, rfl, _, _, rfl, _, _, rfl, rfl, ?_⟩
    refine ⟨A0, o.same (s1.trans s2), env_cons rfl d1' (env_cons rfl dl (env_cons rfl dh (env_nil (Nat.le_refl 7)))), fun H3 f3 xs s3 nf hf d3 => ?_⟩
    have s13 := (s1.trans s2).trans s3
    have nf0 := (s1.trans s2).free nf
    have lx := dps_len d3
    refine ⟨_, rfl, (fun a => A0 a ∨ a = f3), out_more (o.same s13) hf, env_nil (Nat.le_refl 7), fun H4 l4 ys s4 nl4 hl4 d4 => ⟨f3, l4, xs, ys, rfl, rfl, s4 _ _ hf, hl4, by rw [lx, dps_len d4]; exact sz1000 (by decide), ?_⟩⟩
    have d5 := aug_step (o := .lst (xs ++ ys)) d3 s4 d4
    have s05 : Same H (upd H4 f3 (.lst (xs ++ ys))) := (s13.trans s4).later nf0
    have hf5 := upd_same (H := H4) (a := f3) (o := HO.lst (xs ++ ys))
    have s25 : Same H2 (upd H4 f3 (.lst (xs ++ ys))) := (s3.trans s4).later nf
    have lx5 := dps_len d5
    generalize upd H4 f3 (.lst (xs ++ ys)) = H5 at *
    generalize xs ++ ys = xs5 at *
    refine ⟨_, rfl, (fun a => A0 a ∨ a = f3), out_more (o.same s05) hf5, env_nil (Nat.le_refl 7), fun H6 l6 zs s6 nl6 hl6 d6 => ⟨f3, l6, xs5, zs, rfl, rfl, s6 _ _ hf5, hl6, by rw [lx5, dps_len d6]; exact sz1000 (by decide), ?_⟩⟩
    have d7 := aug_step (o := .lst (xs5 ++ zs)) d5 s6 d6
    have s07 : Same H (upd H6 f3 (.lst (xs5 ++ zs))) := (s05.trans s6).later nf0
    have hf7 := upd_same (H := H6) (a := f3) (o := HO.lst (xs5 ++ zs))
    have s27 : Same H2 (upd H6 f3 (.lst (xs5 ++ zs))) := (s25.trans s6).later nf
    have lx7 := dps_len d7
    generalize upd H6 f3 (.lst (xs5 ++ zs)) = H7 at *
    generalize xs5 ++ zs = xs7 at *
    have g27 : Same (hide A0 H2) (hide (fun a => A0 a ∨ a = f3) H7) := same_more s27 nf
    refine ⟨_, rfl, (fun a => A0 a ∨ a = f3), out_more (o.same s07) hf7, env_cons rfl (dp_g (SameG.of g27) _ _ d1') (env_cons rfl (dp_g (SameG.of g27) _ _ dh) (env_nil (Nat.le_refl 7))), fun H8 l8 ws s8 nl8 hl8 d8 => ⟨f3, l8, xs7, ws, rfl, rfl, s8 _ _ hf7, hl8, by rw [lx7, dps_len d8]; exact sz1000 (by decide), fun p np => ?_⟩⟩
    have n8 := s8.free np
    refine q _ p _ ((s07.trans s8).trans (same_upd np)) (s07.free n8) upd_same (dps_app (dps_g (SameG.of (same_gen (s8.trans (same_upd np)) ?_)) _ _ d7) (dps_g (SameG.of (same_gen (same_upd np) ?_)) _ _ d8))
    · exact fun b z => z.elim (fun z => .inl (.inl z)) fun z => .inr (z ▸ n8)
    · exact fun b z => z.elim (fun z => .inl (.inl (.inl z))) fun z => .inr (z ▸ np)
end
end Kd
set_option maxHeartbeats 8000000
/-! the wrong nodes are wrong -/
namespace Kd
open PySem L2 Lo
def bigRunD : PyData := .tuple [.str "run", .str "g", .tuple (List.replicate 8 (items (.tuple [.tuple [.str "n", .int 9999]]))).flatten, .tuple [.str "z", .tuple (List.replicate 4 (items (.tuple [.tuple [.str "0", .int (-9999)]]))).flatten], .tuple (List.replicate 6 (items (.tuple [.tuple [.str "z", .tuple (List.replicate 4 (items (.tuple [.tuple [.str "n", .int 0]]))).flatten]]))).flatten]
def arounds (d : PyData) : List PyData := [.tuple [d], .tuple [bigRunD, d], .tuple [.tuple [.str "test", .tuple [.tuple [.str "n", .str "0", .int 3]], .tuple [bigRunD, d]]], .tuple [.tuple [.str "loop", .str "k", .tuple [.tuple [.str "0", .int 0]], .tuple [.tuple [.str "n", .int 0]], .bool true, .tuple [d]], bigRunD]]
/-- refused, and small enough to be tried -/
def refusedB (z g : PyData) (r : RD) (k b : PyData) : Bool := !nestOk z g r k b && small z && small g && smallR r && small k && small b && nestFew z g r k b
def plainD (b : PyData) : Bool := refusedB (.tuple [.str "n"]) (.tuple []) (.dict []) (.tuple []) b
theorem nodes_bad : (badNodesD.all fun d => (arounds d).all plainD) = true := by decide +kernel
end Kd
set_option maxHeartbeats 4000000
/-! written rooms and written pairs of a number and a thing -/
namespace Kd
open PySem L2 Lo
def ItAll {α : Type} (D : Hp → V → α → Prop) (H : Hp) : List V → List α → Prop
  | [], [] => True
  | v :: vs, a :: as => D H v a ∧ ItAll D H vs as
  | _, _ => False
structure Mono {α : Type} (D : Hp → V → α → Prop) : Prop where
  up : ∀ H H' v a, Same H H' → D H v a → D H' v a
theorem ItAll.up {α : Type} {D : Hp → V → α → Prop} (m : Mono D) {H H' : Hp} (s : Same H H') : ∀ {vs : List V} {as : List α}, ItAll D H vs as → ItAll D H' vs as
  | [], [], _ => trivial
  | v :: vs, a :: as, h => ⟨m.up _ _ _ _ s h.1, ItAll.up m s h.2⟩
  | [], _ :: _, h => h.elim
  | _ :: _, [], h => h.elim
theorem ItAll.len {α : Type} {D : Hp → V → α → Prop} {H : Hp} : ∀ {vs : List V} {as : List α}, ItAll D H vs as → vs.length = as.length
  | [], [], _ => rfl
  | v :: vs, a :: as, h => by rw [List.length_cons, List.length_cons, ItAll.len h.2]
  | [], _ :: _, h => h.elim
  | _ :: _, [], h => h.elim
theorem ItAll.mem {α : Type} {D : Hp → V → α → Prop} {H : Hp} {x : V} : ∀ {vs : List V} {as : List α}, ItAll D H vs as → x ∈ vs → ∃ a ∈ as, D H x a
  | [], [], _, m => nomatch m
  | v :: vs, a :: as, h, m => by
    rcases List.mem_cons.mp m with rfl | m
    · exact ⟨a, List.mem_cons_self, h.1⟩
    · obtain ⟨b, hb, e⟩ := ItAll.mem h.2 m
      exact ⟨b, List.mem_cons_of_mem _ hb, e⟩
  | [], _ :: _, h, _ => h.elim
  | _ :: _, [], h, _ => h.elim
theorem ItAll.app {α : Type} {D : Hp → V → α → Prop} {H : Hp} {ws : List V} {bs : List α} (k : ItAll D H ws bs) : ∀ {vs : List V} {as : List α}, ItAll D H vs as → ItAll D H (vs ++ ws) (as ++ bs)
  | [], [], _ => k
  | v :: vs, a :: as, h => ⟨h.1, ItAll.app k h.2⟩
  | [], _ :: _, h => h.elim
  | _ :: _, [], h => h.elim
section
variable {α : Type} (D : Hp → V → α → Prop)
def tIt (Γ : L2.St → Hp → Prop) (a : α) : TE := fun σ H Q => ∃ A, Out A H ∧ Γ σ (hide A H) ∧ ∀ H' v, Same H H' → D (hide A H') v a → Q v H'
def tIts (Γ : L2.St → Hp → Prop) (as : List α) : TA := fun σ H Q => ∃ A, Out A H ∧ Γ σ (hide A H) ∧ ∀ H' vs, Same H H' → ItAll D (hide A H') vs as → Q vs H'
def tNewI (Γ : L2.St → Hp → Prop) (as : List α) : TE := fun σ H Q => ∃ A, Out A H ∧ Γ σ (hide A H) ∧ ∀ H' l xs, Same H H' → H l = none → H' l = some (.lst xs) → ItAll D (hide (fun a => A a ∨ a = l) H') xs as → Q (.ref l) H'
end
theorem room_up {K : PySem.W.Frag} : Mono (RoomIs K) := ⟨fun H H' v r s h => by
  cases r with
  | data d => exact dp_g (SameG.of s) _ _ h
  | dict kvs =>
    obtain ⟨a, vs, e, ha, h1, h2⟩ := h
    exact ⟨a, vs, e, s _ _ ha, h1, dps_g (SameG.of s) _ _ h2⟩⟩
/-- a pair of a number and a thing -/
def HeadIs (K : PySem.W.Frag) (H : Hp) (v : V) (h : Int × RD) : Prop := ∃ p y, v = .ref p ∧ SqT K H p [.int h.1, y] ∧ RoomIs K H y h.2
theorem head_up {K : PySem.W.Frag} : Mono (HeadIs K) := ⟨fun H H' v h s ⟨p, y, e, a, b⟩ => ⟨p, y, e, sqT_g (SameG.of s) a, room_up.up _ _ _ _ s b⟩⟩
def keyC : Const → Option Key
  | .int i => some (.inl i)
  | .str x => some (.inr x)
  | _ => none
def roomE (ρ : Nm) (n : Nat) : Expr → Option RD
  | .Dict [] [] _ => some (.dict [])
  | .Dict [some (.Constant c _ _)] [v] _ => (keyC c).bind fun k => (litE ρ n v).map fun d => .dict [(k, d)]
  | e => (litE ρ n e).map .data
def headE (ρ : Nm) (n : Nat) : Expr → Option (Int × RD)
  | .Tuple [.Constant (.int i) _ _, e] _ _ => (roomE ρ n e).map fun r => (i, r)
  | _ => none
def allI {α : Type} (f : Expr → Option α) : List Expr → Option (List α)
  | [] => some []
  | e :: es => (f e).bind fun d => (allI f es).bind fun ds => some (d :: ds)
section
variable {X : Cx} {K : PySem.W.Frag} {Γ : L2.St → Hp → Prop} {Ln : Nat}
theorem pa_it {α : Type} {D : Hp → V → α → Prop} (mo : Mono D) {e : Expr} {es : List Expr} {a : α} {as : List α} (hΓ : ∀ σ H H', Same H H' → Γ σ H → Γ σ H') (he : PE X e (tIt D Γ a)) (hs : PA X es (tIts D Γ as)) (st : starEach (e :: es) X.env = (false, eval e X.env) :: starEach es X.env := by rfl) : PA X (e :: es) (tIts D Γ (a :: as)) :=
  PA.imp (pa_cons he hs st) fun σ H Q ⟨A, o, g, q⟩ => ⟨A, o, g, fun H1 v s1 d1 => ⟨A, o.same s1, hΓ _ _ _ (same_hide s1) g, fun H2 vs s2 d2 => q H2 _ (s1.trans s2) ⟨mo.up _ _ _ _ (same_hide s2) d1, d2⟩⟩⟩
theorem pa_it0 {α : Type} {D : Hp → V → α → Prop} : PA X [] (tIts D Γ []) := PA.imp pa_nil fun σ H Q ⟨A, o, g, q⟩ => q H [] (Same.refl H) trivial
theorem pe_lstI {α : Type} {D : Hp → V → α → Prop} (mo : Mono D) {es : List Expr} {pos : Pos} {as : List α} (h : PA X es (tIts D Γ as)) (hl : as.length ≤ 1000) : PE X (.List es pos) (tNewI D Γ as) :=
  PE.imp (pe_lst h) fun σ H Q ⟨A, o, g, q⟩ => ⟨A, o, g, fun H1 vs s1 d1 => ⟨by rw [← d1.len] at hl; exact sz1000 hl, fun p np => q _ p vs (s1.trans (same_upd np)) (s1.free np) upd_same (d1.up mo (same_more (same_upd np) np))⟩⟩
theorem pe_roomD {e : Expr} {d : PyData} (h : PE X e (tData K Γ d)) : PE X e (tIt (RoomIs K) Γ (.data d)) := PE.imp h fun σ H Q ⟨A, o, g, q⟩ => ⟨A, o, g, fun H' v s d => q H' v s d⟩
theorem pe_room0 {pos : Pos} : PE X (.Dict [] [] pos) (tIt (RoomIs K) Γ (.dict [])) := PE.imp pe_dnewK fun σ H Q ⟨A, o, g, q⟩ p np => q _ _ (same_upd np) ⟨p, [], rfl, hide_new o np, rfl, .nil⟩
theorem pe_key {c : Const} {k : Key} {j : Nat} {pos : Pos} (h : keyC c = some k) : PE X (.Constant c j pos) (tC (kV k)) := by
  cases c with
  | int i => obtain rfl := Option.some.inj h; exact pe_int
  | str x => obtain rfl := Option.some.inj h; exact pe_str
  | _ => exact nomatch h
theorem pe_room1 {c : Const} {k : Key} {j : Nat} {pc pos : Pos} {v : Expr} {d : PyData} (hΓ : ∀ σ H H', Same H H' → Γ σ H → Γ σ H') (hk : keyC c = some k) (hv : PE X v (tData K Γ d)) : PE X (.Dict [some (.Constant c j pc)] [v] pos) (tIt (RoomIs K) Γ (.dict [(k, d)])) :=
  PE.imp (pe_disp (pps_cons (pe_key hk) hv pps_nil) rfl rfl (by simp) (by show 1 ≤ 15; decide)) fun σ H Q ⟨A, o, g, q⟩ p np => by
    have e1 := upd_same (H := H) (a := p) (o := HO.dK [])
    have s1 := same_upd (o := HO.dK []) np
    refine ⟨fun a => A a ∨ a = p, out_more (o.same s1) e1, hΓ _ _ _ (same_more s1 np) g, fun H2 u s2 d2 => ⟨s2 _ _ e1, [(k, u)], rfl, by show 1 ≤ 15; decide, ?_⟩⟩
    have s3 : Same H (upd H2 p (.dK (mergeK [] [(k, u)]))) := (s1.trans s2).later np
    refine q _ _ s3 ⟨p, [(k, u)], rfl, ?_, rfl, .cons (dp_g (SameG.of ?_) _ _ d2) .nil⟩
    · rw [hide_out (o.new np)]
      exact upd_same
    · have := same_less (A := A) (D := p) (H := upd H2 p (.dK (mergeK [] [(k, u)])))
      rw [hide_upd (A := fun a => A a ∨ a = p) (.inr rfl)] at this
      exact this
theorem pe_headOf {e : Expr} {i : Int} {r : RD} {j k : Nat} {p pos : Pos} (he : PE X e (tIt (RoomIs K) Γ r)) (st : starEach [e] X.env = [(false, eval e X.env)] := by rfl) : PE X (.Tuple [.Constant (.int i) j p, e] k pos) (tIt (HeadIs K) Γ (i, r)) :=
  PE.imp (pe_tup (pa_cons pe_int (pa_cons he pa_nil st))) fun σ H Q ⟨A, o, g, q⟩ => ⟨A, o, g, fun H1 v s1 d1 => ⟨by show 2 ≤ sizeLine; decide, fun p np => q _ _ (s1.trans (same_upd np)) ⟨p, v, rfl, SqT.of (hide_new (o.same s1) np), room_up.up _ _ _ _ (same_hide (same_upd np)) d1⟩⟩⟩
theorem no_starR {n : Nat} {ρ : Nm} {e : Expr} {d : RD} (h : roomE ρ n e = some d) (es : List Expr) : starEach (e :: es) X.env = (false, eval e X.env) :: starEach es X.env := by
  cases e with
  | Starred a b =>
    have h : (litE ρ n (.Starred a b)).map RD.data = some d := h
    cases n <;> exact nomatch h
  | _ => rfl
theorem no_starH {n : Nat} {ρ : Nm} {e : Expr} {d : Int × RD} (h : headE ρ n e = some d) (es : List Expr) : starEach (e :: es) X.env = (false, eval e X.env) :: starEach es X.env := by
  cases e with
  | Starred a b => exact nomatch h
  | _ => rfl
theorem pe_room {ρ : Nm} (hK : X.K = K) (hN : NamesOk X ρ) (n : Nat) {e : Expr} {r : RD} (h : roomE ρ n e = some r) : PE X e (tIt (RoomIs K) (EnvOk K Ln ρ) r) := by
  have hΓ : ∀ σ H H', Same H H' → EnvOk K Ln ρ σ H → EnvOk K Ln ρ σ H' := fun σ H H' s g => g.same s
  have dflt : (litE ρ n e).map RD.data = some r → PE X e (tIt (RoomIs K) (EnvOk K Ln ρ) r) := fun h => by
    cases h1 : litE ρ n e with
    | none => rw [h1] at h; exact nomatch h
    | some d =>
      rw [h1] at h
      obtain rfl := Option.some.inj h
      exact pe_roomD (pe_lit hK hN n e d h1)
  unfold roomE at h
  split at h
  · obtain rfl := Option.some.inj h
    exact pe_room0
  · rename_i c j pc v pos
    cases h1 : keyC c with
    | none => rw [h1] at h; exact nomatch h
    | some k =>
      rw [h1, Option.bind_some] at h
      cases h2 : litE ρ n v with
      | none => rw [h2] at h; exact nomatch h
      | some d =>
        rw [h2] at h
        obtain rfl := Option.some.inj h
        exact pe_room1 hΓ h1 (pe_lit hK hN n v d h2)
  · exact dflt h
theorem pe_head {ρ : Nm} (hK : X.K = K) (hN : NamesOk X ρ) (n : Nat) {e : Expr} {r : Int × RD} (h : headE ρ n e = some r) : PE X e (tIt (HeadIs K) (EnvOk K Ln ρ) r) := by
  unfold headE at h
  split at h
  · rename_i i j p e k pos
    cases h1 : roomE ρ n e with
    | none => rw [h1] at h; exact nomatch h
    | some d =>
      rw [h1] at h
      obtain rfl := Option.some.inj h
      exact pe_headOf (pe_room hK hN n h1) (no_starR h1 [])
  · exact nomatch h
theorem pa_heads {ρ : Nm} (hK : X.K = K) (hN : NamesOk X ρ) (n : Nat) : ∀ (es : List Expr) (hs : List (Int × RD)), allI (headE ρ n) es = some hs → PA X es (tIts (HeadIs K) (EnvOk K Ln ρ) hs)
  | [], _, e => by
    obtain rfl := Option.some.inj e
    exact pa_it0
  | e :: es, ds, q => by
    rw [allI] at q
    cases h1 : headE ρ n e with
    | none => rw [h1] at q; exact nomatch q
    | some d =>
      rw [h1, Option.bind_some] at q
      cases h2 : allI (headE ρ n) es with
      | none => rw [h2] at q; exact nomatch q
      | some ds' =>
        rw [h2, Option.bind_some] at q
        obtain rfl := Option.some.inj q
        exact pa_it head_up (fun σ H H' s g => g.same s) (pe_head hK hN n h1) (pa_heads hK hN n es ds' h2) (no_starH h1 es)
theorem pa_headAt {ρ : Nm} {es rest : List Expr} {e : Expr} {d : Int × RD} {ds ds' : List (Int × RD)} (m n : Nat) (hK : X.K = K) (hN : NamesOk X ρ) (h : allI (headE ρ m) (es.take n) = some ds) (hd : es.drop n = e :: rest) (he : PE X e (tIt (HeadIs K) (EnvOk K Ln ρ) d)) (hr : PA X rest (tIts (HeadIs K) (EnvOk K Ln ρ) ds'))
    (st : starEach (e :: rest) X.env = (false, eval e X.env) :: starEach rest X.env := by rfl) : PA X es (tIts (HeadIs K) (EnvOk K Ln ρ) (ds ++ d :: ds')) := by
  have hΓ : ∀ σ H H', Same H H' → EnvOk K Ln ρ σ H → EnvOk K Ln ρ σ H' := fun σ H H' s g => g.same s
  rw [← List.take_append_drop n es, hd]
  generalize es.take n = as at h
  clear hd
  induction as generalizing ds with
  | nil =>
    obtain rfl := Option.some.inj h
    exact pa_it head_up hΓ he hr st
  | cons a as ih =>
    rw [allI] at h
    cases h1 : headE ρ m a with
    | none => rw [h1] at h; exact nomatch h
    | some da =>
      rw [h1, Option.bind_some] at h
      cases h2 : allI (headE ρ m) as with
      | none => rw [h2] at h; exact nomatch h
      | some das =>
        rw [h2, Option.bind_some] at h
        obtain rfl := Option.some.inj h
        exact pa_it head_up hΓ (pe_head hK hN m h1) (ih h2) (no_starH h1 _)
end
end Kd
set_option maxHeartbeats 8000000
/-! _law_bad_heads -/
namespace Kd
open PySem L2 Lo
def bodyD : PyData := .tuple [bigRunD]
def pairD : PyData := .tuple [.tuple [.str "0", .int 0], .tuple [.str "n", .int 0]]
def badHeadsD : List (Int × RD) := [(0, .data (.list [.str "n"])), (0, .data (.tuple [])), (0, .data (.tuple [.str "n", .str "n"])), (0, .data (.tuple [.str "n", .str "b", .str "c", .str "d"])), (0, .data (.tuple [.str "N"])), (0, .data (.str "n")), (0, .data (.tuple [.str "n", .int 3])), (0, .data (.tuple [.str "to"])), (0, .data (.none)), (1, .data (.list [.tuple [.str "n", .str "0", .int 3]])), (1, .data (.tuple [.tuple [.str "n", .str "x", .int 3]])), (1, .data (.tuple [.tuple [.str "n", .str "n", .int 3]])), (1, .data (.tuple [.tuple [.str "n", .str "0", .int 3, .int 4]])), (1, .data (.tuple [.tuple [.str "n", .str "0", .int 10000]])), (1, .data (.tuple (((List.range 13).map (fun i => PyData.int (i : Nat))).map fun d => PyData.tuple [.str "n", .str "0", d]))), (1, .data (.none)), (1, .data (.tuple [.tuple [.str "n", .str "0"]])), (2, .data (.none)), (2, .data (.tuple [])), (2, .dict [(.inr "A", .tuple [])]), (2, .dict [(.inl 3, .tuple [])]), (2, .dict [(.inr "q", .list [])]), (2, .dict [(.inr "q", .tuple [.tuple [.str "0", .str "n"]])]), (2, .dict [(.inr "q", .tuple [.tuple ((items (pairD)).take 1)])]), (2, .dict [(.inr "q", .tuple (List.replicate 5 (items (.tuple [pairD]))).flatten)]), (2, .dict [(.inr "q", .tuple [.tuple [.tuple [.str "0", .int 0], .tuple [.str "i", .int 0]]])]), (2, .dict [(.inr "q", .list [pairD])]), (3, .data (.list [.str "a"])), (3, .data (.tuple [.str "a", .str "a"])), (3, .data (.tuple [.str "A"])), (3, .data (.tuple [.int 3])), (3, .data (.none)), (3, .data (.str "a")), (4, .data (.list (items (bodyD)))), (4, .data (.none)), (4, .data bigRunD), (4, .data (.str ""))]
def goodR : List RD := [.data (.tuple [.str "n"]), .data (.tuple []), .dict [], .data (.tuple [.str "a"]), .data bodyD]
def partsOf (h : Int × RD) : List RD := goodR.take h.1.toNat ++ [h.2] ++ goodR.drop (h.1.toNat + 1)
def refusedL : List RD → Bool
  | [.data z, .data g, r, .data k, .data b] => refusedB z g r k b
  | _ => false
theorem heads_bad : (badHeadsD.all fun h => decide (h.1 = 0 ∨ h.1 = 1 ∨ h.1 = 2 ∨ h.1 = 3 ∨ h.1 = 4) && refusedL (partsOf h)) = true := by decide +kernel
abbrev rhoH : Nm := [("body", 1, bodyD), ("pair", 3, pairD)]
abbrev nBadHeads : List Str := ["draw", "body", "good", "pair", "at", "wrong"]
def d14 : PyData := .tuple ((rangeD 13).map fAt3)
theorem heads_eq : badHeadsD = badHeadsD.take 14 ++ ((1 : Int), RD.data d14) :: ((badHeadsD.drop 15).take 8 ++ ((2 : Int), RD.dict [(.inr "q", .tuple [.tuple ((items pairD).take 1)])]) :: ((badHeadsD.drop 24).take 9 ++ ((4 : Int), RD.data (.list (items bodyD))) :: ((badHeadsD.drop 34).take 1 ++ ((4 : Int), RD.data bigRunD) :: badHeadsD.drop 36))) := rfl
theorem hideD {A : Addr → Prop} {H H' : Hp} {d : Addr} (hd : A d) (s : SameD d H H') : Same (hide A H) H' := fun b o e => by
  have nA : ¬ A b := fun z => by
    rw [hide_in z] at e
    exact nomatch e
  exact s b o (fun z => nA (z ▸ hd)) (hide_sub _ _ e)
theorem dps_take {K : PySem.W.Frag} {H : Hp} : ∀ (k : Nat) {xs : List V} {ds : List PyData}, DpAll K H xs ds → DpAll K H (xs.take k) (ds.take k)
  | 0, _, _, _ => .nil
  | k + 1, _, _, .nil => .nil
  | k + 1, _, _, .cons a b => .cons a (dps_take k b)
section
variable {X : Cx} {K : PySem.W.Frag} {Γ : L2.St → Hp → Prop} {Ln : Nat}
theorem pe_takeD {e : Expr} {p1 p2 pos : Pos} {j : Nat} {k : Nat} {ds : List PyData} (hK : X.K = K) (he : PE X e (tData K Γ (.tuple ds))) (hk : k < ds.length) : PE X (.Subscript e (.Slice none (some (.Constant (.int k) j p1)) none p2) pos) (tData K Γ (.tuple (ds.take k))) := by
  subst hK
  refine PE.imp (pe_slice sl_tup he po_none (po_some pe_int)) fun σ H Q ⟨A, o, g, q⟩ => ⟨A, o, g, fun H1 v s1 d1 => ?_⟩
  cases d1 with
  | @tup p xs _ hp hA =>
  have hl := dps_len hA
  have e1 : HT.sIx xs.length xs.length (some (k : Int)) = k := by
    rw [HT.sIx_nat, hl]
    omega
  refine ⟨k, rfl, p, xs, rfl, sqT_g (SameG.of hide_sub) hp, fun z => ?_, fun p' np => ?_⟩
  · rw [e1] at z
    omega
  · have ec : cutV xs none (some (k : Int)) = xs.take k := by
      unfold cutV
      rw [e1, show HT.sIx xs.length 0 none = 0 from rfl, List.drop_zero]
      rfl
    rw [ec]
    exact q _ _ (s1.trans (same_upd np)) (.tup (SqT.of (hide_new (o.same s1) np)) (dps_take k (dps_g (SameG.of (same_hide (same_upd np))) _ _ hA)))
theorem pe_fstD {e : Expr} {p1 pos : Pos} {j : Nat} {d : PyData} {ds : List PyData} (hK : X.K = K) (he : PE X e (tData K Γ (.tuple (d :: ds)))) : PE X (.Subscript e (.Constant (.int 0) j p1) pos) (tData K Γ d) := by
  subst hK
  refine PE.imp (pe_ix ix_tup he pe_int (fun _ _ => rfl)) fun σ H Q ⟨A, o, g, q⟩ => ⟨A, o, g, fun H1 v s1 d1 => ?_⟩
  cases d1 with
  | @tup p xs _ hp hA =>
  obtain ⟨x, xs, rfl, dx, hA⟩ := dps_cons hA
  exact ⟨p, _, 0, x, rfl, rfl, sqT_g (SameG.of hide_sub) hp, atI_nat (j := 0) rfl, q _ _ s1 dx⟩
end
section
variable {P : Program} {w : World} {K : PySem.W.Frag} {mg : Str → Option Value} {base : Heap}
theorem DrawAt.same {K : PySem.W.Frag} {H H' : Hp} {d s : Addr} {n : Int} (e : Same H H') (h : DrawAt K H d s n) : DrawAt K H' d s n := by
  obtain ⟨h1, ⟨ns, h2, h3⟩, h4⟩ := h
  exact ⟨e _ _ h1, ⟨ns, e.seq h2, h3⟩, h4⟩
theorem freeD {d : Addr} {H H' : Hp} {p : Addr} (s : SameD d H H') (hd : H' d ≠ none) (np : H' p = none) : H p = none := by
  cases e : H p with
  | none => rfl
  | some o =>
    by_cases z : p = d
    · rw [z] at np
      exact absurd np hd
    · rw [s p o z e] at np
      exact nomatch np
def spBadHeads (K : PySem.W.Frag) : Sp := fun vs H Q _ => ∃ (d s : Addr) (vb : V) (n : Int), vs = [.ref d, vb] ∧ DrawAt K H d s n ∧ Dp K (hide (fun a => a = d) H) vb bodyD ∧
  ∀ (H' : Hp) (l : Addr) (n' : Int) (ws : List V) (h : Int × RD), SameD d H H' → DrawAt K H' d s n' → H l = none → H' l = some (.lst ws) → h ∈ badHeadsD → ItAll (RoomIs K) H' ws (partsOf h) → Q (.ref l) H'
theorem scBadHeads : FnScope nBadHeads ["draw", "body"] (defScope sLBadHeads) := ⟨rfl, rfl, rfl, by decide +kernel, rfl, by decide +kernel, by decide +kernel⟩
theorem ok_badheads {f fP : Addr} {fd fdP : FuncData} (F : Fun K "_law_bad_heads" "_law_bad_heads" sLBadHeads f fd) (T : Blt mg) (hlist : mg "list" = none) (hrange : mg "range" = none)
    (GP : FnOk P w K mg base CX0 3 fP fdP ["draw", "items"] (spLPick K)) (kP : PySem.W.keepIn K (.ref fP) = true) (bP : Binds K fdP ["draw", "items"] []) (gP : mg "_law_pick" = some (.ref fP)) :
    FnOk P w K mg base CX0 4 f fd ["draw", "body"] (spBadHeads K) := by
  refine F.ok scBadHeads (fun vs H Q E h => ?_) (fun cdv A outer s0 H vs Q E hr h => ?_)
  · obtain ⟨d, s, vb, n, rfl, _⟩ := h
    rfl
  · obtain ⟨d, s, vb, n, rfl, hd, hb, q⟩ := h
    have nd := scBadHeads.nd
    have body : PSs (cxOf CX0 P w K mg base nBadHeads "_law_bad_heads" (defScope sLBadHeads) f cdv A outer s0 H E).nox (defBody sLBadHeads) _ := pss_cons (ps_set (i := 2) nd rfl (.inl rfl) (pe_lstI (D := RoomIs K) (Γ := EnvOk K 6 [("body", 1, bodyD)]) (as := goodR) room_up (by
          have hN : NamesOk (cxOf CX0 P w K mg base nBadHeads "_law_bad_heads" (defScope sLBadHeads) f cdv A outer s0 H E).nox [("body", 1, bodyD)] := nm_cons rfl (.inl rfl) noNames
          have hΓ : ∀ σ H H', Same H H' → EnvOk K 6 [("body", 1, bodyD)] σ H → EnvOk K 6 [("body", 1, bodyD)] σ H' := fun σ H H' s g => g.same s
          exact pa_it room_up hΓ (pe_room rfl hN 8 (by kernel_rfl)) (pa_it room_up hΓ (pe_room rfl hN 8 (by kernel_rfl)) (pa_it room_up hΓ (pe_room rfl hN 8 (by kernel_rfl)) (pa_it room_up hΓ (pe_room rfl hN 8 (by kernel_rfl)) (pa_it room_up hΓ (pe_room rfl hN 8 (by kernel_rfl)) pa_it0))))) (by decide)))
      (pss_cons (ps_set (i := 3) nd rfl (.inl rfl) (pe_w (K := K) (Ln := 0) (d := pairD) 8 rfl noNames (by kernel_rfl)))
      (pss_cons (ps_asg (pe_call GP hr (by rfl) gP kP bP .nil pass0 (pa_cons (pv 0) (pa_cons (pe_lstI (D := HeadIs K) (Γ := EnvOk K 6 rhoH) (as := badHeadsD) head_up (by
          have hN : NamesOk (cxOf CX0 P w K mg base nBadHeads "_law_bad_heads" (defScope sLBadHeads) f cdv A outer s0 H E).nox rhoH := nm_cons rfl (.inl rfl) (nm_cons rfl (.inl rfl) noNames)
          have hΓ : ∀ σ H H', Same H H' → EnvOk K 6 rhoH σ H → EnvOk K 6 rhoH σ H' := fun σ H H' s g => g.same s
          rw [heads_eq]
          exact pa_headAt 8 14 rfl hN (by kernel_rfl) rfl (pe_headOf (pe_roomD (pe_tupOf rfl (by rfl) T.tuple (PE.env (fun σ H g => g.sub (ρ' := []) fun p m => nomatch m) (PE.new (pe_lcR (slot := 4) 13 fAt3 rfl rfl nd (by rfl) hrange (blkOk_by (N := nBadHeads) (sc := defScope sLBadHeads) (by decide +kernel)) (fun _ _ _ _ _ => pg_name (i := 4) nd rfl (.inl rfl)) (fun _ _ _ _ _ d _ => pe_w 8 rfl (nm_cons rfl (.inl rfl) noNames) rfl) (fun p m => nomatch m) (by decide) (by decide)))))))
            (pa_headAt 8 8 rfl hN (by kernel_rfl) rfl (pe_headOf (pe_room1 hΓ rfl (pe_tupD (ds := [.tuple ((items pairD).take 1)]) (pa_data hΓ (pe_takeD (k := 1) rfl (pe_w (d := pairD) 8 rfl hN (by kernel_rfl)) (by decide)) pa_data0) (by decide))))
            (pa_headAt 8 9 rfl hN (by kernel_rfl) rfl (pe_headOf (pe_roomD (pe_lstOf (ds := items bodyD) rfl (by rfl) hlist (pe_w 8 rfl hN (by kernel_rfl)))))
            (pa_headAt 8 1 rfl hN (by kernel_rfl) rfl (pe_headOf (pe_roomD (pe_fstD (ds := []) rfl (pe_w 8 rfl hN (by kernel_rfl)))))
            (pa_heads rfl hN 8 _ _ (by kernel_rfl)))))) (by decide)) pa_nil))) (pg_tup rfl (pgs_cons (pg_name (i := 4) nd rfl (.inl rfl)) (pgs_cons (pg_name (i := 5) nd rfl (.inl rfl)) pgs_nil))))
      (pss_one (ps_ret (pe_op op_cat (pe_op op_cat (pe_slice sl_list (pv 2) po_none (po_some (pv 4))) (pe_lst (pa_cons (pv 5) pa_nil))) (pe_slice sl_list (pv 2) (po_some (pe_op op_add (pv 4) pe_int)) po_none))))))
    refine ⟨_, body, ?_⟩
    have oA : ∀ H', Same H H' → Out (fun a => a = d) H' := fun H' s' a z => by
      rw [z, s' _ _ hd.1]
      exact Option.some_ne_none _
    refine ⟨fun a => a = d, oA H (Same.refl H), env_cons rfl hb (env_nil (Nat.le_refl 6)), fun H1 g0 gs s1 ng hg0 hgs => ?_⟩
    refine ⟨fun a => a = d, oA H1 s1, noEnv, fun H2 vp s2 dp => ?_⟩
    have s02 := s1.trans s2
    refine ⟨_, rfl, fun a => a = d, oA H2 s02, env_cons rfl (dp_g (SameG.of (same_hide s02)) _ _ hb) (env_cons rfl dp (env_nil (Nat.le_refl 6))), fun H3 l3 xs s3 nl hl3 h3 => ?_⟩
    have s03 := s02.trans s3
    have ne3 : l3 ≠ d := fun z => by
      rw [z, s02 _ _ hd.1] at nl
      exact nomatch nl
    refine ⟨d, s, l3, n, xs, rfl, hd.same s03, ne3, .inl (SqL.of hl3), fun z => ?_, fun H4 n4 x sD hd4 hx => ?_⟩
    · rw [z] at h3
      exact h3.elim
    obtain ⟨⟨i, r⟩, hm, p, y, rfl, hp, hy⟩ := h3.mem hx
    have u34 : Same (hide (fun a => a = d ∨ a = l3) H3) H4 := hideD (.inl rfl) sD
    refine ⟨p, [.int i, y], rfl, sqT_g (SameG.of u34) hp, rfl, _, _, rfl, _, _, rfl, rfl, ?_⟩
    have neg : g0 ≠ d := fun z => by
      rw [z, hd.1] at ng
      exact nomatch ng
    have hg4 : H4 g0 = some (.lst gs) := sD _ _ neg (s3 _ _ (s2 _ _ hg0))
    have u14 : Same (hide (fun a => a = d ∨ a = g0) H1) H4 := (same_hide (s2.trans s3)).trans (hideD (.inl rfl) sD)
    refine ⟨_, rfl, _, rfl, i, rfl, g0, gs, rfl, SqL.of hg4, fun p1 np1 => ?_⟩
    have s5 := same_upd (o := HO.lst (cutV gs none (some i))) np1
    refine ⟨_, rfl, by show 1 ≤ sizeLine; decide, fun p2 np2 => ?_⟩
    have s6 := same_upd (o := HO.lst [y]) np2
    have gl : gs.length = 5 := hgs.len
    have c1 := cutV_length gs none (some i)
    have c2 := cutV_length gs (some (i + 1)) none
    refine ⟨p1, p2, _, _, rfl, rfl, s6 _ _ upd_same, upd_same, sz1000 (by simp only [List.length_cons, List.length_nil]; omega), fun p3 np3 => ?_⟩
    have s7 := same_upd (o := HO.lst (cutV gs none (some i) ++ [y])) np3
    have s47 := (s5.trans s6).trans s7
    refine ⟨_, rfl, _, rfl, i, 1, rfl, rfl, _, rfl, g0, gs, rfl, SqL.of (s47 _ _ hg4), fun p4 np4 => ?_⟩
    have s8 := same_upd (o := HO.lst (cutV gs (some (i + 1)) none)) np4
    refine ⟨p3, p4, _, _, rfl, rfl, s8 _ _ upd_same, upd_same, sz1000 (by simp only [List.length_append, List.length_cons, List.length_nil]; omega), fun p5 np5 => ?_⟩
    have s9 := same_upd (o := HO.lst (cutV gs none (some i) ++ [y] ++ cutV gs (some (i + 1)) none)) np5
    have s49 := (s47.trans s8).trans s9
    have e9 := upd_same (H := upd (upd (upd (upd H4 p1 (.lst (cutV gs none (some i)))) p2 (.lst [y])) p3 (.lst (cutV gs none (some i) ++ [y]))) p4 (.lst (cutV gs (some (i + 1)) none))) (a := p5) (o := HO.lst (cutV gs none (some i) ++ [y] ++ cutV gs (some (i + 1)) none))
    have n45 : H4 p5 = none := (s47.trans s8).free np5
    refine q _ p5 n4 _ (i, r) (((SameD.of s03).trans sD).trans (SameD.of s49)) (hd4.same s49) (freeD ((SameD.of s03).trans sD) (by rw [hd4.1]; exact Option.some_ne_none _) n45) e9 hm ?_
    have hgs' := hgs.up room_up (u14.trans s49)
    have hy' := room_up.up _ _ _ _ (u34.trans s49) hy
    generalize upd _ p5 _ = H9 at *
    have hi := List.all_eq_true.mp heads_bad _ hm
    rw [Bool.and_eq_true, decide_eq_true_eq] at hi
    match gs, hgs' with
    | [a0, a1, a2, a3, a4], ⟨b0, b1, b2, b3, b4, _⟩ =>
      rcases hi.1 with z | z | z | z | z <;> (obtain rfl : i = _ := z)
      · exact ⟨hy', b1, b2, b3, b4, trivial⟩
      · exact ⟨b0, hy', b2, b3, b4, trivial⟩
      · exact ⟨b0, b1, hy', b3, b4, trivial⟩
      · exact ⟨b0, b1, b2, hy', b4, trivial⟩
      · exact ⟨b0, b1, b2, b3, hy', trivial⟩
end
end Kd
set_option maxHeartbeats 4000000
/-! making an instance within a try; isinstance of what was caught; _law_refused, _law_deep -/
namespace Kd
open PySem L2 Lo
section
variable {X : Cx} {CX : CXT} {k : Nat} {f C : Addr} {fd : FuncData} {ps : List Str} {sp : Sp} {x : Str} {p pos : Pos} {e : Expr} {es : List Expr} {t : TA}
theorem make_at {σ0 : L2.St} {E : XK} {pins : List (Addr × Obj)} {H0 : Hp} {sh : Shared} {Q : VK} {us : List Value} {vs : List V} (mk : Mk X.K C f) (G : FnOk X.prog X.w X.K X.mg X.base CX k f fd ps sp) (room : Room (k + 1) X.A) (bd : Binds X.K fd ps [])
    (pass : PassesAt CX X σ0 E) (I : Inv X pins σ0 H0 sh) (rel : Vals vs us)
    (go : ∀ y dy, H0 y = none → H0 dy = none → dy ≠ y → sp (.ref y :: vs) (upd (upd H0 dy (.own y)) y (.ins C dy [])) (fun v H2 => v = .non ∧ Q (.ref y) H2) E) :
    wpAny (model X.prog X.w) X.A (call (.ref C) us) (EP X pins σ0 Q) X.xe sh := by
  have now := go (sh.heap.objs.size + 1) sh.heap.objs.size (I.hok.fresh (Nat.le_succ _)) (I.hok.fresh (Nat.le_refl _)) (Nat.ne_of_lt (Nat.lt_succ_self _))
  have J := Inv.made (C := C) I
  have rel2 : Vals (V.ref (sh.heap.objs.size + 1) :: vs) (Value.ref (sh.heap.objs.size + 1) :: us) := .cons rfl rel
  have len := G.len _ _ _ _ now
  rw [rel2.length] at len
  have bnd := bd _ (Value.ref (sh.heap.objs.size + 1) :: us) J.kIn (by rw [List.append_nil]; exact len)
  rw [List.append_nil] at bnd
  have run := G.run _ X.stack _ _ ⟨Value.ref (sh.heap.objs.size + 1) :: us, []⟩ (Value.ref (sh.heap.objs.size + 1) :: us) _ _ E (room.make C us []) (J.env0.make C us []) bnd rel2 now
  refine wpAny_call (make_map (f := f) I.kIn mk.makes mk.init (beq_iff_eq.mp mk.fn) (codeAny_mono run fun out s2 good => ?_))
  match out, good with
  | .error er, good => exact pass pins _ _ er s2 J good
  | .ok (.ret u), good =>
    obtain ⟨v, H2, I2, rv, ev, q2⟩ := J.after good
    rw [ev] at rv
    exact ⟨rv, V.ref (sh.heap.objs.size + 1), H2, I2, rfl, q2⟩
  | .ok .next, good => exact good.elim
  | .ok .brk, good => exact good.elim
  | .ok .cont, good => exact good.elim
def tMakeS (C : Addr) (sp : Sp) (E : L2.St → XK) (t : TA) : TE := fun σ H Q => t σ H fun vs H1 => ∀ y dy, H1 y = none → H1 dy = none → dy ≠ y → sp (.ref y :: vs) (upd (upd H1 dy (.own y)) y (.ins C dy [])) (fun v H2 => v = .non ∧ Q (.ref y) H2) (E σ)
theorem pe_makeS {E : L2.St → XK} (mk : Mk X.K C f) (G : FnOk X.prog X.w X.K X.mg X.base CX k f fd ps sp) (room : Room (k + 1) X.A) (gl : Gl X x) (at_ : X.mg x = some (.ref C)) (bd : Binds X.K fd ps []) (pass : ∀ σ, PassesAt CX X σ (E σ)) (args : PA X (e :: es) t)
    (nd : (x == ("__debug__" : Str)) = false := by decide) (st : starEach (e :: es) X.env = (false, eval e X.env) :: starEach es X.env := by rfl) (pl : (backTo pos (starEach es X.env)).any (·.1) = false := by rfl) :
    PE X (.Call (.Name x p) (e :: es) [] pos) (tMakeS C sp E t) := ⟨fun pins sh σ H Q I go =>
  wpAny_Call_Name_kw (ld_glob I gl at_ (PySem.W.callWith_K (h₀ := X.base) I.ok.mod.kin mk.kp (thn (args.run pos pins sh σ H _ I go) fun us s1 ⟨vs, H1, I1, r, q⟩ => ⟨I1.kIn, make_at mk G room bd (pass σ) I1 r q⟩) st pl) nd)⟩
end
/-- isinstance of a caught error without fields -/
def rIsN (K : PySem.W.Frag) (a : Addr) (cls : Value) (d : Option Addr) (C : Addr) : List V → Hp → VK → Prop := fun xs H Q => ∃ (c : V) (cv : Value) (b : Bool), xs = [.ref a, c] ∧ cls = .ref C ∧ d = none ∧ (∀ u, RelV c u → u = cv) ∧ PySem.W.kitOne K (.ref C) cv = some b ∧ Q (.bl b) H
theorem call_isN {X : Cx} {a C : Addr} {oe : Obj} {cls : Value} {d : Option Addr} {pn : List (Addr × Obj)} (T : ExcC X.K C) (hz : Zc cls d oe) (hf : ∃ vs, oe.data = .fields vs) : CallR (X.suite a ((a, oe) :: pn)) (.builtin "isinstance") (rIsN X.K a cls d C) := by
  intro pins s σ H xs us Q I r h
  obtain ⟨c, cv, b, rfl, rfl, rfl, hcv, e, q⟩ := h
  exact call_isE T hz hf pins s σ H _ us Q I r ⟨c, cv, b, rfl, hcv, e, q⟩
theorem boot_value : bootBuiltins "ValueError" = some (Value.type "ValueError") := by kernel_rfl
/-- what the text asks of BadNest where it is caught -/
structure BadC (K : PySem.W.Frag) (mg : Str → Option Value) (CB CE : Addr) : Prop where
  er : Err K mg "BadNest" CB
  ex : ExcC K CB
  mgE : mg "LoopshedsError" = some (.ref CE)
  one : PySem.W.kitOne K (.ref CB) (.ref CE) = some true
  val : PySem.W.kitOne K (.ref CB) (.type "ValueError") = some true
section
variable {P : Program} {w : World} {K : PySem.W.Frag} {mg : Str → Option Value} {base : Heap}
def spRefused (K : PySem.W.Frag) (TN TA TH TT : Addr) : Sp := fun vs H Q _ => ∃ (vz vg vr vk vb : V) (z g k b : PyData) (r : RD), vs = [vz, vg, vr, vk, vb] ∧ Dp K H vz z ∧ Dp K H vg g ∧ RoomIs K H vr r ∧ Dp K H vk k ∧ Dp K H vb b ∧ refusedB z g r k b = true ∧
  GxR.TabG H TN ∧ GxR.TabG H TA ∧ GxR.TabG H TH ∧ GxR.TabG H TT ∧ ∀ H', SameR r vr H H' → Q (.bl true) H'
abbrev nLRef : List Str := ["sizes", "given", "rooms", "kept", "body", "error"]
theorem scLRef : FnScope nLRef ["sizes", "given", "rooms", "kept", "body"] (defScope sLRefused) := ⟨rfl, rfl, rfl, by decide +kernel, rfl, by decide +kernel, by decide +kernel⟩
theorem ok_lrefused {CN C CE f fI TN TA TH TT : Addr} {fd fdI : FuncData} (L : Nat) (F : Fun K "_law_refused" "_law_refused" sLRefused f fd) (T : Blt mg) (hval : mg "ValueError" = none) (X : NTxt K mg CN fI) (R : BadC K mg C CE)
    (GI : FnOk P w K mg base (L2.CX P w) L fI fdI ["self", "sizes", "given", "rooms", "kept", "body"] (spNInit K CN C TN TA TH TT)) (bI : Binds K fdI ["self", "sizes", "given", "rooms", "kept", "body"] []) :
    FnOk P w K mg base CX0 (L + 2) f fd ["sizes", "given", "rooms", "kept", "body"] (spRefused K TN TA TH TT) := by
  refine F.ok scLRef (fun vs H Q E h => ?_) (fun cdv A outer s0 H vs Q E hr h => ?_)
  · obtain ⟨vz, vg, vr, vk, vb, z, g, k, b, r, rfl, _⟩ := h
    rfl
  · obtain ⟨vz, vg, vr, vk, vb, z, g, k, b, r, rfl, hz, hg, hrm, hk, hb, ref, tN, tA, tH, tT, q⟩ := h
    have nd := scLRef.nd
    refine ⟨_, pss_cons (L2.ps_try_as (i := 5) (c := .ref C) rfl rfl nd rfl rfl ⟨rfl, by decide, .inl R.er.g⟩ takes0
      (fun W pn xe tk _ => pss_one (ps_expr (pe_makeS X.make GI hr (by rfl) X.mg bI (fun σ => passAt tk σ) (pa_cons (pv 0) (pa_cons (pv 1) (pa_cons (pv 2) (pa_cons (pv 3) (pa_cons (pv 4) pa_nil))))))))
      (fun a oe cls d pn hz hf => pss_one (ps_ret (pe_and (pe_callB (call_isN R.ex hz hf) (by rfl) T.isi PyProof.Rows.boot_isinstance (pa_cons (pv 5) (pa_cons (pe_glob (v := .ref CE) (by rfl) R.mgE rfl) pa_nil)))
        (pe_one (pe_callB (call_isN R.ex hz hf) (by rfl) T.isi PyProof.Rows.boot_isinstance (pa_cons (pv 5) (pa_cons (pe_bltn (v := .ty "ValueError") rfl hval boot_value rfl) pa_nil)))))))) (pss_one (ps_ret pe_bl)), ?_⟩
    unfold refusedB at ref
    simp only [Bool.and_eq_true, Bool.not_eq_true'] at ref
    obtain ⟨⟨⟨⟨⟨⟨nok, sz⟩, sg⟩, sr⟩, sk⟩, sb⟩, few⟩ := ref
    refine ⟨_, rfl, _, rfl, _, rfl, _, rfl, _, rfl, fun y dy ny ndy ne => ?_⟩
    have s1 : Same H (upd (upd H dy (.own y)) y (.ins CN dy [])) := (same_upd ndy).later ny
    have e1 := upd_same (H := upd H dy (.own y)) (a := y) (o := HO.ins CN dy [])
    have u1 := SameG.of s1
    refine ⟨y, dy, vz, vg, vr, vk, vb, z, g, k, b, r, rfl, e1, dp_g u1 _ _ hz, dp_g u1 _ _ hg, room_up.up _ _ _ _ s1 hrm, dp_g u1 _ _ hk, dp_g u1 _ _ hb, sz, sg, sr, sk, sb, u1.tab _ tN, u1.tab _ tA, u1.tab _ tH, u1.tab _ tT, few, fun e => absurd (nok.symm.trans e) (by decide), fun _ H2 s2 => ?_⟩
    refine ⟨true, R.er.e, fun _ a na => ?_, fun q => nomatch q⟩
    refine ⟨_, rfl, .ref CE, .ref CE, true, rfl, rfl, rfl, fun u hu => hu, R.one, true, rfl, iteT ?_⟩
    exact ⟨_, rfl, .ty "ValueError", .type "ValueError", true, rfl, rfl, rfl, fun u hu => hu, R.val, q H2 ((SameR.of u1).trans s2)⟩
end
end Kd
set_option maxHeartbeats 4000000
/-! _law_deep -/
namespace Kd
open PySem L2 Lo
def deepD : Nat → PyData
  | 0 => runD
  | n + 1 => .tuple [.str "test", .tuple [.tuple [.str "n", .str "0", .int 3]], .tuple [deepD n]]
section
variable {P : Program} {w : World} {K : PySem.W.Frag} {mg : Str → Option Value} {base : Heap}
def spDeep (K : PySem.W.Frag) : Sp := fun vs H Q _ => ∃ n : Nat, vs = [.int (n : Nat)] ∧ n ≤ 100 ∧ ∃ A, Out A H ∧ ∀ H' v, Same H H' → Dp K (hide A H') v (deepD n) → Q v H'
abbrev nDeep : List Str := ["many", "node", "turn"]
theorem scDeep : FnScope nDeep ["many"] (defScope sLDeep) := ⟨rfl, rfl, rfl, by decide +kernel, rfl, by decide +kernel, by decide +kernel⟩
theorem ok_ldeep {f : Addr} {fd : FuncData} (F : Fun K "_law_deep" "_law_deep" sLDeep f fd) (hrange : mg "range" = none) : FnOk P w K mg base CX0 1 f fd ["many"] (spDeep K) := by
  refine F.ok scDeep (fun vs H Q E h => ?_) (fun cdv A outer s0 H vs Q E hr h => ?_)
  · obtain ⟨n, rfl, _⟩ := h
    rfl
  · obtain ⟨n, rfl, hn, A0, o, q⟩ := h
    have nd := scDeep.nd
    refine ⟨_, pss_cons (ps_set (i := 1) nd rfl (.inl rfl) (pe_w (K := K) (Ln := 0) (d := runD) 8 rfl noNames (by kernel_rfl)))
      (pss_cons (ps_for PassesOwn.never rfl (pi_range1 (by rfl) hrange (pa_cons (pv 0) pa_nil)) (pg_name (i := 2) nd rfl (.inl rfl))
        (pss_one (ps_set (i := 1) nd rfl (.inl rfl) (pe_tup (pa_cons pe_str (pa_cons (pe_w (K := K) (Ln := 0) (d := .tuple [.tuple [.str "n", .str "0", .int 3]]) 8 rfl noNames (by kernel_rfl)) (pa_cons (pe_tup (pa_cons (pv 1) pa_nil)) pa_nil)))))))
      (pss_one (ps_ret (pv 1)))), ?_⟩
    refine ⟨A0, o, noEnv, fun H1 v1 s1 d1 => ?_⟩
    refine ⟨_, rfl, (n : Nat), rfl, by omega, by omega, ?_⟩
    rw [Int.toNat_natCast]
    refine for_range (lo := 0) (fun i σ H' => ∃ (v : V) (y : Option V), σ = [some (.int (n : Nat)), some v, y] ∧ Same H H' ∧ Dp K (hide A0 H') v (deepD i)) ⟨v1, none, rfl, s1, d1⟩ ?_ ?_
    · rintro i σ H2 hi ⟨v, y, rfl, s2, d2⟩
      refine ⟨A0, o.same s2, noEnv, fun H3 v3 s3 d3 => ⟨_, rfl, by show 1 ≤ sizeLine; decide, fun p np => ⟨by show 3 ≤ sizeLine; decide, fun p2 np2 => ?_⟩⟩⟩
      have s4 := same_upd (o := HO.tup [v]) np
      have s5 := same_upd (o := HO.tup [V.str "test", v3, .ref p]) np2
      have u5 := SameG.of (same_hide (A := A0) (s4.trans s5))
      have o3 := o.same (s2.trans s3)
      exact ⟨_, _, rfl, s2.trans (s3.trans (s4.trans s5)), .tup (SqT.of (hide_new (o3.same s4) np2)) (.cons (.str _) (.cons (dp_g u5 _ _ d3) (.cons (.tup (SqT.of (same_hide s5 _ _ (hide_new o3 np))) (.cons (dp_g (SameG.of (same_hide (s3.trans (s4.trans s5)))) _ _ d2) .nil)) .nil)))⟩
    · rintro σ H2 ⟨v, y, rfl, s2, d2⟩
      exact ⟨v, rfl, q H2 v s2 d2⟩
end
end Kd
set_option maxHeartbeats 4000000
/-! _law_nowhere -/
namespace Kd
open PySem L2 Lo
/-- isinstance of a caught error that has fields -/
def rIsF (K : PySem.W.Frag) (a : Addr) (cls : Value) (d : Option Addr) (C : Addr) : List V → Hp → VK → Prop := fun xs H Q => ∃ (c : V) (cv : Value) (b : Bool) (dd : Addr) (fs : List (Str × V)), xs = [.ref a, c] ∧ cls = .ref C ∧ d = some dd ∧ H dd = some (.xd fs) ∧ (∀ u, RelV c u → u = cv) ∧ PySem.W.kitOne K (.ref C) cv = some b ∧ Q (.bl b) H
theorem call_isF {X : Cx} {a C : Addr} {oe : Obj} {cls : Value} {d : Option Addr} {pn : List (Addr × Obj)} (T : ExcC X.K C) (hz : Zc cls d oe) (hf : ∃ vs, oe.data = .fields vs) : CallR (X.suite a ((a, oe) :: pn)) (.builtin "isinstance") (rIsF X.K a cls d C) := by
  intro pins s σ H xs us Q I r h
  obtain ⟨c, cv, b, dd, fs, rfl, rfl, rfl, ea, hcv, e, q⟩ := h
  cases r with
  | cons rx rr =>
    cases rr with
    | cons rt rr =>
      cases rr
      cases rx
      have ec := hcv _ rt
      subst ec
      obtain ⟨hget, _⟩ := I.pin (a, oe) (List.mem_append.mpr (.inl List.mem_cons_self))
      obtain ⟨vs, hv⟩ := hf
      have hx : ObjOk X.prog X.w H s.heap dd (.xd fs) := I.hok dd _ ea
      obtain ⟨mA, hns, _⟩ := hx
      obtain ⟨od, ho, _⟩ := lookIn_ns hns
      have J : PySem.W.InstAt s.heap a oe C (some od) := ⟨hget, hz.1, by unfold PySem.W.notCls; rw [hv] <;> rfl, by rw [hz.2]; exact ho⟩
      have hcl : (PySem.W.clsIn X.K C).isSome = true := by
        obtain ⟨cd, hc, _⟩ := PySem.W.any_some T.hd
        rw [hc]
        rfl
      exact PySem.W.kia_one (PySem.W.kitx_exc hcl T.hg T.hk T.hs T.ha T.hn T.ht T.hm) I.kIn J e (fun z => nomatch z) fun tk => ⟨.bl b, H, I.kept (t' := tk) fun _ _ z => z, rfl, q⟩
/-- what the text asks of NoNode and NoPlace where they are caught -/
structure NoC (K : PySem.W.Frag) (mg : Str → Option Value) (C2 CP CE : Addr) : Prop where
  xf : XfC K C2
  ex2 : ExcC K C2
  exP : ExcC K CP
  mg2 : mg "NoNode" = some (.ref C2)
  mgP : mg "NoPlace" = some (.ref CP)
  mgE : mg "LoopshedsError" = some (.ref CE)
  no2 : PySem.W.findIn K (.ref C2) "path" = some none
  one2 : PySem.W.kitOne K (.ref C2) (.ref CE) = some true
  oneP : PySem.W.kitOne K (.ref CP) (.ref CE) = some true
  te2 : PySem.W.exmOne K (.ref C2) (.ref C2) = some true
  teP : PySem.W.exmOne K (.ref CP) (.ref CP) = some true
section
variable {P : Program} {w : World} {K : PySem.W.Frag} {mg : Str → Option Value} {base : Heap}
def spNowhere (K : PySem.W.Frag) (CN : Addr) : Sp := fun vs H Q _ => ∃ (p : Addr) (vb vp vl : V) (dp dl : PyData) (r : RD) (bs : List PyData), vs = [.ref p, vp, vl] ∧ NestAt K CN H p vb r (.tuple bs) ∧ Dp K H vp dp ∧ Dp K H vl dl ∧ small dp = true ∧ SeqAt.shaped dp = true ∧ PyData.eqv dp dp = true ∧ nodeAt bs dp = none ∧
  shape 41 bs = true ∧ hashables bs = true ∧ (runsIn 41 bs [] []).length ≤ 1000 ∧ placeIn (runsIn 41 bs [] []).length dl = false ∧ ∀ H', SameG H H' → Q (.bl true) H'
abbrev nNowhere : List Str := ["nest", "path", "place", "error"]
theorem scNowhere : FnScope nNowhere ["nest", "path", "place"] (defScope sLNowhere) := ⟨rfl, rfl, rfl, by decide +kernel, rfl, by decide +kernel, by decide +kernel⟩
theorem ok_lnowhere {CN C2 CP CE f fA fB : Addr} {fd fdA fdB : FuncData} (F : Fun K "_law_nowhere" "_law_nowhere" sLNowhere f fd) (T : Blt mg) (N : NoC K mg C2 CP CE)
    (GA : FnOk P w K mg base (L2.CX P w) 3 fA fdA ["nest", "path"] (spNodeAt K CN C2)) (kA : PySem.W.keepIn K (.ref fA) = true) (bA : Binds K fdA ["nest", "path"] []) (gA : mg "node_at" = some (.ref fA))
    (GB : FnOk P w K mg base (L2.CX P w) 43 fB fdB ["nest", "place"] (spBoundsX K CN CP)) (kB : PySem.W.keepIn K (.ref fB) = true) (bB : Binds K fdB ["nest", "place"] []) (gB : mg "bounds" = some (.ref fB)) :
    FnOk P w K mg base CX0 44 f fd ["nest", "path", "place"] (spNowhere K CN) := by
  refine F.ok scNowhere (fun vs H Q E h => ?_) (fun cdv A outer s0 H vs Q E hr h => ?_)
  · obtain ⟨p, vb, vp, vl, dp, dl, r, bs, rfl, _⟩ := h
    rfl
  · obtain ⟨p, vb, vp, vl, dp, dl, r, bs, rfl, hN, hp, hl, sm, shp, eqv, no, sh, ha, few, pl, q⟩ := h
    have nd := scNowhere.nd
    have r3 := hr.mono (show 3 ≤ 43 by decide)
    have hu9 := hr.units
    refine ⟨_, pss_cons (L2.ps_try_as (i := 3) (c := .ref C2) rfl rfl nd rfl rfl ⟨rfl, by decide, .inl N.mg2⟩ takes0
      (fun W pn xe tk _ => pss_cons (ps_expr (pe_callS GA r3 (by rfl) gA kA bA (fun σ => passAt tk σ) (pa_cons (pv 0) (pa_cons (pv 1) pa_nil)))) (pss_one (ps_ret pe_bl)))
      (fun a oe cls d pn hz hf => pss_one (ps_if (PW.pt (pw_or (pt_cmpR (r := rNeD K) (op_neD (X := (cxOf CX0 P w K mg base nNowhere "_law_nowhere" (defScope sLNowhere) f cdv A outer s0 H E).nox.suite a ((a, oe) :: pn)) hu9) (pe_xf N.xf N.no2 hz hf (pv 3)) (pv 1) (nomark _)) (pw_or1 (pt_not (pt_val (pe_callB (call_isF N.ex2 hz hf) (by rfl) T.isi PyProof.Rows.boot_isinstance (pa_cons (pv 3) (pa_cons (pe_glob (v := .ref CE) (by rfl) N.mgE rfl) pa_nil)))))))) (pss_one (ps_ret pe_bl)) pss_nil)))
      (pss_one (L2.ps_try_as (i := 3) (c := .ref CP) rfl rfl nd rfl rfl ⟨rfl, by decide, .inl N.mgP⟩ takes0
      (fun W pn xe tk _ => pss_cons (ps_expr (pe_callS GB hr (by rfl) gB kB bB (fun σ => passAt tk σ) (pa_cons (pv 0) (pa_cons (pv 2) pa_nil)))) (pss_one (ps_ret pe_bl)))
      (fun a oe cls d pn hz hf => pss_one (ps_ret (pe_callB (call_isN N.exP hz hf) (by rfl) T.isi PyProof.Rows.boot_isinstance (pa_cons (pv 3) (pa_cons (pe_glob (v := .ref CE) (by rfl) N.mgE rfl) pa_nil))))))), ?_⟩
    refine ⟨_, rfl, _, rfl, p, vb, vp, dp, r, bs, rfl, hN, hp, sm, .inr ⟨41, sh⟩, fun nd' e => absurd (no.symm.trans e) (by intro z; cases z), fun _ H1 dx s1 hx => ?_⟩
    refine ⟨true, N.te2, fun _ a na => ?_, fun q => nomatch q⟩
    refine ⟨_, rfl, rfl, rfl, dx, _, _, rfl, hx, rfl, _, rfl, dp, dp, dp_g s1 _ _ hp, dp_g s1 _ _ hp, shp, shp, ?_⟩
    rw [eqv]
    refine ⟨_, rfl, iteF ⟨_, rfl, .ref CE, .ref CE, true, dx, _, rfl, rfl, rfl, hx, fun u hu => hu, N.one2, true, rfl, iteF ?_⟩⟩
    refine ⟨_, rfl, _, rfl, p, vb, vl, dl, r, bs, rfl, hN.g s1, dp_g s1 _ _ hl, sh, ha, few, pl, fun H2 s2 => ?_⟩
    refine ⟨true, N.teP, fun _ a2 na2 => ?_, fun q => nomatch q⟩
    exact ⟨_, rfl, .ref CE, .ref CE, true, rfl, rfl, rfl, fun u hu => hu, N.oneP, q H2 (s1.trans s2)⟩
end
end Kd
set_option maxHeartbeats 4000000
/-! what the law keeps from step to step -/
namespace Kd
open PySem L2 Lo
abbrev Only (d : Addr) : Addr → Prop := fun a => a = d
structure Tabs (TN TA TH TT : Addr) (H : Hp) : Prop where
  n : GxR.TabG H TN
  a : GxR.TabG H TA
  h : GxR.TabG H TH
  t : GxR.TabG H TT
theorem Tabs.up {TN TA TH TT : Addr} {H H' : Hp} (h : Tabs TN TA TH TT H) (k : ∀ T, GxR.TabG H T → GxR.TabG H' T) : Tabs TN TA TH TT H' := ⟨k _ h.n, k _ h.a, k _ h.h, k _ h.t⟩
theorem no_tab {H : Hp} {d T : Addr} {xs : List V} (h : H d = some (.lst xs)) (t : GxR.TabG H T) : T ≠ d := fun z => by
  obtain ⟨ps, e, _⟩ := t
  rw [z, h] at e
  exact nomatch e
theorem tab_hide {H : Hp} {d T : Addr} {xs : List V} (h : H d = some (.lst xs)) (t : GxR.TabG H T) : GxR.TabG (hide (Only d) H) T := by
  have ne := no_tab h t
  obtain ⟨ps, e, r⟩ := t
  exact ⟨ps, (hide_out (A := Only d) ne).trans e, r⟩
theorem tab_show {H : Hp} {A : Addr → Prop} {T : Addr} (t : GxR.TabG (hide A H) T) : GxR.TabG H T := by
  obtain ⟨ps, e, r⟩ := t
  exact ⟨ps, hide_sub _ _ e, r⟩
section
variable {K : PySem.W.Frag} {d s : Addr} {TN TA TH TT : Addr}
theorem sameB_hide {v : V} {H H' : Hp} {xs : List V} (h : SameB v H H') (hd' : H' d = some (.lst xs)) : SameB v (hide (Only d) H) (hide (Only d) H') := ⟨fun b o n e nt => by
  have nb : ¬ Only d b := fun z => by
    rw [hide_in z] at e
    exact nomatch e
  rw [hide_out nb]
  exact h.keep b o n (hide_sub _ _ e) nt, fun T t => tab_hide hd' (h.tab T (tab_show t))⟩
theorem draw_b {a : Addr} {vs : List (Key × V)} {H H' : Hp} {n : Int} (h : SameB (.ref a) H H') (ha : H a = some (.dK vs)) (k : DrawAt K H d s n) : DrawAt K H' d s n := by
  obtain ⟨h1, ⟨ns, h2, h3⟩, h4⟩ := k
  have nd : V.ref a ≠ .ref d := fun z => by
    injection z with z
    rw [z, h1] at ha
    exact nomatch ha
  exact ⟨h.keep _ _ nd h1 (fun ps z => nomatch z), ⟨ns, sqL_x h ha h2, h3⟩, h4⟩
theorem draw_g {H H' : Hp} {n : Int} (h : SameG H H') (k : DrawAt K H d s n) : DrawAt K H' d s n := by
  obtain ⟨h1, ⟨ns, h2, h3⟩, h4⟩ := k
  exact ⟨h.keep _ _ h1 (fun ps z => nomatch z), ⟨ns, sqL_g h h2, h3⟩, h4⟩
/-- how two heaps of the law stand to each other -/
structure Kp (K : PySem.W.Frag) (d s : Addr) (H H' : Hp) : Prop where
  dp : ∀ v x, Dp K H v x → Dp K H' v x
  hid : ∀ n, DrawAt K H d s n → ∀ v x, Dp K (hide (Only d) H) v x → Dp K (hide (Only d) H') v x
  dr : ∀ n, DrawAt K H d s n → DrawAt K H' d s n
  tab : ∀ T, GxR.TabG H T → GxR.TabG H' T
theorem Kp.same {H H' : Hp} (h : Same H H') : Kp K d s H H' := ⟨fun v x k => dp_g (SameG.of h) _ _ k, fun _ _ v x k => dp_g (SameG.of (same_hide h)) _ _ k, fun n k => k.same h, (SameG.of h).tab⟩
theorem Kp.trans {H H1 H2 : Hp} (h : Kp K d s H H1) (k : Kp K d s H1 H2) : Kp K d s H H2 := ⟨fun v x z => k.dp v x (h.dp v x z), fun n e v x z => k.hid n (h.dr n e) v x (h.hid n e v x z), fun n z => k.dr n (h.dr n z), fun T z => k.tab T (h.tab T z)⟩
theorem Kp.b {a : Addr} {vs : List (Key × V)} {H H' : Hp} (h : SameB (.ref a) H H') (ha : H a = some (.dK vs)) : Kp K d s H H' := ⟨fun v x k => dp_x h ha _ _ k, fun n e v x k => by
  have e' := draw_b h ha e
  have na : ¬ Only d a := fun z => by
    have e1 := e.1
    rw [← show a = d from z, ha] at e1
    exact nomatch e1
  exact dp_x (sameB_hide h e'.1) ((hide_out na).trans ha) _ _ k, fun n k => draw_b h ha k, h.tab⟩
theorem Kp.g {H H' : Hp} (h : SameG H H') : Kp K d s H H' := ⟨fun v x k => dp_g h _ _ k, fun n e v x k => by
  have e' := draw_g h e
  refine dp_g ⟨fun b o eb nt => ?_, fun T t => tab_hide e'.1 (h.tab T (tab_show t))⟩ _ _ k
  have nb : ¬ Only d b := fun z => by
    rw [hide_in z] at eb
    exact nomatch eb
  rw [hide_out nb]
  exact h.keep b o (hide_sub _ _ eb) nt, fun n k => draw_g h k, h.tab⟩
theorem Kp.r {r : RD} {v : V} {H H' : Hp} (hr : RoomIs K H v r) (h : SameR r v H H') : Kp K d s H H' := by
  cases r with
  | data x => exact Kp.g h
  | dict kvs =>
    obtain ⟨a, vs, rfl, ha, _, _⟩ := hr
    exact Kp.b h ha
theorem hide_d {H H' : Hp} (sD : SameD d H H') : Same (hide (Only d) H) (hide (Only d) H') := fun b o e => by
  have nb : ¬ Only d b := fun z => by
    rw [hide_in z] at e
    exact nomatch e
  rw [hide_out nb]
  exact sD b o nb (hide_sub _ _ e)
theorem Tabs.pick {H H' : Hp} {xs : List V} (hd : H d = some (.lst xs)) (sD : SameD d H H') (h : Tabs TN TA TH TT H) : Tabs TN TA TH TT H' := h.up fun T t => by
  have ne := no_tab hd t
  obtain ⟨ps, e, r⟩ := t
  exact ⟨ps, sD _ _ ne e, r⟩
theorem mem_dps {H : Hp} : ∀ {xs : List V} {ds : List PyData} {x : V}, DpAll K H xs ds → x ∈ xs → ∃ d ∈ ds, Dp K H x d
  | _, _, _, .nil, m => nomatch m
  | _, _, x, .cons a b, m => by
    rcases List.mem_cons.mp m with rfl | m
    · exact ⟨_, List.mem_cons_self, a⟩
    · obtain ⟨e, he, k⟩ := mem_dps b m
      exact ⟨e, List.mem_cons_of_mem _ he, k⟩
/-- the second argument of _law_pick is a new list of data -/
theorem pick_go {Γ : L2.St → Hp → Prop} {ds : List PyData} {σ : L2.St} {H : Hp} {Q : VK} {n : Int} (hd : DrawAt K H d s n) (g : Γ σ (hide (Only d) H)) (hne : ds ≠ [])
    (q : ∀ H2 n2 x nd, SameD d H H2 → DrawAt K H2 d s n2 → nd ∈ ds → Dp K (hide (Only d) H2) x nd → Q x H2) : tNew K Γ ds σ H (fun a H1 => spLPick K ([V.ref d, a] ++ []) H1 Q E0) := by
  refine ⟨Only d, fun a z => by rw [show a = d from z, hd.1]; exact Option.some_ne_none _, g, fun H1 l xs s1 nl hl dl => ?_⟩
  have ne : l ≠ d := fun z => by
    rw [z, hd.1] at nl
    exact nomatch nl
  refine ⟨d, s, l, n, xs, rfl, hd.same s1, ne, .inl (SqL.of hl), fun z => ?_, fun H2 n2 x sD hd2 hx => ?_⟩
  · rw [z] at dl
    cases dl
    exact hne rfl
  · obtain ⟨nd, hm, dx⟩ := mem_dps dl hx
    refine q H2 n2 x nd ((SameD.of s1).trans sD) hd2 hm (dp_g (SameG.of fun b o e => ?_) _ _ dx)
    have nb : ¬ (Only d b ∨ b = l) := fun z => by
      rw [hide_in (A := fun a => Only d a ∨ a = l) z] at e
      exact nomatch e
    rw [hide_out fun z => nb (.inl z)]
    exact sD b o (fun z => nb (.inl z)) (hide_sub _ _ e)
/-- _law_refused of ('n',), (), r, (), what te tells -/
theorem plain_go {r : RD} {te : TE} {σ : L2.St} {H : Hp} {Q : VK} (h : ∀ (H1 : Hp) (Qt : VK), Same H H1 → (∀ vb b H2, Same H1 H2 → Dp K H2 vb b → refusedB (.tuple [.str "n"]) (.tuple []) r (.tuple []) b = true → Qt vb H2) → te σ H1 Qt) (tb : Tabs TN TA TH TT H) (q : ∀ H3, Kp K d s H H3 → Q (.bl true) H3) :
    tCall (spRefused K TN TA TH TT) [] E0 (tCons (tData K (EnvOk K 0 []) (.tuple [.str "n"])) (tCons (tData K (EnvOk K 0 []) (.tuple [])) (tCons (tIt (RoomIs K) (EnvOk K 0 []) r) (tCons (tData K (EnvOk K 0 []) (.tuple [])) (tCons te tNil))))) σ H Q := by
  refine tell noEnv fun H1 v1 s1 d1 => tell noEnv fun H2 v2 s2 d2 => ⟨fun _ => False, out_no, noEnv, fun H3 v3 s3 d3 => tell noEnv fun H4 v4 s4 d4 => ?_⟩
  rw [hide_no] at d3
  have s14 := s2.trans (s3.trans s4)
  have s04 := s1.trans s14
  refine h H4 _ s04 fun vb b H5 s5 d5 ok => ?_
  have s05 := s04.trans s5
  have d3' := room_up.up _ _ _ _ (s4.trans s5) d3
  have t5 := tb.up (SameG.of s05).tab
  refine ⟨v1, v2, v3, v4, vb, _, _, _, b, r, rfl, dp_g (SameG.of (s14.trans s5)) _ _ d1, dp_g (SameG.of (s3.trans (s4.trans s5))) _ _ d2, d3', dp_g (SameG.of s5) _ _ d4, d5, ok, t5.n, t5.a, t5.h, t5.t, fun H6 s6 => q H6 ((Kp.same s05).trans (Kp.r d3' s6))⟩
end
end Kd
set_option maxHeartbeats 8000000
/-! the law: its start and its loop -/
namespace Kd
open PySem L2 Lo
abbrev nLaw : List Str := ["script", "draw", "run", "turn", "node", "around", "parts", "two", "three", "names", "many", "nest", "paths", "path", "place", "at"]
abbrev lst_ (i : Nat) : Stmt := (defBody sLaw).getD i (.Pass ⟨0, 0, 0, 0⟩)
theorem scLaw : FnScope nLaw ["script"] (defScope sLaw) := ⟨rfl, rfl, rfl, by decide +kernel, rfl, by decide +kernel, by decide +kernel⟩
/-- what stands all through the law -/
structure LB (K : PySem.W.Frag) (d s TN TA TH TT : Addr) (vr : V) (σ : L2.St) (H : Hp) : Prop where
  len : σ.length = 16
  e1 : σ[1]? = some (some (.ref d))
  e2 : σ[2]? = some (some vr)
  dr : ∃ n, DrawAt K H d s n
  run : Dp K (hide (Only d) H) vr bigRunD
  tb : Tabs TN TA TH TT H
section
variable {K : PySem.W.Frag} {d s TN TA TH TT : Addr} {vr : V} {σ : L2.St} {H H' : Hp}
theorem LB.set (h : LB K d s TN TA TH TT vr σ H) (i : Nat) (x : Option V) (hi : 3 ≤ i := by decide) : LB K d s TN TA TH TT vr (σ.set i x) H := ⟨by rw [List.length_set]; exact h.len, by rw [List.getElem?_set_ne (by omega)]; exact h.e1, by rw [List.getElem?_set_ne (by omega)]; exact h.e2, h.dr, h.run, h.tb⟩
theorem LB.kp (h : LB K d s TN TA TH TT vr σ H) (k : Kp K d s H H') : LB K d s TN TA TH TT vr σ H' := by
  obtain ⟨n, e⟩ := h.dr
  exact ⟨h.len, h.e1, h.e2, ⟨n, k.dr n e⟩, k.hid n e _ _ h.run, h.tb.up k.tab⟩
theorem LB.pick {n : Int} (h : LB K d s TN TA TH TT vr σ H) (sD : SameD d H H') (e : DrawAt K H' d s n) : LB K d s TN TA TH TT vr σ H' := by
  obtain ⟨n0, e0⟩ := h.dr
  exact ⟨h.len, h.e1, h.e2, ⟨n, e⟩, dp_g (SameG.of (hide_d sD)) _ _ h.run, h.tb.pick e0.1 sD⟩
theorem LB.env (h : LB K d s TN TA TH TT vr σ H) : EnvOk K 16 [("run", 2, bigRunD)] σ (hide (Only d) H) := env_cons h.e2 h.run (env_nil (Nat.le_of_eq h.len.symm))
theorem set_at {i : Nat} {x : Option V} (h : i < σ.length) : (σ.set i x)[i]? = some x := List.getElem?_set_self h
end
def LX_ (K : PySem.W.Frag) (s TN TA TH TT : Addr) (σ : L2.St) (H : Hp) : Prop := ∃ d vr, LB K d s TN TA TH TT vr σ H
theorem refusedL_is {rs : List RD} (h : refusedL rs = true) : ∃ z g r k b, rs = [.data z, .data g, r, .data k, .data b] ∧ refusedB z g r k b = true := by
  unfold refusedL at h
  split at h
  · exact ⟨_, _, _, _, _, rfl, h⟩
  · exact nomatch h
section
variable {P : Program} {w : World} {K : PySem.W.Frag} {mg : Str → Option Value} {base : Heap} {f : Addr} {cdv : Value} {A : Around} {outer : List Env} {s0 : Shared} {H0 : Hp} {E : XK}
/-- a step: what must hold before it, what holds behind it -/
def Step (X : Cx) (st : Stmt) (Pre Post : L2.St → Hp → Prop) : Prop := ∃ t, PS X st t ∧ ∀ D σ H, Pre σ H → (∀ σ' H', Post σ' H' → D.nx σ' H') → t D σ H
theorem pe_nodes {ρ : Nm} {e : Expr} {ds : List PyData} (G : PyData → List PyData) (h : ∀ nd, PE ((cxOf CX0 P w K mg base nLaw "law" (defScope sLaw) f cdv A outer s0 H0 E).nox) e (tNew K (EnvOk K 16 (("node", 4, nd) :: ρ)) (G nd))) : PE ((cxOf CX0 P w K mg base nLaw "law" (defScope sLaw) f cdv A outer s0 H0 E).nox) e (fun σ H Q => ∃ nd ∈ ds, tNew K (EnvOk K 16 (("node", 4, nd) :: ρ)) (G nd) σ H Q) := ⟨fun pins s σ H Q I ⟨nd, _, q⟩ => (h nd).run pins s σ H Q I q⟩
theorem st_loop {s TN TA TH TT fP fN fR fH : Addr} {fdP fdN fdR fdH : FuncData} (L : Nat) (hL : 4 ≤ L) (hr : Room L (cxOf CX0 P w K mg base nLaw "law" (defScope sLaw) f cdv A outer s0 H0 E).nox.A) (hrange : mg "range" = none)
    (GP : FnOk P w K mg base CX0 3 fP fdP ["draw", "items"] (spLPick K)) (kP : PySem.W.keepIn K (.ref fP) = true) (bP : Binds K fdP ["draw", "items"] []) (gP : mg "_law_pick" = some (.ref fP))
    (GN : FnOk P w K mg base CX0 2 fN fdN [] (spNew K badNodesD)) (kN : PySem.W.keepIn K (.ref fN) = true) (bN : Binds K fdN [] []) (gN : mg "_law_bad_nodes" = some (.ref fN))
    (GR : FnOk P w K mg base CX0 L fR fdR ["sizes", "given", "rooms", "kept", "body"] (spRefused K TN TA TH TT)) (kR : PySem.W.keepIn K (.ref fR) = true) (bR : Binds K fdR ["sizes", "given", "rooms", "kept", "body"] []) (gR : mg "_law_refused" = some (.ref fR))
    (GH : FnOk P w K mg base CX0 4 fH fdH ["draw", "body"] (spBadHeads K)) (kH : PySem.W.keepIn K (.ref fH) = true) (bH : Binds K fdH ["draw", "body"] []) (gH : mg "_law_bad_heads" = some (.ref fH)) :
    Step ((cxOf CX0 P w K mg base nLaw "law" (defScope sLaw) f cdv A outer s0 H0 E).nox) (lst_ 2) (LX_ K s TN TA TH TT) (LX_ K s TN TA TH TT) := by
  have nd := scLaw.nd
  have r2 := hr.mono (show 2 ≤ L by omega)
  have r3 := hr.mono (show 3 ≤ L by omega)
  have r4 := hr.mono (show 4 ≤ L by omega)
  have hNo : ∀ x, NamesOk ((cxOf CX0 P w K mg base nLaw "law" (defScope sLaw) f cdv A outer s0 H0 E).nox) [("node", 4, x), ("run", 2, bigRunD)] := fun x => nm_cons rfl (.inl rfl) (nm_cons rfl (.inl rfl) noNames)
  refine ⟨_, ps_for PassesOwn.never rfl (pi_range1 (by rfl) hrange (pa_cons pe_int pa_nil)) (pg_name (i := 3) nd rfl (.inl rfl))
    (pss_cons (ps_set (i := 4) nd rfl (.inl rfl) (pe_call GP r3 (by rfl) gP kP bP .nil pass0 (pa_cons (pv 1) (pa_cons (pe_newCall (Γ := fun _ _ => True) r2 GN (by rfl) gN kN bN) pa_nil))))
    (pss_cons (ps_set (i := 5) nd rfl (.inl rfl) (pe_call GP r3 (by rfl) gP kP bP .nil pass0 (pa_cons (pv 1) (pa_cons (pe_nodes (ρ := [("run", 2, bigRunD)]) (ds := badNodesD) arounds (fun x => pe_lstN (pa_w 12 rfl (hNo x) rfl) (by show 4 ≤ 1000; decide))) pa_nil))))
    (pss_cons (ps_if (pt_not (pt_val (pe_call GR hr (by rfl) gR kR bR .nil pass0 (pa_cons (pe_w (K := K) (Ln := 0) (d := .tuple [.str "n"]) 8 rfl noNames (by kernel_rfl)) (pa_cons (pe_w (K := K) (Ln := 0) (d := .tuple []) 8 rfl noNames (by kernel_rfl)) (pa_cons (pe_room (Ln := 0) (r := .dict []) rfl noNames 8 (by kernel_rfl)) (pa_cons (pe_w (K := K) (Ln := 0) (d := .tuple []) 8 rfl noNames (by kernel_rfl)) (pa_cons (pv 5) pa_nil)))))))) (pss_one (ps_ret pe_bl)) pss_nil)
    (pss_cons (ps_set (i := 6) nd rfl (.inl rfl) (pe_call GH r4 (by rfl) gH kH bH .nil pass0 (pa_cons (pv 1) (pa_cons (pe_tup (pa_cons (pv 2) pa_nil)) pa_nil))))
    (pss_one (ps_if (pt_not (pt_val (pe_call GR hr (by rfl) gR kR bR .nil pass0 (pa_cons (pe_ix ix_list (pv 6) pe_int (fun _ _ => rfl)) (pa_cons (pe_ix ix_list (pv 6) pe_int (fun _ _ => rfl)) (pa_cons (pe_ix ix_list (pv 6) pe_int (fun _ _ => rfl)) (pa_cons (pe_ix ix_list (pv 6) pe_int (fun _ _ => rfl)) (pa_cons (pe_ix ix_list (pv 6) pe_int (fun _ _ => rfl)) pa_nil)))))))) (pss_one (ps_ret pe_bl)) pss_nil)))))), fun D σ H ⟨d, vr, pre⟩ nx => ?_⟩
  refine ⟨12, rfl, by decide, by decide, for_range (lo := 0) (n := 12) (fun _ σ H => LB K d s TN TA TH TT vr σ H) pre ?_ (fun σ H h => nx σ H ⟨d, vr, h⟩)⟩
  intro i σ H hi h
  have h3 := h.set 3 (some (.int (0 + (i : Nat))))
  obtain ⟨n0, dr0⟩ := h3.dr
  refine ⟨_, h3.e1, pick_go dr0 trivial (by decide) fun H1 n1 x ndd sD1 dr1 hm1 dx => ?_⟩
  have h4 := (h3.pick sD1 dr1).set 4 (some x)
  have e4 : ((σ.set 3 (some (.int (0 + (i : Nat))))).set 4 (some x))[4]? = some (some x) := set_at (by rw [h3.len]; decide)
  refine ⟨_, h4.e1, ndd, hm1, pick_go (Γ := EnvOk K 16 [("node", 4, ndd), ("run", 2, bigRunD)]) dr1 (env_cons e4 dx h4.env) (by intro z; cases z) fun H2 n2 y ar sD2 dr2 hm2 dy => ?_⟩
  have h5 := (h4.pick sD2 dr2).set 5 (some y)
  have e5 : (((σ.set 3 (some (.int (0 + (i : Nat))))).set 4 (some x)).set 5 (some y))[5]? = some (some y) := set_at (by rw [h4.len]; decide)
  have okn := List.all_eq_true.mp (List.all_eq_true.mp nodes_bad _ hm1) _ hm2
  refine plain_go (r := .dict []) (te := tVar 5) (d := d) (s := s) (fun H3 Qt s3 k => ⟨_, e5, k y ar H3 (Same.refl _) (dp_g (SameG.of (hide_sub.trans s3)) _ _ dy) okn⟩) h5.tb fun H3 k3 => ⟨true, rfl, iteF ?_⟩
  have h6 := h5.kp k3
  obtain ⟨n3, dr3⟩ := h6.dr
  refine ⟨_, h6.e1, _, h6.e2, by show 1 ≤ sizeLine; decide, fun p np => ?_⟩
  have sp := same_upd (o := HO.tup [vr]) np
  have nAp : ¬ Only d p := fun z => by
    rw [show p = d from z, dr3.1] at np
    exact nomatch np
  refine ⟨d, s, .ref p, n3, rfl, dr3.same sp, .tup (SqT.of ((hide_out nAp).trans upd_same)) (.cons (dp_g (SameG.of (same_hide sp)) _ _ h6.run) .nil), fun H4 l n4 ws hh sD4 dr4 nl hl hm it => ?_⟩
  have h7 := ((h6.kp (Kp.same sp)).pick sD4 dr4).set 6 (some (.ref l))
  have e6 : ((((σ.set 3 (some (.int (0 + (i : Nat))))).set 4 (some x)).set 5 (some y)).set 6 (some (V.ref l)))[6]? = some (some (.ref l)) := set_at (by rw [h6.len]; decide)
  have hb := List.all_eq_true.mp heads_bad _ hm
  rw [Bool.and_eq_true] at hb
  obtain ⟨z, g, r, k, b, eL, ok⟩ := refusedL_is hb.2
  rw [eL] at it
  match ws, it with
  | [w0, w1, w2, w3, w4], ⟨b0, b1, b2, b3, b4, _⟩ =>
    have hq := SqL.of (K := K) hl
    refine ⟨_, e6, l, _, 0, w0, rfl, rfl, hq, atI_nat (j := 0) rfl, _, e6, l, _, 1, w1, rfl, rfl, hq, atI_nat (j := 1) rfl, _, e6, l, _, 2, w2, rfl, rfl, hq, atI_nat (j := 2) rfl, _, e6, l, _, 3, w3, rfl, rfl, hq, atI_nat (j := 3) rfl, _, e6, l, _, 4, w4, rfl, rfl, hq, atI_nat (j := 4) rfl, ?_⟩
    have t7 := h7.tb
    exact ⟨w0, w1, w2, w3, w4, z, g, k, b, r, rfl, b0, b1, b2, b3, b4, ok, t7.n, t7.a, t7.h, t7.t, fun H5 s5 => ⟨true, rfl, iteF (h7.kp (Kp.r b2 s5))⟩⟩
end
end Kd
set_option maxHeartbeats 8000000
/-! the law: two, three, deep -/
namespace Kd
open PySem L2 Lo
def twoL : List PyData := [.tuple [.str "run", .str "g", .tuple [], .tuple [.str "z", .tuple []], .tuple []], .tuple [.str "run", .str "h", .tuple [], .tuple [.str "z", .tuple [.tuple [.str "n", .int 0]]], .tuple []]]
def threeL : List PyData := [.tuple [.str "run", .str "g", .tuple [], .tuple [.str "z", .tuple []], .tuple []], .tuple [.str "run", .str "g", .tuple [.tuple [.str "n", .int 0]], .tuple [.str "z", .tuple []], .tuple []], .tuple [.str "run", .str "g", .tuple [], .tuple [.str "z", .tuple []], .tuple [.tuple [.str "z", .tuple []]]]]
def zRoom : RD := .dict [(.inr "z", .tuple [.tuple [.tuple [.str "0", .int 0], .tuple [.str "n", .int 0]]])]
abbrev bodyA : PyData := .tuple (twoL.take 1)
def thr (i : Nat) : PyData := threeL.getD i .none
abbrev bodyB : PyData := .tuple [thr 0, thr 1]
abbrev bodyC : PyData := .tuple [thr 0, .tuple [.str "test", .tuple [.tuple [.str "n", .str "0", .int 3]], .tuple [thr 2]]]
theorem two_bad : (plainD (.tuple twoL) && refusedB (.tuple [.str "n"]) (.tuple []) zRoom (.tuple []) bodyA) = true := by decide +kernel
theorem three_bad : (plainD bodyB && plainD bodyC) = true := by decide +kernel
theorem deep_bad : (plainD (.tuple [deepD 40]) && plainD (.tuple [deepD 90])) = true := by decide +kernel
section
variable {X : Cx} {K : PySem.W.Frag} {Γ : L2.St → Hp → Prop} {Ln : Nat}
theorem pe_takeL {e : Expr} {p1 p2 pos : Pos} {j : Nat} {k : Nat} {ds : List PyData} (hK : X.K = K) (he : PE X e (tData K Γ (.list ds))) (hk : k < ds.length) : PE X (.Subscript e (.Slice none (some (.Constant (.int k) j p1)) none p2) pos) (tData K Γ (.list (ds.take k))) := by
  subst hK
  refine PE.imp (pe_slice sl_list he po_none (po_some pe_int)) fun σ H Q ⟨A, o, g, q⟩ => ⟨A, o, g, fun H1 v s1 d1 => ?_⟩
  cases d1 with
  | @lst p xs _ hp hA =>
  have hl := dps_len hA
  have e1 : HT.sIx xs.length xs.length (some (k : Int)) = k := by
    rw [HT.sIx_nat, hl]
    omega
  refine ⟨k, rfl, p, xs, rfl, sqL_g (SameG.of hide_sub) hp, fun p' np => ?_⟩
  have ec : cutV xs none (some (k : Int)) = xs.take k := by
    unfold cutV
    rw [e1, show HT.sIx xs.length 0 none = 0 from rfl, List.drop_zero]
    rfl
  rw [ec]
  exact q _ _ (s1.trans (same_upd np)) (.lst (SqL.of (hide_new (o.same s1) np)) (dps_take k (dps_g (SameG.of (same_hide (same_upd np))) _ _ hA)))
theorem dps_get {H : Hp} {xs : List V} {ds : List PyData} (h : DpAll K H xs ds) {i : Nat} {d : PyData} (e : ds[i]? = some d) : ∃ v, xs[i]? = some v ∧ Dp K H v d := by
  have hl := dps_len h
  have hi : i < xs.length := by
    rw [hl]
    exact (List.getElem?_eq_some_iff.mp e).1
  obtain ⟨d', e', k⟩ := dps_at h (List.getElem?_eq_getElem hi)
  rw [e] at e'
  obtain rfl := Option.some.inj e'
  exact ⟨_, List.getElem?_eq_getElem hi, k⟩
theorem pe_atL {e : Expr} {p1 pos : Pos} {j : Nat} {k : Nat} {d : PyData} {ds : List PyData} (hK : X.K = K) (he : PE X e (tData K Γ (.list ds))) (hd : ds[k]? = some d) : PE X (.Subscript e (.Constant (.int k) j p1) pos) (tData K Γ d) := by
  subst hK
  refine PE.imp (pe_ix ix_list he pe_int (fun _ _ => rfl)) fun σ H Q ⟨A, o, g, q⟩ => ⟨A, o, g, fun H1 v s1 d1 => ?_⟩
  cases d1 with
  | @lst p xs _ hp hA =>
  obtain ⟨x, ex, dx⟩ := dps_get hA hd
  exact ⟨p, _, (k : Nat), x, rfl, rfl, sqL_g (SameG.of hide_sub) hp, atI_nat ex, q _ _ s1 dx⟩
theorem pe_deepD {x : Str} {p p1 pos : Pos} {j n k : Nat} {fD : Addr} {fdD : FuncData} (hn : n ≤ 100) (G : FnOk X.prog X.w X.K X.mg X.base CX0 k fD fdD ["many"] (spDeep X.K)) (hr : Room k X.A) (hg : Gl X x) (hm : X.mg x = some (.ref fD)) (hk : PySem.W.keepIn X.K (.ref fD) = true) (hb : Binds X.K fdD ["many"] [])
    (hdb : (x == ("__debug__" : Str)) = false := by decide) : PE X (.Call (.Name x p) [.Constant (.int n) j p1] [] pos) (tData X.K Γ (deepD n)) :=
  PE.imp (pe_call G hr hg hm hk hb .nil pass0 (pa_cons pe_int pa_nil) hdb) fun σ H Q ⟨A, o, g, q⟩ => ⟨n, rfl, hn, A, o, q⟩
end
/-- the base, and data in a slot -/
def LV (K : PySem.W.Frag) (s TN TA TH TT : Addr) (i : Nat) (x : PyData) (σ : L2.St) (H : Hp) : Prop := ∃ d vr, LB K d s TN TA TH TT vr σ H ∧ ∃ v, σ[i]? = some (some v) ∧ Dp K H v x
section
variable {P : Program} {w : World} {K : PySem.W.Frag} {mg : Str → Option Value} {base : Heap} {f : Addr} {cdv : Value} {A : Around} {outer : List Env} {s0 : Shared} {H0 : Hp} {E : XK}
theorem st_lit {s TN TA TH TT : Addr} {i : Nat} {x : Str} {e : Expr} {d : PyData} {pos px : Pos} (n : Nat) (hi : 3 ≤ i) (hi2 : i < 16) (hN : nLaw[i]? = some x) (hx : Loc (defScope sLaw) x) (h : litE [] n e = some d) (hs : swapsWith e (some (.Name x px)) pos.line (((cxOf CX0 P w K mg base nLaw "law" (defScope sLaw) f cdv A outer s0 H0 E).nox)).env = pure false) (hf : (((cxOf CX0 P w K mg base nLaw "law" (defScope sLaw) f cdv A outer s0 H0 E).nox)).fn x = true ∨ (((cxOf CX0 P w K mg base nLaw "law" (defScope sLaw) f cdv A outer s0 H0 E).nox)).env.scope.names.lookup x = some .local) :
    Step ((cxOf CX0 P w K mg base nLaw "law" (defScope sLaw) f cdv A outer s0 H0 E).nox) (.Assign [.Name x px] e pos) (LX_ K s TN TA TH TT) (LV K s TN TA TH TT i d) :=
  ⟨_, ps_set (i := i) scLaw.nd hN hx (pe_w (K := K) (Ln := 0) (d := d) n rfl noNames h) hs hf, fun D σ H ⟨da, vr, b⟩ nx => tell noEnv fun H1 v s1 d1 => nx _ _ ⟨da, vr, (b.kp (Kp.same s1)).set i _ hi, v, set_at (by rw [b.len]; exact hi2), d1⟩⟩
theorem st_two {s TN TA TH TT : Addr} : Step ((cxOf CX0 P w K mg base nLaw "law" (defScope sLaw) f cdv A outer s0 H0 E).nox) (lst_ 3) (LX_ K s TN TA TH TT) (LV K s TN TA TH TT 7 (.list twoL)) := st_lit 12 (by decide) (by decide) rfl (.inl rfl) (by kernel_rfl) rfl (.inr rfl)
theorem st_three {s TN TA TH TT : Addr} : Step ((cxOf CX0 P w K mg base nLaw "law" (defScope sLaw) f cdv A outer s0 H0 E).nox) (lst_ 5) (LX_ K s TN TA TH TT) (LV K s TN TA TH TT 8 (.list threeL)) := st_lit 12 (by decide) (by decide) rfl (.inl rfl) (by kernel_rfl) rfl (.inr rfl)
theorem st_two2 {s TN TA TH TT fR : Addr} {fdR : FuncData} (L : Nat) (hr : Room L (((cxOf CX0 P w K mg base nLaw "law" (defScope sLaw) f cdv A outer s0 H0 E).nox)).A) (T : Blt mg)
    (GR : FnOk P w K mg base CX0 L fR fdR ["sizes", "given", "rooms", "kept", "body"] (spRefused K TN TA TH TT)) (kR : PySem.W.keepIn K (.ref fR) = true) (bR : Binds K fdR ["sizes", "given", "rooms", "kept", "body"] []) (gR : mg "_law_refused" = some (.ref fR)) :
    Step ((cxOf CX0 P w K mg base nLaw "law" (defScope sLaw) f cdv A outer s0 H0 E).nox) (lst_ 4) (LV K s TN TA TH TT 7 (.list twoL)) (LX_ K s TN TA TH TT) := by
  have hN : NamesOk ((cxOf CX0 P w K mg base nLaw "law" (defScope sLaw) f cdv A outer s0 H0 E).nox) [("two", 7, .list twoL)] := nm_cons rfl (.inl rfl) noNames
  refine ⟨_, ps_if (PW.pt (pw_or (pt_not (pt_val (pe_call GR hr (by rfl) gR kR bR .nil pass0 (pa_cons (pe_w (K := K) (Ln := 0) (d := .tuple [.str "n"]) 8 rfl noNames (by kernel_rfl)) (pa_cons (pe_w (K := K) (Ln := 0) (d := .tuple []) 8 rfl noNames (by kernel_rfl)) (pa_cons (pe_room (K := K) (Ln := 0) (r := .dict []) rfl noNames 8 (by kernel_rfl)) (pa_cons (pe_w (K := K) (Ln := 0) (d := .tuple []) 8 rfl noNames (by kernel_rfl)) (pa_cons (pe_tupOf (K := K) (ds := twoL) rfl (by rfl) T.tuple (pe_w (Ln := 16) (K := K) 4 rfl hN rfl)) pa_nil)))))))) (pw_or1 (pt_not (pt_val (pe_call GR hr (by rfl) gR kR bR .nil pass0 (pa_cons (pe_w (K := K) (Ln := 0) (d := .tuple [.str "n"]) 8 rfl noNames (by kernel_rfl)) (pa_cons (pe_w (K := K) (Ln := 0) (d := .tuple []) 8 rfl noNames (by kernel_rfl)) (pa_cons (pe_room (K := K) (Ln := 0) (r := zRoom) rfl noNames 8 (by kernel_rfl)) (pa_cons (pe_w (K := K) (Ln := 0) (d := .tuple []) 8 rfl noNames (by kernel_rfl)) (pa_cons (pe_tupOf (K := K) (ds := twoL.take 1) rfl (by rfl) T.tuple (pe_takeL (ds := twoL) (k := 1) rfl (pe_w (Ln := 16) (K := K) 4 rfl hN rfl) (by decide))) pa_nil))))))))))) (pss_one (ps_ret pe_bl)) pss_nil, fun D σ H ⟨d, vr, b, v, e7, dv⟩ nx => ?_⟩
  have ok := two_bad
  rw [Bool.and_eq_true] at ok
  refine plain_go (d := d) (s := s) (fun H1 Qt s1 k => tell (env_cons e7 (dp_g (SameG.of s1) _ _ dv) (env_nil (Nat.le_of_eq b.len.symm))) fun H2 u s2 d2 => k u _ H2 s2 d2 ok.1) b.tb fun H1 k1 => ⟨true, rfl, iteF ?_⟩
  have b1 := b.kp k1
  refine plain_go (d := d) (s := s) (fun H2 Qt s2 k => tell (env_cons e7 (dp_g (SameG.of s2) _ _ (k1.dp _ _ dv)) (env_nil (Nat.le_of_eq b.len.symm))) fun H3 u s3 d3 => k u _ H3 s3 d3 ok.2) b1.tb fun H2 k2 => ⟨true, rfl, iteF ?_⟩
  exact nx _ _ ⟨d, vr, b1.kp k2⟩
theorem st_three2 {s TN TA TH TT fR : Addr} {fdR : FuncData} (L : Nat) (hr : Room L (((cxOf CX0 P w K mg base nLaw "law" (defScope sLaw) f cdv A outer s0 H0 E).nox)).A) (T : Blt mg)
    (GR : FnOk P w K mg base CX0 L fR fdR ["sizes", "given", "rooms", "kept", "body"] (spRefused K TN TA TH TT)) (kR : PySem.W.keepIn K (.ref fR) = true) (bR : Binds K fdR ["sizes", "given", "rooms", "kept", "body"] []) (gR : mg "_law_refused" = some (.ref fR)) :
    Step ((cxOf CX0 P w K mg base nLaw "law" (defScope sLaw) f cdv A outer s0 H0 E).nox) (lst_ 6) (LV K s TN TA TH TT 8 (.list threeL)) (LX_ K s TN TA TH TT) := by
  have hN : NamesOk ((cxOf CX0 P w K mg base nLaw "law" (defScope sLaw) f cdv A outer s0 H0 E).nox) [("three", 8, .list threeL)] := nm_cons rfl (.inl rfl) noNames
  have hΓ : ∀ σ H H', Same H H' → EnvOk K 16 [("three", 8, .list threeL)] σ H → EnvOk K 16 [("three", 8, .list threeL)] σ H' := fun σ H H' s g => g.same s
  refine ⟨_, ps_if (PW.pt (pw_or (pt_not (pt_val (pe_call GR hr (by rfl) gR kR bR .nil pass0 (pa_cons (pe_w (K := K) (Ln := 0) (d := .tuple [.str "n"]) 8 rfl noNames (by kernel_rfl)) (pa_cons (pe_w (K := K) (Ln := 0) (d := .tuple []) 8 rfl noNames (by kernel_rfl)) (pa_cons (pe_room (K := K) (Ln := 0) (r := .dict []) rfl noNames 8 (by kernel_rfl)) (pa_cons (pe_w (K := K) (Ln := 0) (d := .tuple []) 8 rfl noNames (by kernel_rfl)) (pa_cons (pe_tupD (ds := [thr 0, thr 1]) (pa_data hΓ (pe_atL (d := thr 0) (k := 0) rfl (pe_w (d := .list threeL) (Ln := 16) (K := K) 4 rfl hN rfl) rfl) (pa_data hΓ (pe_atL (d := thr 1) (k := 1) rfl (pe_w (d := .list threeL) (Ln := 16) (K := K) 4 rfl hN rfl) rfl) pa_data0)) (by decide)) pa_nil)))))))) (pw_or1 (pt_not (pt_val (pe_call GR hr (by rfl) gR kR bR .nil pass0 (pa_cons (pe_w (K := K) (Ln := 0) (d := .tuple [.str "n"]) 8 rfl noNames (by kernel_rfl)) (pa_cons (pe_w (K := K) (Ln := 0) (d := .tuple []) 8 rfl noNames (by kernel_rfl)) (pa_cons (pe_room (K := K) (Ln := 0) (r := .dict []) rfl noNames 8 (by kernel_rfl)) (pa_cons (pe_w (K := K) (Ln := 0) (d := .tuple []) 8 rfl noNames (by kernel_rfl)) (pa_cons (pe_tupD (ds := [thr 0, .tuple [.str "test", .tuple [.tuple [.str "n", .str "0", .int 3]], .tuple [thr 2]]]) (pa_data hΓ (pe_atL (d := thr 0) (k := 0) rfl (pe_w (d := .list threeL) (Ln := 16) (K := K) 4 rfl hN rfl) rfl) (pa_data hΓ (pe_tupD (ds := [.str "test", .tuple [.tuple [.str "n", .str "0", .int 3]], .tuple [thr 2]]) (pa_data hΓ (pe_w (K := K) (Ln := 16) (d := .str "test") 4 rfl hN (by kernel_rfl)) (pa_data hΓ (pe_w (K := K) (Ln := 16) (d := .tuple [.tuple [.str "n", .str "0", .int 3]]) 8 rfl hN (by kernel_rfl)) (pa_data hΓ (pe_tupD (ds := [thr 2]) (pa_data hΓ (pe_atL (d := thr 2) (k := 2) rfl (pe_w (d := .list threeL) (Ln := 16) (K := K) 4 rfl hN rfl) rfl) pa_data0) (by decide)) pa_data0))) (by decide)) pa_data0)) (by decide)) pa_nil))))))))))) (pss_one (ps_ret pe_bl)) pss_nil, fun D σ H ⟨d, vr, b, v, e7, dv⟩ nx => ?_⟩
  have ok := three_bad
  rw [Bool.and_eq_true] at ok
  refine plain_go (d := d) (s := s) (fun H1 Qt s1 k => tell (env_cons e7 (dp_g (SameG.of s1) _ _ dv) (env_nil (Nat.le_of_eq b.len.symm))) fun H2 u s2 d2 => k u _ H2 s2 d2 ok.1) b.tb fun H1 k1 => ⟨true, rfl, iteF ?_⟩
  have b1 := b.kp k1
  refine plain_go (d := d) (s := s) (fun H2 Qt s2 k => tell (env_cons e7 (dp_g (SameG.of s2) _ _ (k1.dp _ _ dv)) (env_nil (Nat.le_of_eq b.len.symm))) fun H3 u s3 d3 => k u _ H3 s3 d3 ok.2) b1.tb fun H2 k2 => ⟨true, rfl, iteF ?_⟩
  exact nx _ _ ⟨d, vr, b1.kp k2⟩
theorem st_deep {s TN TA TH TT fR : Addr} {fdR : FuncData} (L : Nat) (hr : Room L (((cxOf CX0 P w K mg base nLaw "law" (defScope sLaw) f cdv A outer s0 H0 E).nox)).A) (T : Blt mg)
    (GR : FnOk P w K mg base CX0 L fR fdR ["sizes", "given", "rooms", "kept", "body"] (spRefused K TN TA TH TT)) (kR : PySem.W.keepIn K (.ref fR) = true) (bR : Binds K fdR ["sizes", "given", "rooms", "kept", "body"] []) (gR : mg "_law_refused" = some (.ref fR))
    {fD : Addr} {fdD : FuncData} (r1 : Room 1 (((cxOf CX0 P w K mg base nLaw "law" (defScope sLaw) f cdv A outer s0 H0 E).nox)).A) (GD : FnOk P w K mg base CX0 1 fD fdD ["many"] (spDeep K)) (kD : PySem.W.keepIn K (.ref fD) = true) (bD : Binds K fdD ["many"] []) (gD : mg "_law_deep" = some (.ref fD)) :
    Step ((cxOf CX0 P w K mg base nLaw "law" (defScope sLaw) f cdv A outer s0 H0 E).nox) (lst_ 7) (LX_ K s TN TA TH TT) (LX_ K s TN TA TH TT) := by
  refine ⟨_, ps_if (PW.pt (pw_or (pt_not (pt_val (pe_call GR hr (by rfl) gR kR bR .nil pass0 (pa_cons (pe_w (K := K) (Ln := 0) (d := .tuple [.str "n"]) 8 rfl noNames (by kernel_rfl)) (pa_cons (pe_w (K := K) (Ln := 0) (d := .tuple []) 8 rfl noNames (by kernel_rfl)) (pa_cons (pe_room (K := K) (Ln := 0) (r := .dict []) rfl noNames 8 (by kernel_rfl)) (pa_cons (pe_w (K := K) (Ln := 0) (d := .tuple []) 8 rfl noNames (by kernel_rfl)) (pa_cons (pe_tupD (K := K) (Γ := EnvOk K 0 []) (ds := [deepD 40]) (pa_data (fun σ H H' s g => g.same s) (pe_deepD (by decide) GD r1 (by rfl) gD kD bD) pa_data0) (by decide)) pa_nil)))))))) (pw_or1 (pt_not (pt_val (pe_call GR hr (by rfl) gR kR bR .nil pass0 (pa_cons (pe_w (K := K) (Ln := 0) (d := .tuple [.str "n"]) 8 rfl noNames (by kernel_rfl)) (pa_cons (pe_w (K := K) (Ln := 0) (d := .tuple []) 8 rfl noNames (by kernel_rfl)) (pa_cons (pe_room (K := K) (Ln := 0) (r := .dict []) rfl noNames 8 (by kernel_rfl)) (pa_cons (pe_w (K := K) (Ln := 0) (d := .tuple []) 8 rfl noNames (by kernel_rfl)) (pa_cons (pe_tupD (K := K) (Γ := EnvOk K 0 []) (ds := [deepD 90]) (pa_data (fun σ H H' s g => g.same s) (pe_deepD (by decide) GD r1 (by rfl) gD kD bD) pa_data0) (by decide)) pa_nil))))))))))) (pss_one (ps_ret pe_bl)) pss_nil, fun D σ H ⟨d, vr, b⟩ nx => ?_⟩
  have ok := deep_bad
  rw [Bool.and_eq_true] at ok
  refine plain_go (d := d) (s := s) (fun H1 Qt s1 k => tell noEnv fun H2 u s2 d2 => k u _ H2 s2 d2 ok.1) b.tb fun H1 k1 => ⟨true, rfl, iteF ?_⟩
  have b1 := b.kp k1
  refine plain_go (d := d) (s := s) (fun H2 Qt s2 k => tell noEnv fun H3 u s3 d3 => k u _ H3 s3 d3 ok.2) b1.tb fun H2 k2 => ⟨true, rfl, iteF ?_⟩
  exact nx _ _ ⟨d, vr, b1.kp k2⟩
end
end Kd
set_option maxHeartbeats 8000000
/-! the law: names, many -/
namespace Kd
open PySem L2 Lo
def nameF (d : PyData) : PyData := match d with
  | .int i => .str (("a" : Str) ++ Str.ofString (toString i))
  | _ => .none
def fAtM (d : PyData) : PyData := match d with
  | .int i => .tuple [.str "n", .int (i - 6)]
  | _ => .none
def namesD : PyData := .tuple ((rangeD 9).map nameF)
def manyD : PyData := .tuple [.str "loop", .str "abcdefghijkl", .tuple ((rangeD 12).map fAt2), .tuple ((rangeD 12).map fAtM), .bool true, .tuple [.tuple [.str "test", .tuple ((rangeD 12).map fAt3), .tuple [bigRunD]]]]
theorem name_short : ∀ i < 9, ("a" : Str).length + (Str.ofString (toString ((i : Nat) : Int))).length ≤ 100 := by decide +kernel
theorem range_is {k : Nat} {d : PyData} (h : d ∈ rangeD k) : ∃ i : Nat, i < k ∧ d = .int (i : Nat) := by
  obtain ⟨i, hi, rfl⟩ := List.mem_map.mp h
  exact ⟨i, List.mem_range.mp hi, rfl⟩
/-- the base, and data in a slot, apart from the draws -/
def LVh (K : PySem.W.Frag) (s TN TA TH TT : Addr) (xs : List (Nat × PyData)) (σ : L2.St) (H : Hp) : Prop := ∃ d vr, LB K d s TN TA TH TT vr σ H ∧ ∀ p ∈ xs, 3 ≤ p.1 ∧ ∃ v, σ[p.1]? = some (some v) ∧ Dp K (hide (Only d) H) v p.2
section
variable {P : Program} {w : World} {K : PySem.W.Frag} {mg : Str → Option Value} {base : Heap} {f : Addr} {cdv : Value} {A : Around} {outer : List Env} {s0 : Shared} {H0 : Hp} {E : XK}
theorem LB.out {d s TN TA TH TT : Addr} {vr : V} {σ : L2.St} {H : Hp} (h : LB K d s TN TA TH TT vr σ H) : Out (Only d) H := fun a z => by
  obtain ⟨n, e⟩ := h.dr
  rw [show a = d from z, e.1]
  exact Option.some_ne_none _
theorem st_names {s TN TA TH TT : Addr} (T : Blt mg) (hrange : mg "range" = none) : Step ((cxOf CX0 P w K mg base nLaw "law" (defScope sLaw) f cdv A outer s0 H0 E).nox) (lst_ 8) (LX_ K s TN TA TH TT) (LVh K s TN TA TH TT [(9, namesD)]) := by
  have nd := scLaw.nd
  refine ⟨_, ps_set (i := 9) nd rfl (.inl rfl) (pe_tupOf (K := K) (Γ := EnvOk K 16 []) rfl (by rfl) T.tuple (PE.new (pe_lcR (slot := 15) 9 nameF rfl rfl nd (by rfl) hrange (blkOk_by (N := nLaw) (sc := defScope sLaw) (by decide +kernel)) (fun _ _ _ _ _ => pg_name (i := 15) nd rfl (.inl rfl)) (fun s H C cl fp d hd => ?_) (fun p m => nomatch m) (by decide) (by decide)))), fun D σ H ⟨d, vr, b⟩ nx => ?_⟩
  · obtain ⟨i, hi, rfl⟩ := range_is hd
    refine PE.imp (pe_op op_add_str pe_str (pe_callTy call_str_int (by rfl) T.str PyProof.Rows.boot_str (pa_cons (pv 15) pa_nil))) fun σ H Q ⟨A, o, g, q⟩ => ?_
    obtain ⟨v, ev, dv⟩ := g.2 _ (List.mem_singleton.mpr rfl)
    cases dv
    refine ⟨_, ev, (i : Nat), rfl, ?_, _, _, rfl, rfl, sz1000 (Nat.le_trans (name_short i hi) (by decide)), q H _ (Same.refl H) (.str _)⟩
    have : ((i : Nat) : Int).natAbs.log2 ≤ i := by
      rw [Int.natAbs_natCast]
      exact Nat.log2_le_self i
    omega
  · refine ⟨Only d, b.out, env_nil (Nat.le_of_eq b.len.symm), fun H1 v s1 d1 => nx _ _ ⟨d, vr, (b.kp (Kp.same s1)).set 9 _, fun p m => ?_⟩⟩
    obtain rfl := List.mem_singleton.mp m
    exact ⟨by decide, v, set_at (by rw [b.len]; decide), d1⟩
theorem st_many {s TN TA TH TT : Addr} (T : Blt mg) (hrange : mg "range" = none) : Step ((cxOf CX0 P w K mg base nLaw "law" (defScope sLaw) f cdv A outer s0 H0 E).nox) (lst_ 9) (LVh K s TN TA TH TT [(9, namesD)]) (LVh K s TN TA TH TT [(9, namesD), (10, manyD)]) := by
  have nd := scLaw.nd
  have hN : NamesOk ((cxOf CX0 P w K mg base nLaw "law" (defScope sLaw) f cdv A outer s0 H0 E).nox) [("run", 2, bigRunD)] := nm_cons rfl (.inl rfl) noNames
  have hΓ : ∀ σ H H', Same H H' → EnvOk K 16 [("run", 2, bigRunD)] σ H → EnvOk K 16 [("run", 2, bigRunD)] σ H' := fun σ H H' s g => g.same s
  refine ⟨_, ps_set (i := 10) nd rfl (.inl rfl) (pe_tupD (K := K) (Γ := EnvOk K 16 [("run", 2, bigRunD)]) (ds := [.str "loop", .str "abcdefghijkl", .tuple ((rangeD 12).map fAt2), .tuple ((rangeD 12).map fAtM), .bool true, .tuple [.tuple [.str "test", .tuple ((rangeD 12).map fAt3), .tuple [bigRunD]]]])
    (pa_data hΓ (pe_w 4 rfl hN (by kernel_rfl)) (pa_data hΓ (pe_w 4 rfl hN (by kernel_rfl))
    (pa_data hΓ (pe_tupOf (K := K) rfl (by rfl) T.tuple (PE.env (fun σ H g => g.sub (ρ' := []) fun p m => nomatch m) (PE.new (pe_lcR (slot := 15) 12 fAt2 rfl rfl nd (by rfl) hrange (blkOk_by (N := nLaw) (sc := defScope sLaw) (by decide +kernel)) (fun _ _ _ _ _ => pg_name (i := 15) nd rfl (.inl rfl)) (fun _ _ _ _ _ d _ => pe_w 8 rfl (nm_cons rfl (.inl rfl) noNames) rfl) (fun p m => nomatch m) (by decide) (by decide)))))
    (pa_data hΓ (pe_tupOf (K := K) rfl (by rfl) T.tuple (PE.env (fun σ H g => g.sub (ρ' := []) fun p m => nomatch m) (PE.new (pe_lcR (slot := 15) 12 fAtM rfl rfl nd (by rfl) hrange (blkOk_by (N := nLaw) (sc := defScope sLaw) (by decide +kernel)) (fun _ _ _ _ _ => pg_name (i := 15) nd rfl (.inl rfl)) (fun s H C cl fp d hd => ?_) (fun p m => nomatch m) (by decide) (by decide)))))
    (pa_data hΓ (pe_w 4 rfl hN (by kernel_rfl))
    (pa_data hΓ (pe_tupD (ds := [.tuple [.str "test", .tuple ((rangeD 12).map fAt3), .tuple [bigRunD]]]) (pa_data hΓ (pe_tupD (ds := [.str "test", .tuple ((rangeD 12).map fAt3), .tuple [bigRunD]]) (pa_data hΓ (pe_w 4 rfl hN (by kernel_rfl))
      (pa_data hΓ (pe_tupOf (K := K) rfl (by rfl) T.tuple (PE.env (fun σ H g => g.sub (ρ' := []) fun p m => nomatch m) (PE.new (pe_lcR (slot := 15) 12 fAt3 rfl rfl nd (by rfl) hrange (blkOk_by (N := nLaw) (sc := defScope sLaw) (by decide +kernel)) (fun _ _ _ _ _ => pg_name (i := 15) nd rfl (.inl rfl)) (fun _ _ _ _ _ d _ => pe_w 8 rfl (nm_cons rfl (.inl rfl) noNames) rfl) (fun p m => nomatch m) (by decide) (by decide)))))
      (pa_data hΓ (pe_w 4 rfl hN rfl) pa_data0))) (by decide)) pa_data0) (by decide)) pa_data0)))))) (by decide)), fun D σ H ⟨d, vr, b, hv⟩ nx => ?_⟩
  · obtain ⟨i, hi, rfl⟩ := range_is hd
    refine PE.imp (pe_tup (pa_cons pe_str (pa_cons (pe_op op_sub (pv 15) pe_int) pa_nil))) fun σ H Q ⟨A, o, g, q⟩ => ?_
    obtain ⟨v, ev, dv⟩ := g.2 _ (List.mem_singleton.mpr rfl)
    cases dv
    exact ⟨_, ev, _, _, rfl, rfl, by show 2 ≤ sizeLine; decide, fun p np => q _ _ (same_upd np) (.tup (SqT.of (hide_new o np)) (.cons (.str _) (.cons (.int _) .nil)))⟩
  · refine ⟨Only d, b.out, b.env, fun H1 v s1 d1 => nx _ _ ⟨d, vr, (b.kp (Kp.same s1)).set 10 _, fun p m => ?_⟩⟩
    rcases List.mem_cons.mp m with rfl | m
    · obtain ⟨h3, u, eu, du⟩ := hv _ (List.mem_singleton.mpr rfl)
      exact ⟨h3, u, by rw [List.getElem?_set_ne (by decide)]; exact eu, dp_g (SameG.of (same_hide s1)) _ _ du⟩
    · obtain rfl := List.mem_singleton.mp m
      exact ⟨by decide, v, set_at (by rw [b.len]; decide), d1⟩
end
end Kd
set_option maxHeartbeats 8000000
/-! the law: the Nest that is well -/
namespace Kd
open PySem L2 Lo
def zD : PyData := .tuple [.str "n", .str "m_2", .str "x3"]
def gD : PyData := .tuple ((rangeD 12).map fAt3)
def zR : PyData := .tuple (List.replicate 4 (items (.tuple [.tuple [.tuple [.str "0", .int 0], .tuple [.str "x3", .int 9999]]]))).flatten
def rR : RD := .dict [(.inr "z", zR), (.inr "free", .tuple [])]
def bsL : List PyData := [manyD, deepD 39]
theorem nest_ok : (nestOk zD gD rR namesD (.tuple bsL) && (small zD && small gD && smallR rR && small namesD && small (.tuple bsL) && nestFew zD gD rR namesD (.tuple bsL))) = true := by decide +kernel
theorem nest_ints : ((arraysF rR (.tuple bsL)).all fun f => isIntD f.2) = true := by decide +kernel
section
variable {X : Cx} {K : PySem.W.Frag} {Γ : L2.St → Hp → Prop}
theorem pe_room2 {c c2 : Const} {k k2 : Key} {j j2 : Nat} {pc pc2 pos : Pos} {v v2 : Expr} {x x2 : PyData} (hΓ : ∀ σ H H', Same H H' → Γ σ H → Γ σ H') (hk : keyC c = some k) (hk2 : keyC c2 = some k2) (hm : ∀ a b : V, mergeK [] [(k, a), (k2, b)] = [(k, a), (k2, b)]) (hv : PE X v (tData K Γ x)) (hv2 : PE X v2 (tData K Γ x2)) :
    PE X (.Dict [some (.Constant c j pc), some (.Constant c2 j2 pc2)] [v, v2] pos) (tIt (RoomIs K) Γ (.dict [(k, x), (k2, x2)])) :=
  PE.imp (pe_disp (pps_cons (pe_key hk) hv (pps_cons (pe_key hk2) hv2 pps_nil)) rfl rfl (by simp) (by show 2 ≤ 15; decide)) fun σ H Q ⟨A, o, g, q⟩ p np => by
    have e1 := upd_same (H := H) (a := p) (o := HO.dK [])
    have s1 := same_upd (o := HO.dK []) np
    have g1 := hΓ _ _ _ (same_more (A := A) s1 np) g
    refine ⟨fun a => A a ∨ a = p, out_more (o.same s1) e1, g1, fun H2 u s2 d2 => ?_⟩
    refine ⟨fun a => A a ∨ a = p, out_more (o.same (s1.trans s2)) (s2 _ _ e1), hΓ _ _ _ (same_hide s2) g1, fun H3 u3 s3 d3 => ⟨s3 _ _ (s2 _ _ e1), [(k, u), (k2, u3)], rfl, by show 2 ≤ 15; decide, ?_⟩⟩
    have s5 : Same H (upd H3 p (.dK (mergeK [] [(k, u), (k2, u3)]))) := ((s1.trans s2).trans s3).later np
    have gg : Same (hide (fun a => A a ∨ a = p) H3) (hide A (upd H3 p (.dK (mergeK [] [(k, u), (k2, u3)])))) := by
      have := same_less (A := A) (D := p) (H := upd H3 p (.dK (mergeK [] [(k, u), (k2, u3)])))
      rw [hide_upd (A := fun a => A a ∨ a = p) (.inr rfl)] at this
      exact this
    refine q _ _ s5 ⟨p, [(k, u), (k2, u3)], rfl, ?_, rfl, .cons (dp_g (SameG.of ((same_hide s3).trans gg)) _ _ d2) (.cons (dp_g (SameG.of gg) _ _ d3) .nil)⟩
    rw [hide_out (o.new np), hm]
    exact upd_same
theorem firstOf_mem {fs : List Fact} {x : Str} {d : PyData} (h : firstOf fs x = some d) : ∃ f ∈ fs, f.2 = d := by
  unfold firstOf at h
  cases e : fs.find? fun p => decide (p.1 = x) with
  | none => rw [e] at h; exact nomatch h
  | some f =>
    rw [e] at h
    exact ⟨f, List.mem_of_find?_eq_some e, Option.some.inj h⟩
theorem nest_hide {CN p d s : Addr} {H : Hp} {vb : V} {r : RD} {b : PyData} {n : Int} (h : NestAt K CN H p vb r b) (hd : H d = some (.lst [.ref s, .int n])) (hi : ((arraysF r b).all fun f => isIntD f.2) = true) (hb : Dp K (hide (Only d) H) vb b) : NestAt K CN (hide (Only d) H) p vb r b := by
  obtain ⟨dx, vz, vg, vk, rd, ld, ad, ys, zs, f, h1, h2, h3, h4, h5, h6, h7, h8⟩ := h.ob
  have np : ¬ Only d p := fun z => by
    rw [show p = d from z, hd] at h1
    exact nomatch h1
  have nl : ¬ Only d ld := fun z => by
    rw [show ld = d from z, hd] at h2
    have e := HO.lst.inj (Option.some.inj h2)
    cases ys with
    | nil => exact nomatch e
    | cons y ys => exact nomatch e
  have na : ¬ Only d ad := fun z => by
    rw [show ad = d from z, hd] at h5
    exact nomatch h5
  refine ⟨⟨dx, vz, vg, vk, rd, ld, ad, ys, zs, f, (hide_out np).trans h1, (hide_out nl).trans h2, h3, h4, (hide_out na).trans h5, h6, h7, fun x hx => ?_⟩, hb⟩
  obtain ⟨e, he, hk⟩ := h8 x hx
  refine ⟨e, he, ?_⟩
  obtain ⟨g, hg, rfl⟩ := firstOf_mem he
  have := List.all_eq_true.mp hi _ hg
  revert this hk
  generalize f x = u
  cases g.2 with
  | int i =>
    intro hk _
    cases hk
    exact .int i
  | bool i =>
    intro hk _
    cases hk
    exact .bl i
  | none =>
    intro hk _
    cases hk
    exact .non
  | str i =>
    intro hk _
    cases hk
    exact .str i
  | tuple i => exact fun _ z => absurd z Bool.false_ne_true
  | list i => exact fun _ z => absurd z Bool.false_ne_true
  | dict i => exact fun _ z => absurd z Bool.false_ne_true
end
/-- the base, and the Nest in its slot -/
def LN (K : PySem.W.Frag) (CN s TN TA TH TT : Addr) (σ : L2.St) (H : Hp) : Prop := ∃ d vr, LB K d s TN TA TH TT vr σ H ∧ ∃ p vb, σ[11]? = some (some (.ref p)) ∧ NestAt K CN (hide (Only d) H) p vb rR (.tuple bsL)
section
variable {P : Program} {w : World} {K : PySem.W.Frag} {mg : Str → Option Value} {base : Heap} {f : Addr} {cdv : Value} {A : Around} {outer : List Env} {s0 : Shared} {H0 : Hp} {E : XK}
theorem st_nest {CN C fI s TN TA TH TT fD : Addr} {fdI fdD : FuncData} (L : Nat) (hr : Room (L + 1) (((cxOf CX0 P w K mg base nLaw "law" (defScope sLaw) f cdv A outer s0 H0 E).nox)).A) (T : Blt mg) (hrange : mg "range" = none) (N : NTxt K mg CN fI)
    (GI : FnOk P w K mg base (L2.CX P w) L fI fdI ["self", "sizes", "given", "rooms", "kept", "body"] (spNInit K CN C TN TA TH TT)) (bI : Binds K fdI ["self", "sizes", "given", "rooms", "kept", "body"] [])
    (r1 : Room 1 (((cxOf CX0 P w K mg base nLaw "law" (defScope sLaw) f cdv A outer s0 H0 E).nox)).A) (GD : FnOk P w K mg base CX0 1 fD fdD ["many"] (spDeep K)) (kD : PySem.W.keepIn K (.ref fD) = true) (bD : Binds K fdD ["many"] []) (gD_ : mg "_law_deep" = some (.ref fD)) :
    Step ((cxOf CX0 P w K mg base nLaw "law" (defScope sLaw) f cdv A outer s0 H0 E).nox) (lst_ 10) (LVh K s TN TA TH TT [(9, namesD), (10, manyD)]) (LN K CN s TN TA TH TT) := by
  have nd := scLaw.nd
  have hN : NamesOk ((cxOf CX0 P w K mg base nLaw "law" (defScope sLaw) f cdv A outer s0 H0 E).nox) [("names", 9, namesD), ("many", 10, manyD)] := nm_cons rfl (.inl rfl) (nm_cons rfl (.inl rfl) noNames)
  have hΓ : ∀ σ H H', Same H H' → EnvOk K 16 [("names", 9, namesD), ("many", 10, manyD)] σ H → EnvOk K 16 [("names", 9, namesD), ("many", 10, manyD)] σ H' := fun σ H H' s g => g.same s
  refine ⟨_, ps_set (i := 11) nd rfl (.inl rfl) (pe_makeS N.make GI hr (by rfl) N.mg bI (fun σ => passAt takes0 σ)
    (pa_it (D := RoomIs K) (Γ := EnvOk K 16 [("names", 9, namesD), ("many", 10, manyD)]) (a := .data zD) room_up hΓ (pe_room rfl hN 8 (by kernel_rfl))
    (pa_it (a := .data gD) room_up hΓ (pe_roomD (pe_tupOf (K := K) rfl (by rfl) T.tuple (PE.env (fun σ H g => g.sub (ρ' := []) fun p m => nomatch m) (PE.new (pe_lcR (slot := 15) 12 fAt3 rfl rfl nd (by rfl) hrange (blkOk_by (N := nLaw) (sc := defScope sLaw) (by decide +kernel)) (fun _ _ _ _ _ => pg_name (i := 15) nd rfl (.inl rfl)) (fun _ _ _ _ _ d _ => pe_w 8 rfl (nm_cons rfl (.inl rfl) noNames) rfl) (fun p m => nomatch m) (by decide) (by decide))))))
    (pa_it (a := rR) room_up hΓ (pe_room2 hΓ rfl rfl (fun _ _ => rfl) (pe_w (d := zR) 8 rfl hN (by kernel_rfl)) (pe_w (d := .tuple []) 8 rfl hN (by kernel_rfl)))
    (pa_it (a := .data namesD) room_up hΓ (pe_roomD (pe_w 4 rfl hN rfl))
    (pa_it (a := .data (.tuple bsL)) room_up hΓ (pe_roomD (pe_tupD (pa_data hΓ (pe_w (d := manyD) 4 rfl hN rfl) (pa_data hΓ (pe_deepD (by decide) GD r1 (by rfl) gD_ kD bD) pa_data0)) (by decide))) pa_it0)))))), fun D σ H ⟨d, vr, b, hv⟩ nx => ?_⟩
  obtain ⟨_, v9, e9, d9⟩ := hv (9, namesD) List.mem_cons_self
  obtain ⟨_, v10, e10, d10⟩ := hv (10, manyD) (List.mem_cons_of_mem _ List.mem_cons_self)
  refine ⟨Only d, b.out, env_cons e9 d9 (env_cons e10 d10 (env_nil (Nat.le_of_eq b.len.symm))), fun H1 vs s1 it => ?_⟩
  match vs, it with
  | [w0, w1, w2, w3, w4], ⟨b0, b1, b2, b3, b4, _⟩ =>
    intro y dy ny ndy ne
    have s2 : Same H1 (upd (upd H1 dy (.own y)) y (.ins CN dy [])) := (same_upd ndy).later ny
    have e2 := upd_same (H := upd H1 dy (.own y)) (a := y) (o := HO.ins CN dy [])
    have b' := b.kp (Kp.same s1)
    have t2 := b'.tb.up (SameG.of s2).tab
    have up : Same (hide (Only d) H1) (upd (upd H1 dy (.own y)) y (.ins CN dy [])) := hide_sub.trans s2
    have ok := nest_ok
    simp only [Bool.and_eq_true] at ok
    obtain ⟨ok, ⟨⟨⟨⟨sz, sg⟩, sr⟩, sk⟩, sb⟩, few⟩ := ok
    refine ⟨y, dy, w0, w1, w2, w3, w4, zD, gD, namesD, .tuple bsL, rR, rfl, e2, room_up.up _ _ _ _ up b0, room_up.up _ _ _ _ up b1, room_up.up _ _ _ _ up b2, room_up.up _ _ _ _ up b3, room_up.up _ _ _ _ up b4, sz, sg, sr, sk, sb, t2.n, t2.a, t2.h, t2.t, few, fun _ H3 kp tb hN3 => ⟨rfl, ?_⟩, fun z => absurd (ok.symm.trans z) (by decide)⟩
    have u13 : SameG H1 H3 := ⟨fun x o e nt => kp x o (fun z => by rw [z, ny] at e; exact nomatch e) (s2 _ _ e) nt, fun T t => tb T ((SameG.of s2).tab T t)⟩
    have k13 : Kp K d s H1 H3 := Kp.g u13
    have b3' := b'.kp k13
    obtain ⟨n1, dr1⟩ := b'.dr
    obtain ⟨n3, dr3⟩ := b3'.dr
    exact nx _ _ ⟨d, vr, b3'.set 11 _, y, w4, set_at (by rw [b.len]; decide), nest_hide hN3 dr3.1 nest_ints (k13.hid n1 dr1 _ _ b4)⟩
end
end Kd
set_option maxHeartbeats 8000000
/-! the law: what the Nest tells -/
namespace Kd
open PySem PySem.Spec L2 Lo PyProof.Rows
def leT (x y : Str) : Prop := x.cps.toList ≤ y.cps.toList
theorem leT_of {x y : Str} (h : (!ltCps y.cps.toList x.cps.toList) = true) : leT x y := by
  rw [ltCps_eq, Bool.not_eq_true', decide_eq_false_iff_not] at h
  exact List.not_lt.mp h
theorem leT_same {x y : Str} (h : leT x y) (k : leT y x) : x = y := by
  obtain ⟨a⟩ := x
  obtain ⟨b⟩ := y
  have e : a = b := Array.ext' (List.le_antisymm h k)
  rw [e]
theorem rise_pw : ∀ (l : List Str) (p : Str), risingS p l = true → (p :: l).Pairwise leT
  | [], p, _ => List.pairwise_cons.mpr ⟨fun x h => absurd h List.not_mem_nil, List.Pairwise.nil⟩
  | x :: r, p, h => by
    have h2 : (!ltCps x.cps.toList p.cps.toList && risingS x r) = true := h
    rw [Bool.and_eq_true] at h2
    have ih := rise_pw r x h2.2
    have px := leT_of h2.1
    refine List.pairwise_cons.mpr ⟨fun y hy => ?_, ih⟩
    rcases List.mem_cons.mp hy with e | e
    · exact e ▸ px
    · exact List.le_trans px ((List.pairwise_cons.mp ih).1 y e)
theorem sort_pw : ∀ l : List Str, sortedS l = true → l.Pairwise leT
  | [], _ => List.Pairwise.nil
  | x :: r, h => rise_pw r x h
theorem sort_one : ∀ (l m : List Str), l.Perm m → l.Pairwise leT → m.Pairwise leT → l = m
  | [], m, p, _, _ => (List.nil_perm.mp p).symm
  | x :: l, [], p, _, _ => absurd p.length_eq (by simp)
  | x :: l, y :: m, p, hl, hm => by
    obtain ⟨l1, l2⟩ := List.pairwise_cons.mp hl
    obtain ⟨m1, m2⟩ := List.pairwise_cons.mp hm
    have e : x = y := by
      rcases List.mem_cons.mp (p.mem_iff.mp (List.mem_cons_self (a := x) (l := l))) with h | h
      · exact h
      · rcases List.mem_cons.mp (p.mem_iff.mpr (List.mem_cons_self (a := y) (l := m))) with h' | h'
        · exact h'.symm
        · exact leT_same (l1 y h') (m1 x h)
    subst e
    rw [sort_one l m (List.Perm.cons_inv p) l2 m2]
abbrev arrN : List Str := ["a", "free", "z"]
abbrev labN : List Str := ["f", "g"]
theorem arr_perm : (namesIn (arraysF rR (.tuple bsL))).Perm arrN := by decide +kernel
theorem lab_perm : (namesIn (labelsF (.tuple bsL))).Perm labN := by decide +kernel
theorem arr_of {zs : List Str} (p : zs.Perm (namesIn (arraysF rR (.tuple bsL)))) (h : sortedS zs = true) : zs = arrN := sort_one _ _ (p.trans arr_perm) (sort_pw _ h) (sort_pw _ (by decide +kernel))
theorem lab_of {zs : List Str} (p : zs.Perm (namesIn (labelsF (.tuple bsL)))) (h : sortedS zs = true) : zs = labN := sort_one _ _ (p.trans lab_perm) (sort_pw _ h) (sort_pw _ (by decide +kernel))
theorem first_a : firstOf (arraysF rR (.tuple bsL)) "a" = some (.int 0) := by kernel_rfl
theorem first_f : firstOf (arraysF rR (.tuple bsL)) "free" = some (.int 0) := by kernel_rfl
theorem first_z : firstOf (arraysF rR (.tuple bsL)) "z" = some (.int 4) := by kernel_rfl
theorem nest_shape : (shape 41 bsL && hashables bsL && decide ((runsIn 41 bsL [] []).length = 2) && (runsIn 41 bsL [] []).all tripOk && okBody 41 ["n", "m_2", "x3"] (.tuple bsL)) = true := by decide +kernel
section
variable {K : PySem.W.Frag} {d s : Addr}
theorem hideG {H H' : Hp} {n : Int} (h : SameG H H') (e : DrawAt K H d s n) : SameG (hide (Only d) H) (hide (Only d) H') := by
  have e' := draw_g h e
  refine ⟨fun b o eb nt => ?_, fun T t => tab_hide e'.1 (h.tab T (tab_show t))⟩
  have nb : ¬ Only d b := fun z => by
    rw [hide_in z] at eb
    exact nomatch eb
  rw [hide_out nb]
  exact h.keep b o (hide_sub _ _ eb) nt
theorem val_of {H : Hp} {f : Str → V} {x : Str} {i : Int} (h : ∃ d, firstOf (arraysF rR (.tuple bsL)) x = some d ∧ Dp K H (f x) d) (e : firstOf (arraysF rR (.tuple bsL)) x = some (.int i)) : f x = .int i := by
  obtain ⟨d, e1, k⟩ := h
  rw [e] at e1
  obtain rfl := Option.some.inj e1
  revert k
  generalize f x = u
  intro k
  cases k
  rfl
end
section
variable {P : Program} {w : World} {K : PySem.W.Frag} {mg : Str → Option Value} {base : Heap} {f : Addr} {cdv : Value} {A : Around} {outer : List Env} {s0 : Shared} {H0 : Hp} {E : XK}
theorem st_tells {CN fI s TN TA TH TT pA fA pL fL fS : Addr} {fdA fdL fdS : FuncData} (T : Blt mg) (hlist : mg "list" = none) (N : NTxt K mg CN fI) (r2 : Room 2 (((cxOf CX0 P w K mg base nLaw "law" (defScope sLaw) f cdv A outer s0 H0 E).nox)).A) (r43 : Room 43 (((cxOf CX0 P w K mg base nLaw "law" (defScope sLaw) f cdv A outer s0 H0 E).nox)).A)
    (hA : PropOf K CN "arrays" pA fA) (GA : FnOk P w K mg base CX0 1 fA fdA ["self"] (spArrays K CN)) (bA : Binds K fdA ["self"] [])
    (hL : PropOf K CN "labels" pL fL) (GL : FnOk P w K mg base CX0 1 fL fdL ["self"] (spLabels K CN)) (bL : Binds K fdL ["self"] [])
    (GS : FnOk P w K mg base CX0 43 fS fdS ["nest"] (spStatements K CN)) (kS : PySem.W.keepIn K (.ref fS) = true) (bS : Binds K fdS ["nest"] []) (gS : mg "statements" = some (.ref fS)) :
    Step ((cxOf CX0 P w K mg base nLaw "law" (defScope sLaw) f cdv A outer s0 H0 E).nox) (lst_ 11) (LN K CN s TN TA TH TT) (LN K CN s TN TA TH TT) := by
  have nd := scLaw.nd
  have hu := r2.units
  have hu0 := r2.units0
  refine ⟨_, ps_if (PW.pt (pw_or (pt_cmpR (op_ne_dictA hu0) (pe_prop (pv 11) N.cl hA GA r2 bA .nil pass0 (by rfl)) (pe_disp (pps_cons pe_str pe_int (pps_cons pe_str pe_int (pps_cons pe_str pe_int pps_nil))) rfl rfl (by simp) (by decide)) (nomark _))
    (pw_or (pt_cmpR (op_neD hu) (pe_callTy (call_listD rfl) (by rfl) hlist PyProof.Rows.boot_list (pa_cons (pe_prop (pv 11) N.cl hA GA r2 bA .nil pass0 (by rfl)) pa_nil)) (pe_w (K := K) (Ln := 0) (d := .list [.str "a", .str "free", .str "z"]) 8 rfl noNames (by kernel_rfl)) (nomark _))
    (pw_or (pt_cmpR (op_neD hu) (pe_prop (pv 11) N.cl hL GL r2 bL .nil pass0 (by rfl)) (pe_w (K := K) (Ln := 0) (d := .list [.str "f", .str "g"]) 8 rfl noNames (by kernel_rfl)) (nomark _))
    (pw_or1 (pt_cmpR op_ne (pe_callB call_len_seq (by rfl) T.len PySem.boot_len (pa_cons (pe_call GS r43 (by rfl) gS kS bS .nil pass0 (pa_cons (pv 11) pa_nil)) pa_nil)) pe_int (nomark _))))))) (pss_one (ps_ret pe_bl)) pss_nil, fun D σ H ⟨d, vr, b, p, vb, e11, hn⟩ nx => ?_⟩
  obtain ⟨n0, dr0⟩ := b.dr
  have hnH := hn.g (SameG.of hide_sub)
  obtain ⟨dx, vz, vg, vk, rd, ld, ad, ys, zs, ff, h1, _⟩ := hnH.ob
  refine ⟨_, e11, p, dx, _, rfl, h1, p, vb, rR, .tuple bsL, rfl, hnH, fun l1 zs1 f1 nl1 pz1 so1 va1 => ?_⟩
  obtain rfl := arr_of pz1 so1
  have s1 := same_upd (o := HO.dK (dS arrN f1)) nl1
  have va := val_of (va1 _ (by decide)) first_a
  have vf := val_of (va1 _ (by decide)) first_f
  have vz' := val_of (va1 _ (by decide)) first_z
  intro pd npd
  refine ⟨upd_same, [(.inr "a", .int 0), (.inr "free", .int 0), (.inr "z", .int 4)], rfl, by show 3 ≤ 15; decide, ?_⟩
  have s2 : Same (upd H l1 (.dK (dS arrN f1))) (upd (upd (upd H l1 (.dK (dS arrN f1))) pd (.dK [])) pd (.dK (mergeK [] [(.inr "a", .int 0), (.inr "free", .int 0), (.inr "z", .int 4)]))) := (same_upd npd).later npd
  refine ⟨l1, pd, dS arrN f1, _, rfl, rfl, s2 _ _ upd_same, upd_same, rfl, ?_, false, rfl, iteF ?_⟩
  · intro q hq
    have e : dS arrN f1 = [(.inr "a", f1 "a"), (.inr "free", f1 "free"), (.inr "z", f1 "z")] := rfl
    rw [e, va, vf, vz'] at hq
    rcases List.mem_cons.mp hq with rfl | hq
    · exact ⟨rfl, rfl⟩
    rcases List.mem_cons.mp hq with rfl | hq
    · exact ⟨rfl, rfl⟩
    obtain rfl := List.mem_singleton.mp hq
    exact ⟨rfl, rfl⟩
  have s02 := s1.trans s2
  generalize upd (upd (upd H l1 (.dK (dS arrN f1))) pd (.dK [])) pd _ = H2 at *
  refine ⟨_, e11, p, dx, _, rfl, s02 _ _ h1, p, vb, rR, .tuple bsL, rfl, hnH.g (SameG.of s02), fun l3 zs3 f3 nl3 pz3 so3 va3 => ?_⟩
  obtain rfl := arr_of pz3 so3
  have s3 := same_upd (o := HO.dK (dS arrN f3)) nl3
  refine ⟨l3, _, rfl, Rd.of upd_same, fun l4 nl4 => tell noEnv fun H5 v5 s5 d5 => ?_⟩
  have s4 := same_upd (o := HO.lst ((dS arrN f3).map fun kv => kV kv.1)) nl4
  have s05 := s02.trans (s3.trans (s4.trans s5))
  refine ⟨.list [.str "a", .str "free", .str "z"], .list [.str "a", .str "free", .str "z"], .lst (SqL.of (s5 _ _ upd_same)) (.cons (.str _) (.cons (.str _) (.cons (.str _) .nil))), d5, by decide +kernel, by decide +kernel, ?_⟩
  rw [show PyData.eqv (.list [.str "a", .str "free", .str "z"]) (.list [.str "a", .str "free", .str "z"]) = true by decide +kernel]
  refine ⟨false, rfl, iteF ?_⟩
  refine ⟨_, e11, p, dx, _, rfl, s05 _ _ h1, p, vb, rR, .tuple bsL, rfl, hnH.g (SameG.of s05), fun l6 ys6 nl6 py6 so6 => ?_⟩
  obtain rfl := lab_of py6 so6
  have s6 := same_upd (o := HO.lst (labN.map V.str)) nl6
  refine tell noEnv fun H7 v7 s7 d7 => ?_
  have s07 := s05.trans (s6.trans s7)
  refine ⟨.list [.str "f", .str "g"], .list [.str "f", .str "g"], .lst (SqL.of (s7 _ _ upd_same)) (.cons (.str _) (.cons (.str _) .nil)), d7, by decide +kernel, by decide +kernel, ?_⟩
  rw [show PyData.eqv (.list [.str "f", .str "g"]) (.list [.str "f", .str "g"]) = true by decide +kernel]
  refine ⟨false, rfl, iteF ?_⟩
  have sh := nest_shape
  simp only [Bool.and_eq_true, decide_eq_true_eq] at sh
  obtain ⟨⟨⟨⟨sh1, sh2⟩, sh3⟩, sh4⟩, sh5⟩ := sh
  refine ⟨_, e11, p, vb, rR, bsL, rfl, hnH.g (SameG.of s07), sh1, sh2, by rw [sh3]; decide, nodes_are sh5, sh4, fun H8 l8 xs8 s8 hl8 len8 => ?_⟩
  rw [sh3] at len8
  refine ⟨l8, xs8, rfl, .inl (SqL.of hl8), ?_⟩
  rw [len8]
  have u := (SameG.of s07).trans s8
  refine ⟨rfl, false, rfl, iteF ?_⟩
  obtain ⟨n8, dr8⟩ := (b.kp (Kp.g u)).dr
  exact nx _ _ ⟨d, vr, b.kp (Kp.g u), p, vb, e11, hn.g (hideG u dr0)⟩
end
end Kd
set_option maxHeartbeats 8000000
/-! the law: paths and places; its end -/
namespace Kd
open PySem L2 Lo
def pathsL : List PyData := [.tuple [], .tuple [.int 2], .tuple [.int 0, .int 1], .tuple [.int 0, .int 0, .int 0, .int 0], .tuple [.int (-1)], .tuple [.bool true], .list [.int 0], .int 0, .none, .tuple [.str "0"], .tuple [.int 0, .int 0, .int 1], .tuple (items (.tuple [.int 1]) ++ items (.tuple (List.replicate 40 (items (.tuple [.int 0]))).flatten))]
def placesL : List PyData := [.int 2, .int (-1), .bool true, .none, .str "0", .int (10 ^ 30), .tuple [.int 0]]
theorem paths_bad : (pathsL.all fun d => small d && SeqAt.shaped d && PyData.eqv d d && (nodeAt bsL d).isNone) = true := by decide +kernel
theorem places_bad : (placesL.all fun d => !placeIn 2 d) = true := by decide +kernel
abbrev path1 : PyData := .tuple [.int 0, .int 0, .int 0]
abbrev path2 : PyData := .tuple (items (.tuple [.int 1]) ++ items (.tuple (List.replicate 39 (items (.tuple [.int 0]))).flatten))
theorem node1 : nodeAt bsL path1 = some bigRunD := by kernel_rfl
theorem node2 : nodeAt bsL path2 = some runD := by kernel_rfl
theorem run_eqv : (SeqAt.shaped bigRunD && PyData.eqv bigRunD bigRunD && small path1 && small path2) = true := by decide +kernel
theorem empty_ok : (nestOk (.tuple [.str "n"]) (.tuple []) (.dict []) (.tuple []) (.tuple []) && (small (.tuple [.str "n"]) && smallR (.dict []) && small (.tuple []) && nestFew (.tuple [.str "n"]) (.tuple []) (.dict []) (.tuple []) (.tuple []))) = true := by decide +kernel
theorem pe_powD {X : Cx} {K : PySem.W.Frag} {Γ : L2.St → Hp → Prop} {p1 p2 pos : Pos} {j1 j2 : Nat} : PE X (.BinOp (.Constant (.int 10) j1 p1) .Pow (.Constant (.int 30) j2 p2) pos) (tData K Γ (.int (10 ^ 30))) :=
  PE.imp (pe_op op_pow pe_int pe_int) fun σ H Q ⟨A, o, g, q⟩ => ⟨10, 30, rfl, rfl, ⟨by decide, by decide, by decide⟩, q H _ (Same.refl H) (.int _)⟩
/-- the base, the Nest, and the paths in their slot -/
def LP (K : PySem.W.Frag) (CN s TN TA TH TT : Addr) (σ : L2.St) (H : Hp) : Prop := ∃ d vr, LB K d s TN TA TH TT vr σ H ∧ (∃ p vb, σ[11]? = some (some (.ref p)) ∧ NestAt K CN (hide (Only d) H) p vb rR (.tuple bsL)) ∧ ∃ l xs, σ[12]? = some (some (.ref l)) ∧ l ≠ d ∧ H l = some (.lst xs) ∧ DpAll K (hide (Only d) H) xs pathsL
/-- the base, the Nest, a path and a place -/
def LQ (K : PySem.W.Frag) (CN s TN TA TH TT : Addr) (σ : L2.St) (H : Hp) : Prop := ∃ d vr, LB K d s TN TA TH TT vr σ H ∧ (∃ p vb, σ[11]? = some (some (.ref p)) ∧ NestAt K CN (hide (Only d) H) p vb rR (.tuple bsL)) ∧ ∃ vp dp vl dl, σ[13]? = some (some vp) ∧ σ[14]? = some (some vl) ∧ dp ∈ pathsL ∧ dl ∈ placesL ∧ Dp K H vp dp ∧ Dp K H vl dl
section
variable {P : Program} {w : World} {K : PySem.W.Frag} {mg : Str → Option Value} {base : Heap} {f : Addr} {cdv : Value} {A : Around} {outer : List Env} {s0 : Shared} {H0 : Hp} {E : XK}
theorem st_paths {CN s TN TA TH TT : Addr} : Step ((cxOf CX0 P w K mg base nLaw "law" (defScope sLaw) f cdv A outer s0 H0 E).nox) (lst_ 12) (LN K CN s TN TA TH TT) (LP K CN s TN TA TH TT) := by
  have nd := scLaw.nd
  refine ⟨_, ps_set (i := 12) nd rfl (.inl rfl) (pe_lstN (K := K) (Γ := EnvOk K 0 []) (ds := pathsL) (pa_w 8 rfl noNames (by kernel_rfl)) (by decide)), fun D σ H ⟨d, vr, b, p, vb, e11, hn⟩ nx => ?_⟩
  obtain ⟨n0, dr0⟩ := b.dr
  refine ⟨Only d, b.out, noEnv, fun H1 l xs s1 nl hl dl => nx _ _ ⟨d, vr, (b.kp (Kp.same s1)).set 12 _, ⟨p, vb, by rw [List.getElem?_set_ne (by decide)]; exact e11, hn.g (SameG.of (same_hide s1))⟩, l, xs, set_at (by rw [b.len]; decide), fun z => ?_, hl, dps_g (SameG.of same_less) _ _ dl⟩⟩
  rw [z, dr0.1] at nl
  exact nomatch nl
theorem st_picks {CN s TN TA TH TT fP : Addr} {fdP : FuncData} (r3 : Room 3 (((cxOf CX0 P w K mg base nLaw "law" (defScope sLaw) f cdv A outer s0 H0 E).nox)).A)
    (GP : FnOk P w K mg base CX0 3 fP fdP ["draw", "items"] (spLPick K)) (kP : PySem.W.keepIn K (.ref fP) = true) (bP : Binds K fdP ["draw", "items"] []) (gP : mg "_law_pick" = some (.ref fP)) :
    Step ((cxOf CX0 P w K mg base nLaw "law" (defScope sLaw) f cdv A outer s0 H0 E).nox) (lst_ 13) (LP K CN s TN TA TH TT) (LQ K CN s TN TA TH TT) := by
  have nd := scLaw.nd
  refine ⟨_, ps_par (i := 13) (j := 14) rfl nd rfl rfl (by decide) rfl rfl (pa_cons (pe_call GP r3 (by rfl) gP kP bP .nil pass0 (pa_cons (pv 1) (pa_cons (pv 12) pa_nil)))
    (pa_cons (pe_call GP r3 (by rfl) gP kP bP .nil pass0 (pa_cons (pv 1) (pa_cons (pe_lstN (K := K) (Γ := EnvOk K 0 []) (ds := placesL) (pa_at (ds := placesL.take 5) (ds' := placesL.drop 6) 8 5 rfl noNames (by kernel_rfl) rfl pe_powD (pa_w 8 rfl noNames (by kernel_rfl))) (by decide)) pa_nil))) pa_nil)) rfl, fun D σ H ⟨d, vr, b, ⟨p, vb, e11, hn⟩, l, xs, e12, nl, hl, dl⟩ nx => ?_⟩
  obtain ⟨n0, dr0⟩ := b.dr
  refine ⟨_, b.e1, _, e12, d, s, l, n0, xs, rfl, dr0, nl, .inl (SqL.of hl), fun z => ?_, fun H1 n1 x sD1 dr1 hx => ?_⟩
  · rw [z] at dl
    cases dl
  obtain ⟨dp, hm, dx⟩ := mem_dps (dps_g (SameG.of (hide_d sD1)) _ _ dl) hx
  have b1 := b.pick sD1 dr1
  refine ⟨_, b1.e1, pick_go dr1 noEnv (by decide) fun H2 n2 y dl' sD2 dr2 hm2 dy => ?_⟩
  have b2 := b1.pick sD2 dr2
  refine ⟨x, y, rfl, nx _ _ ⟨d, vr, (b2.set 13 _).set 14 _, ⟨p, vb, ?_, hn.g (SameG.of ((hide_d sD1).trans (hide_d sD2)))⟩, x, dp, y, dl', ?_, set_at (by rw [(b2.set 13 (some x)).len]; decide), hm, hm2, dp_g (SameG.of ((hide_d sD2).trans hide_sub)) _ _ dx, dp_g (SameG.of hide_sub) _ _ dy⟩⟩
  · rw [List.getElem?_set_ne (by decide), List.getElem?_set_ne (by decide)]
    exact e11
  · rw [List.getElem?_set_ne (by decide)]
    exact set_at (by rw [b2.len]; decide)
/-- the end: it returns true -/
theorem st_end {CN C C2 fI s TN TA TH TT fW fA : Addr} {fdI fdW fdA : FuncData} (L : Nat) (hr : Room (L + 1) (((cxOf CX0 P w K mg base nLaw "law" (defScope sLaw) f cdv A outer s0 H0 E).nox)).A) (T : Blt mg) (N : NTxt K mg CN fI)
    (GI : FnOk P w K mg base (L2.CX P w) L fI fdI ["self", "sizes", "given", "rooms", "kept", "body"] (spNInit K CN C TN TA TH TT)) (bI : Binds K fdI ["self", "sizes", "given", "rooms", "kept", "body"] [])
    (r44 : Room 44 (((cxOf CX0 P w K mg base nLaw "law" (defScope sLaw) f cdv A outer s0 H0 E).nox)).A) (GW : FnOk P w K mg base CX0 44 fW fdW ["nest", "path", "place"] (spNowhere K CN)) (kW : PySem.W.keepIn K (.ref fW) = true) (bW : Binds K fdW ["nest", "path", "place"] []) (gW : mg "_law_nowhere" = some (.ref fW))
    (GA : FnOk P w K mg base (L2.CX P w) 3 fA fdA ["nest", "path"] (spNodeAt K CN C2)) (kA : PySem.W.keepIn K (.ref fA) = true) (bA : Binds K fdA ["nest", "path"] []) (gA : mg "node_at" = some (.ref fA)) :
    ∃ t, PS ((cxOf CX0 P w K mg base nLaw "law" (defScope sLaw) f cdv A outer s0 H0 E).nox) (lst_ 14) t ∧ ∀ D σ H, LQ K CN s TN TA TH TT σ H → (∀ H', D.rt (.bl true) H') → t D σ H := by
  have nd := scLaw.nd
  have hu := r44.units
  have r3 := r44.mono (show 3 ≤ 44 by decide)
  have hΓ : ∀ σ H H', Same H H' → EnvOk K 0 [] σ H → EnvOk K 0 [] σ H' := fun σ H H' s g => g.same s
  refine ⟨_, ps_ret (pe_and (pe_call GW r44 (by rfl) gW kW bW .nil pass0 (pa_cons (pv 11) (pa_cons (pv 13) (pa_cons (pv 14) pa_nil))))
    (pe_and (pe_cmpR (op_eqD hu) (pe_callS GA r3 (by rfl) gA kA bA (fun σ => passAt takes0 σ) (pa_cons (pv 11) (pa_cons (pe_w (K := K) (Ln := 0) (d := path1) 8 rfl noNames (by kernel_rfl)) pa_nil))) (pv 2) (nomark _))
    (pe_and (pe_cmpR op_eq (pe_ix ix_tup (pe_callS GA r3 (by rfl) gA kA bA (fun σ => passAt takes0 σ) (pa_cons (pv 11) (pa_cons (pe_w (K := K) (Ln := 0) (d := path2) 8 rfl noNames (by kernel_rfl)) pa_nil))) pe_int (fun _ _ => rfl)) pe_str (nomark _))
    (pe_one (pe_cmpR (op_eqNil hu) (pe_fld (pe_makeS N.make GI hr (by rfl) N.mg bI (fun σ => passAt takes0 σ) (pa_it (D := RoomIs K) (Γ := EnvOk K 0 []) (a := .data (.tuple [.str "n"])) room_up hΓ (pe_room rfl noNames 8 (by kernel_rfl)) (pa_it (a := .data (.tuple [])) room_up hΓ (pe_room rfl noNames 8 (by kernel_rfl)) (pa_it (a := .dict []) room_up hΓ (pe_room rfl noNames 8 (by kernel_rfl)) (pa_it (a := .data (.tuple [])) room_up hΓ (pe_room rfl noNames 8 (by kernel_rfl)) (pa_it (a := .data (.tuple [])) room_up hΓ (pe_room rfl noNames 8 (by kernel_rfl)) pa_it0)))))) rfl) (pe_tup pa_nil) (nomark _)))))), fun D σ H ⟨d, vr, b, ⟨p, vb, e11, hn⟩, vp, dp, vl, dl, e13, e14, hm, hm2, hp, hl⟩ nx => ?_⟩
  have hnH := hn.g (SameG.of hide_sub)
  have sh := nest_shape
  simp only [Bool.and_eq_true, decide_eq_true_eq] at sh
  obtain ⟨⟨⟨⟨sh1, sh2⟩, sh3⟩, sh4⟩, sh5⟩ := sh
  have okp := List.all_eq_true.mp paths_bad _ hm
  simp only [Bool.and_eq_true] at okp
  obtain ⟨⟨⟨p1, p2⟩, p3⟩, p4⟩ := okp
  have okl := List.all_eq_true.mp places_bad _ hm2
  rw [Bool.not_eq_true'] at okl
  have ok1 := run_eqv
  simp only [Bool.and_eq_true] at ok1
  obtain ⟨⟨⟨q1, q2⟩, q3⟩, q4⟩ := ok1
  refine ⟨_, e11, _, e13, _, e14, p, vb, vp, vl, dp, dl, rR, bsL, rfl, hnH, hp, hl, p1, p2, p3, Option.isNone_iff_eq_none.mp p4, sh1, sh2, by rw [sh3]; decide, by rw [sh3]; exact okl, fun H1 s1 => ⟨true, rfl, iteT ?_⟩⟩
  have b1 := b.kp (Kp.g s1)
  have shp : shapely bsL := .inr ⟨41, sh1⟩
  refine ⟨_, e11, tell noEnv fun H2 v2 s2 d2 => ?_⟩
  have u2 := s1.trans (SameG.of s2)
  refine ⟨p, vb, v2, path1, rR, bsL, rfl, hnH.g u2, d2, q3, shp, fun ndd e H3 v3 s3 d3 => ?_, fun e => absurd (node1.symm.trans e) (by intro z; cases z)⟩
  obtain rfl := Option.some.inj (node1.symm.trans e)
  have u3 := u2.trans s3
  have b3 := b.kp (Kp.g (d := d) (s := s) u3)
  refine ⟨_, b3.e2, bigRunD, bigRunD, d3, dp_g (SameG.of hide_sub) _ _ b3.run, q1, q1, ?_⟩
  rw [q2]
  refine ⟨true, rfl, iteT ⟨_, e11, tell noEnv fun H4 v4 s4 d4 => ?_⟩⟩
  have u4 := u3.trans (SameG.of s4)
  refine ⟨p, vb, v4, path2, rR, bsL, rfl, hnH.g u4, d4, q4, shp, fun ndd e H5 v5 s5 d5 => ?_, fun e => absurd (node2.symm.trans e) (by intro z; cases z)⟩
  obtain rfl := Option.some.inj (node2.symm.trans e)
  have u5 := u4.trans s5
  have b5 := b.kp (Kp.g (d := d) (s := s) u5)
  cases d5 with
  | @tup p5 xs5 _ hp5 hA5 =>
  obtain ⟨x5, xr5, rfl, dx5, _⟩ := dps_cons hA5
  cases dx5
  refine ⟨p5, _, 0, _, rfl, rfl, hp5, atI_nat (j := 0) rfl, rfl, true, rfl, iteT ?_⟩
  refine ⟨fun _ => False, out_no, noEnv, fun H6 vs s6 it => ?_⟩
  rw [hide_no] at it
  have b6 := b5.kp (Kp.same s6)
  have ok := empty_ok
  simp only [Bool.and_eq_true] at ok
  obtain ⟨ok, ⟨⟨sz, sr⟩, sg⟩, few⟩ := ok
  match vs, it with
  | [w0, w1, w2, w3, w4], ⟨c0, c1, c2, c3, c4, _⟩ =>
    intro y dy ny ndy ne
    have s7 : Same H6 (upd (upd H6 dy (.own y)) y (.ins CN dy [])) := (same_upd ndy).later ny
    have e7 := upd_same (H := upd H6 dy (.own y)) (a := y) (o := HO.ins CN dy [])
    have t7 := b6.tb.up (SameG.of s7).tab
    refine ⟨y, dy, w0, w1, w2, w3, w4, .tuple [.str "n"], .tuple [], .tuple [], .tuple [], .dict [], rfl, e7, room_up.up _ _ _ _ s7 c0, room_up.up _ _ _ _ s7 c1, room_up.up _ _ _ _ s7 c2, room_up.up _ _ _ _ s7 c3, room_up.up _ _ _ _ s7 c4, sz, sg, sr, sg, sg, t7.n, t7.a, t7.h, t7.t, few, fun _ H8 kp tb hN8 => ⟨rfl, ?_⟩, fun z => absurd (ok.symm.trans z) (by decide)⟩
    obtain ⟨dx8, vz, vg, vk, rd, ld, ad, ys, zs, ff, h1, _⟩ := hN8.ob
    refine ⟨y, CN, dx8, _, w4, rfl, h1, N.cl, N.n4, nf_body, Nat.zero_le _, fun t nt => ?_⟩
    have s9 := same_upd (o := HO.tup []) nt
    exact ⟨.tuple [], t, dp_g (SameG.of s9) _ _ hN8.bd, sg, rfl, SqT.of upd_same, nx _⟩
end
end Kd
set_option maxHeartbeats 8000000
/-! the law -/
namespace Kd
open PySem L2 Lo
section
variable {P : Program} {w : World} {K : PySem.W.Frag} {mg : Str → Option Value} {base : Heap}
def spLaw (K : PySem.W.Frag) (TN TA TH TT : Addr) : Sp := fun vs H Q _ => ∃ s : Addr, vs = [.ref s] ∧ Scr K H s ∧ Tabs TN TA TH TT H ∧ ∀ H', Q (.bl true) H'
theorem ok_law {CN C C2 CP f fI fD fP fN fR fH fL fArr pA fLab pL fSt fW fA : Addr} {fd fdI fdD fdP fdN fdR fdH fdArr fdLab fdSt fdW fdA : FuncData} {TN TA TH TT : Addr} (F : Fun K "law" "law" sLaw f fd) (T : Blt mg) (hrange : mg "range" = none) (hlist : mg "list" = none) (N : NTxt K mg CN fI)
    (GI : FnOk P w K mg base (L2.CX P w) 90 fI fdI ["self", "sizes", "given", "rooms", "kept", "body"] (spNInit K CN C TN TA TH TT)) (bI : Binds K fdI ["self", "sizes", "given", "rooms", "kept", "body"] [])
    (GD : FnOk P w K mg base CX0 1 fD fdD ["many"] (spDeep K)) (kD : PySem.W.keepIn K (.ref fD) = true) (bD : Binds K fdD ["many"] []) (gD : mg "_law_deep" = some (.ref fD))
    (GP : FnOk P w K mg base CX0 3 fP fdP ["draw", "items"] (spLPick K)) (kP : PySem.W.keepIn K (.ref fP) = true) (bP : Binds K fdP ["draw", "items"] []) (gP : mg "_law_pick" = some (.ref fP))
    (GN : FnOk P w K mg base CX0 2 fN fdN [] (spNew K badNodesD)) (kN : PySem.W.keepIn K (.ref fN) = true) (bN : Binds K fdN [] []) (gN : mg "_law_bad_nodes" = some (.ref fN))
    (GR : FnOk P w K mg base CX0 92 fR fdR ["sizes", "given", "rooms", "kept", "body"] (spRefused K TN TA TH TT)) (kR : PySem.W.keepIn K (.ref fR) = true) (bR : Binds K fdR ["sizes", "given", "rooms", "kept", "body"] []) (gR : mg "_law_refused" = some (.ref fR))
    (GH : FnOk P w K mg base CX0 4 fH fdH ["draw", "body"] (spBadHeads K)) (kH : PySem.W.keepIn K (.ref fH) = true) (bH : Binds K fdH ["draw", "body"] []) (gH : mg "_law_bad_heads" = some (.ref fH))
    (hA : PropOf K CN "arrays" pA fArr) (GArr : FnOk P w K mg base CX0 1 fArr fdArr ["self"] (spArrays K CN)) (bArr : Binds K fdArr ["self"] [])
    (hL : PropOf K CN "labels" pL fLab) (GLab : FnOk P w K mg base CX0 1 fLab fdLab ["self"] (spLabels K CN)) (bLab : Binds K fdLab ["self"] [])
    (GS : FnOk P w K mg base CX0 43 fSt fdSt ["nest"] (spStatements K CN)) (kS : PySem.W.keepIn K (.ref fSt) = true) (bS : Binds K fdSt ["nest"] []) (gS : mg "statements" = some (.ref fSt))
    (GW : FnOk P w K mg base CX0 44 fW fdW ["nest", "path", "place"] (spNowhere K CN)) (kW : PySem.W.keepIn K (.ref fW) = true) (bW : Binds K fdW ["nest", "path", "place"] []) (gW : mg "_law_nowhere" = some (.ref fW))
    (GA : FnOk P w K mg base (L2.CX P w) 3 fA fdA ["nest", "path"] (spNodeAt K CN C2)) (kA : PySem.W.keepIn K (.ref fA) = true) (bA : Binds K fdA ["nest", "path"] []) (gA : mg "node_at" = some (.ref fA)) :
    FnOk P w K mg base CX0 93 f fd ["script"] (spLaw K TN TA TH TT) := by
  refine F.ok scLaw (fun vs H Q E h => ?_) (fun cdv A outer s0 H vs Q E hr h => ?_)
  · obtain ⟨s, rfl, _⟩ := h
    rfl
  · obtain ⟨s, rfl, hs, tb, q⟩ := h
    have nd := scLaw.nd
    have r1 := hr.mono (show 1 ≤ 92 by decide)
    have r2 := hr.mono (show 2 ≤ 92 by decide)
    have r3 := hr.mono (show 3 ≤ 92 by decide)
    have r43 := hr.mono (show 43 ≤ 92 by decide)
    have r44 := hr.mono (show 44 ≤ 92 by decide)
    have r91 := hr.mono (show 91 ≤ 92 by decide)
    obtain ⟨t2, p2, k2⟩ := st_loop (P := P) (w := w) (K := K) (mg := mg) (base := base) (f := f) (cdv := cdv) (A := A) (outer := outer) (s0 := s0) (H0 := H) (E := E) (s := s) 92 (by decide) hr hrange GP kP bP gP GN kN bN gN GR kR bR gR GH kH bH gH
    obtain ⟨t3, p3, k3⟩ := st_two (P := P) (w := w) (K := K) (mg := mg) (base := base) (f := f) (cdv := cdv) (A := A) (outer := outer) (s0 := s0) (H0 := H) (E := E) (s := s) (TN := TN) (TA := TA) (TH := TH) (TT := TT)
    obtain ⟨t4, p4, k4⟩ := st_two2 (P := P) (w := w) (K := K) (mg := mg) (base := base) (f := f) (cdv := cdv) (A := A) (outer := outer) (s0 := s0) (H0 := H) (E := E) (s := s) 92 hr T GR kR bR gR
    obtain ⟨t5, p5, k5⟩ := st_three (P := P) (w := w) (K := K) (mg := mg) (base := base) (f := f) (cdv := cdv) (A := A) (outer := outer) (s0 := s0) (H0 := H) (E := E) (s := s) (TN := TN) (TA := TA) (TH := TH) (TT := TT)
    obtain ⟨t6, p6, k6⟩ := st_three2 (P := P) (w := w) (K := K) (mg := mg) (base := base) (f := f) (cdv := cdv) (A := A) (outer := outer) (s0 := s0) (H0 := H) (E := E) (s := s) 92 hr T GR kR bR gR
    obtain ⟨t7, p7, k7⟩ := st_deep (P := P) (w := w) (K := K) (mg := mg) (base := base) (f := f) (cdv := cdv) (A := A) (outer := outer) (s0 := s0) (H0 := H) (E := E) (s := s) 92 hr T GR kR bR gR r1 GD kD bD gD
    obtain ⟨t8, p8, k8⟩ := st_names (P := P) (w := w) (K := K) (mg := mg) (base := base) (f := f) (cdv := cdv) (A := A) (outer := outer) (s0 := s0) (H0 := H) (E := E) (s := s) (TN := TN) (TA := TA) (TH := TH) (TT := TT) T hrange
    obtain ⟨t9, p9, k9⟩ := st_many (P := P) (w := w) (K := K) (mg := mg) (base := base) (f := f) (cdv := cdv) (A := A) (outer := outer) (s0 := s0) (H0 := H) (E := E) (s := s) (TN := TN) (TA := TA) (TH := TH) (TT := TT) T hrange
    obtain ⟨t10, p10, k10⟩ := st_nest (P := P) (w := w) (K := K) (mg := mg) (base := base) (f := f) (cdv := cdv) (A := A) (outer := outer) (s0 := s0) (H0 := H) (E := E) (s := s) 90 r91 T hrange N GI bI r1 GD kD bD gD
    obtain ⟨t11, p11, k11⟩ := st_tells (P := P) (w := w) (K := K) (mg := mg) (base := base) (f := f) (cdv := cdv) (A := A) (outer := outer) (s0 := s0) (H0 := H) (E := E) (s := s) (TN := TN) (TA := TA) (TH := TH) (TT := TT) T hlist N r2 r43 hA GArr bArr hL GLab bLab GS kS bS gS
    obtain ⟨t12, p12, k12⟩ := st_paths (P := P) (w := w) (K := K) (mg := mg) (base := base) (f := f) (cdv := cdv) (A := A) (outer := outer) (s0 := s0) (H0 := H) (E := E) (CN := CN) (s := s) (TN := TN) (TA := TA) (TH := TH) (TT := TT)
    obtain ⟨t13, p13, k13⟩ := st_picks (P := P) (w := w) (K := K) (mg := mg) (base := base) (f := f) (cdv := cdv) (A := A) (outer := outer) (s0 := s0) (H0 := H) (E := E) (CN := CN) (s := s) (TN := TN) (TA := TA) (TH := TH) (TT := TT) r3 GP kP bP gP
    obtain ⟨t14, p14, k14⟩ := st_end (P := P) (w := w) (K := K) (mg := mg) (base := base) (f := f) (cdv := cdv) (A := A) (outer := outer) (s0 := s0) (H0 := H) (E := E) (s := s) 90 r91 T N GI bI r44 GW kW bW gW GA kA bA gA
    refine ⟨_, pss_cons (ps_set (i := 1) nd rfl (.inl rfl) (pe_lst (pa_cons (pv 0) (pa_cons pe_int pa_nil)))) (pss_cons (ps_set (i := 2) nd rfl (.inl rfl) (pe_w (K := K) (Ln := 0) (d := bigRunD) 12 rfl noNames (by kernel_rfl)))
      (pss_cons p2 (pss_cons p3 (pss_cons p4 (pss_cons p5 (pss_cons p6 (pss_cons p7 (pss_cons p8 (pss_cons p9 (pss_cons p10 (pss_cons p11 (pss_cons p12 (pss_cons p13 (pss_one p14)))))))))))))), ?_⟩
    refine ⟨_, rfl, by show 2 ≤ sizeLine; decide, fun d ndd => ?_⟩
    have s1 := same_upd (o := HO.lst [.ref s, .int 0]) ndd
    have ed := upd_same (H := H) (a := d) (o := HO.lst [.ref s, .int 0])
    generalize hH1 : upd H d (.lst [.ref s, .int 0]) = H1 at *
    obtain ⟨ns, hs1, hs2⟩ := hs
    have sne : s ≠ d ∨ ∃ ns : List Int, ns.length ≤ 63 ∧ ∀ H' : Hp, SqL K H' s (ns.map V.int) := by
      rcases hs1 with (h | ⟨o, h⟩) | h
      · exact .inl fun z => by
          rw [z, ndd] at h
          exact nomatch h
      · exact .inl fun z => by
          rw [z, ndd] at h
          exact nomatch h
      · exact .inr ⟨ns, hs2, fun H' => .inr h⟩
    have dr1 : DrawAt K H1 d s 0 := ⟨ed, ⟨ns, s1.seq hs1, hs2⟩, sne⟩
    refine ⟨Only d, fun a z => by rw [show a = d from z, ed]; exact Option.some_ne_none _, noEnv, fun H2 vr s2 dr => ?_⟩
    have b : LB K d s TN TA TH TT vr [some (.ref s), some (.ref d), some vr, none, none, none, none, none, none, none, none, none, none, none, none, none] H2 := ⟨rfl, rfl, rfl, ⟨0, dr1.same s2⟩, dr, tb.up (SameG.of (s1.trans s2)).tab⟩
    exact k2 _ _ _ ⟨d, vr, b⟩ fun _ _ h3 => k3 _ _ _ h3 fun _ _ h4 => k4 _ _ _ h4 fun _ _ h5 => k5 _ _ _ h5 fun _ _ h6 => k6 _ _ _ h6 fun _ _ h7 => k7 _ _ _ h7 fun _ _ h8 => k8 _ _ _ h8 fun _ _ h9 => k9 _ _ _ h9 fun _ _ h10 => k10 _ _ _ h10 fun _ _ h11 => k11 _ _ _ h11 fun _ _ h12 => k12 _ _ _ h12 fun _ _ h13 => k13 _ _ _ h13 fun _ _ h14 => k14 _ _ _ h14 fun H' => q H'
end
end Kd
set_option maxHeartbeats 8000000
/-! what the head tells (made by gen40.py) -/
namespace Kd
open PySem L2 Lo He
/-! ### more facts -/
def oexB (K : PySem.W.Frag) (C : Addr) : Bool := (match K.lookup C with
  | some ⟨.type t, _, .cls cd, ⟨[_, _, _, _, some (.builtin i), _]⟩⟩ => decide (t = "type") && (decide (i = "ValueError.__new__") && (cd.hasDict && (!cd.hasDel && (match cd.mro with
    | .ref c :: bm => decide (c = C) && PySem.HandSPX.refsVE bm
    | _ => false))))
  | _ => false) && (eqO (PySem.W.findIn K (.ref C) "__setattr__") (some (some (.builtin "object.__setattr__"))) && (decide (PySem.W.subIn K (.ref C) (.type "BaseException") = some true) && (decide (PySem.W.typeIn K (.ref C) = some (.type "type")) && PySem.W.keepIn K (.ref C))))
theorem oexB_ok {K : PySem.W.Frag} {C : Addr} (h : oexB K C = true) : OexC K C := by
  unfold oexB at h
  simp only [Bool.and_eq_true] at h
  obtain ⟨h0, h1, h2, h3, h4⟩ := h
  refine ⟨?_, eqO_ok h1, of_decide_eq_true h2, of_decide_eq_true h3, h4⟩
  split at h0
  · rename_i t d cd k0 k1 k2 k3 i k5 hl
    simp only [Bool.and_eq_true, decide_eq_true_eq, Bool.not_eq_true'] at h0
    obtain ⟨rfl, rfl, hd, hn, hm⟩ := h0
    obtain ⟨n1, n2, n3, n4, n5, n6, n7, n8, n9, n10, n11⟩ := cd
    dsimp only at hd hn hm
    subst hd hn
    split at hm
    · rename_i c bm
      simp only [Bool.and_eq_true, decide_eq_true_eq] at hm
      obtain ⟨rfl, hv⟩ := hm
      exact ⟨_, _, _, _, bm, _, _, _, _, _, _, _, _, _, _, hl, hv⟩
    · exact nomatch hm
  · exact nomatch h0
def excB (K : PySem.W.Frag) (D : Addr) : Bool := eqO (PySem.W.findIn K (.ref D) "__getattribute__") (some (some (.builtin "BaseException.__getattribute__"))) && (eqO (PySem.W.findIn K (.ref D) "__getattr__") (some none) && (decide (PySem.W.subIn K (.ref D) (.type "BaseException") = some true) && (PySem.W.hasDictIn K D && (eqO (PySem.W.findIn K (.ref D) "__class__") (some (some (.builtin "object.__class__"))) &&
  (eqO (PySem.W.specialIn K (.builtin "object.__class__") "__get__") (some (some (.builtin "getset_descriptor.__get__"))) && (decide (PySem.W.takesIn K (.builtin "object.__class__") = some true) && decide (PySem.W.mroIn K D (.type "object") = some true)))))))
theorem excB_ok {K : PySem.W.Frag} {D : Addr} (h : excB K D = true) : ExcC K D := by
  unfold excB at h
  simp only [Bool.and_eq_true] at h
  obtain ⟨h0, h1, h2, h3, h4, h5, h6, h7⟩ := h
  exact ⟨eqO_ok h0, eqO_ok h1, of_decide_eq_true h2, h3, eqO_ok h4, eqO_ok h5, of_decide_eq_true h6, of_decide_eq_true h7⟩
/-- the getter of a property -/
def getA (K : PySem.W.Frag) (C : Addr) (m : Str) : Addr := match PySem.W.recIn K (ma K C m) "property" with
  | some (.ref g :: _) => g
  | _ => 0
def propB (K : PySem.W.Frag) (C : Addr) (m : Str) : Bool := eqO (PySem.W.findIn K (.ref C) m) (some (some (.ref (ma K C m)))) && (eqO (PySem.W.specialIn K (.ref (ma K C m)) "__get__") (some (some (.builtin "property.__get__"))) && (decide (PySem.W.takesIn K (.ref (ma K C m)) = some true) && (match PySem.W.recIn K (ma K C m) "property" with
  | some (.ref _ :: _) => true
  | _ => false)))
theorem propB_ok {K : PySem.W.Frag} {C : Addr} {m : Str} (h : propB K C m = true) : PropOf K C m (ma K C m) (getA K C m) := by
  unfold propB at h
  simp only [Bool.and_eq_true] at h
  obtain ⟨h0, h1, h2, h3⟩ := h
  refine ⟨eqO_ok h0, eqO_ok h1, of_decide_eq_true h2, ?_⟩
  unfold getA
  split at h3
  · rename_i g r e
    rw [e]
    exact ⟨r, rfl⟩
  · exact nomatch h3
/-- a def by its address -/
structure Fn where
  adr : PySem.W.Frag → Addr
  name : Str
  qual : Str
  st : Stmt
def fnA (K : PySem.W.Frag) (a : Addr) : FnW := match K.lookup a with
  | some ⟨_, _, .func fd, _⟩ => some (fd.name, fd.qualname, fd.params, fd.body, fd.scope, fd.globals, fd.closure, fd.builtins)
  | _ => none
def Fn.val (d : Fn) : FnW := some (d.name, d.qual, defArgs d.st, .stmts (defBody d.st), defScope d.st, mainGlobals, [], builtinsNs)
def noneB : Value → Bool
  | .none => true
  | _ => false
def Fn.ok (K : PySem.W.Frag) (d : Fn) : Bool := PySem.W.keepIn K (.ref (d.adr K)) && (match K.lookup (d.adr K) with
  | some ⟨_, _, .func fd, _⟩ => PySem.W.codeIn K fd.code d.qual && noneB fd.defaults
  | _ => false)
theorem Fn.fun_ {K : PySem.W.Frag} {d : Fn} (e : fnA K (d.adr K) = d.val) (c : d.ok K = true) : ∃ fd, Fun K d.name d.qual d.st (d.adr K) fd := by
  unfold Fn.ok at c
  rw [Bool.and_eq_true] at c
  obtain ⟨kp, c2⟩ := c
  unfold fnA at e
  cases q : K.lookup (d.adr K) with
  | none =>
    rw [q] at c2
    exact nomatch c2
  | some o =>
    obtain ⟨oc, od, dt, osl⟩ := o
    rw [q] at c2 e
    cases dt with
    | func fd =>
      obtain ⟨n1, n2, n3, n4, n5, n6, n7, n8, n9, n10, n11, n12, n13, n14, n15⟩ := fd
      have e2 : (some (n1, n2, n3, n4, n5, n6, n7, n15) : FnW) = some (d.name, d.qual, defArgs d.st, .stmts (defBody d.st), defScope d.st, mainGlobals, [], builtinsNs) := e
      simp only [Option.some.injEq, Prod.mk.injEq] at e2
      obtain ⟨h1, h2, h3, h4, h5, h6, h7, h8⟩ := e2
      subst h1 h2 h3 h4 h5 h6 h7 h8
      have c3 : (PySem.W.codeIn K n13 d.qual && noneB n8) = true := c2
      rw [Bool.and_eq_true] at c3
      obtain ⟨k1, k2⟩ := c3
      have k3 : n8 = .none := by
        cases n8 with
        | none => rfl
        | _ => exact nomatch k2
      subst k3
      exact ⟨_, ⟨oc, od, n9, n10, n11, n12, n13, n14, osl, rfl, q, k1⟩, kp⟩
    | _ => exact nomatch c2
theorem func_of {K : PySem.W.Frag} {x qual : Str} {st : Stmt} {p : Str × Option Str} {fd : FuncData} (F : Fun K x qual st (fAd K p) fd) : FunC K x qual st (fAd K p) fd (codeOf K p) := by
  obtain ⟨oc, od, kV, doc, pm, an, cdv, ct, osl, rfl, lk, hcd⟩ := F.ex
  obtain ⟨c, rfl⟩ := codeIn_ref hcd
  have e := codeOf_eq lk rfl
  rw [e]
  exact ⟨⟨oc, od, kV, doc, pm, an, ct, osl, rfl, lk, hcd⟩, F.kp⟩

def faL : List Fa := [.glo "is_whole", .glo "is_nest_name", .glo "is_nest_number", .glo "is_row", .glo "is_atom_of", .glo "is_difference_of", .glo "_is_side_of", .glo "are_atoms", .glo "check", .glo "check_different", .glo "check_heading", .glo "numbers_of", .glo "check_body", .glo "_check_loop", .glo "_check_test", .glo "_check_run", .glo "statements", .glo "_runs_in", .glo "bounds", .glo "check_place", .glo "node_at", .glo "_law_number", .glo "_law_take", .glo "_law_pick", .glo "_law_refused", .glo "_law_bad_atoms", .glo "_law_bad_accesses", .glo "_law_bad_nodes", .glo "_law_deep", .glo "_law_bad_heads", .glo "_law_nowhere", .glo "law", .glo "LoopshedsError", .glo "BadNest", .glo "NoNode", .glo "NoPlace", .glo "Nest", .glo "Statement", .glo "RESERVED", .free "isinstance", .free "int", .free "bool", .free "str", .free "tuple", .free "list", .free "len", .free "enumerate", .free "range", .free "all", .free "set", .free "dict", .free "sorted", .free "abs", .free "ValueError", .int "MOST_NUMBER" 9999, .int "MOST_SIZES" 3, .int "MOST_ROW" 12, .int "MOST_INDEXES" 4, .int "MOST_STAMP" 8, .int "MOST_READS" 6, .int "MOST_AROUND" 39, .str "LETTERS" LET, .str "SIGNS" SIG, .cls "Nest", .mkr "Nest", .cls "Statement", .mkr "Statement", .noat "Nest" "sizes", .noat "Nest" "given", .noat "Nest" "kept", .noat "Nest" "body", .noat "Nest" "_rooms", .noat "Nest" "_labels", .noat "Nest" "_arrays", .noat "Statement" "label", .noat "Statement" "stamp", .noat "Statement" "target", .noat "Statement" "reads", .noat "Statement" "path", .noat "Statement" "levels", .noat "Statement" "loops", .noat "Statement" "counters", .noat "Statement" "tests", .exc "BadNest", .exc "NoPlace", .exm "BadNest" "BadNest" true, .exm "NoNode" "NoNode" true, .exm "NoPlace" "NoPlace" true]
def fnL : List Fn := [⟨fun K => fAd K ("is_whole", none), "is_whole", "is_whole", sIsWhole⟩, ⟨fun K => fAd K ("is_nest_name", none), "is_nest_name", "is_nest_name", sIsNestName⟩, ⟨fun K => fAd K ("is_nest_number", none), "is_nest_number", "is_nest_number", sIsNestNumber⟩, ⟨fun K => fAd K ("is_row", none), "is_row", "is_row", sIsRow⟩, ⟨fun K => fAd K ("is_atom_of", none), "is_atom_of", "is_atom_of", sIsAtomOf⟩, ⟨fun K => fAd K ("is_difference_of", none), "is_difference_of", "is_difference_of", sIsDifferenceOf⟩, ⟨fun K => fAd K ("_is_side_of", none), "_is_side_of", "_is_side_of", sIsSideOf⟩, ⟨fun K => fAd K ("are_atoms", none), "are_atoms", "are_atoms", sAreAtoms⟩, ⟨fun K => fAd K ("check", none), "check", "check", sCheck⟩, ⟨fun K => fAd K ("check_different", none), "check_different", "check_different", sCheckDifferent⟩, ⟨fun K => fAd K ("check_heading", none), "check_heading", "check_heading", sCheckHeading⟩, ⟨fun K => fAd K ("numbers_of", none), "numbers_of", "numbers_of", sNumbersOf⟩, ⟨fun K => fAd K ("check_body", none), "check_body", "check_body", sCheckBody⟩, ⟨fun K => fAd K ("_check_loop", none), "_check_loop", "_check_loop", sCheckLoop⟩, ⟨fun K => fAd K ("_check_test", none), "_check_test", "_check_test", sCheckTest⟩, ⟨fun K => fAd K ("_check_run", none), "_check_run", "_check_run", sCheckRun⟩, ⟨fun K => fAd K ("statements", none), "statements", "statements", sStatements⟩, ⟨fun K => fAd K ("_runs_in", none), "_runs_in", "_runs_in", sRunsIn⟩, ⟨fun K => fAd K ("bounds", none), "bounds", "bounds", sBounds⟩, ⟨fun K => fAd K ("check_place", none), "check_place", "check_place", sCheckPlace⟩, ⟨fun K => fAd K ("node_at", none), "node_at", "node_at", sNodeAt⟩, ⟨fun K => fAd K ("_law_number", none), "_law_number", "_law_number", sLNumber⟩, ⟨fun K => fAd K ("_law_take", none), "_law_take", "_law_take", sLTake⟩, ⟨fun K => fAd K ("_law_pick", none), "_law_pick", "_law_pick", sLPick⟩, ⟨fun K => fAd K ("_law_refused", none), "_law_refused", "_law_refused", sLRefused⟩, ⟨fun K => fAd K ("_law_bad_atoms", none), "_law_bad_atoms", "_law_bad_atoms", sLBadAtoms⟩, ⟨fun K => fAd K ("_law_bad_accesses", none), "_law_bad_accesses", "_law_bad_accesses", sLBadAccesses⟩, ⟨fun K => fAd K ("_law_bad_nodes", none), "_law_bad_nodes", "_law_bad_nodes", sLBadNodes⟩, ⟨fun K => fAd K ("_law_deep", none), "_law_deep", "_law_deep", sLDeep⟩, ⟨fun K => fAd K ("_law_bad_heads", none), "_law_bad_heads", "_law_bad_heads", sLBadHeads⟩, ⟨fun K => fAd K ("_law_nowhere", none), "_law_nowhere", "_law_nowhere", sLNowhere⟩, ⟨fun K => fAd K ("law", none), "law", "law", sLaw⟩, ⟨fun K => ma K (ga K "Nest") "__init__", "__init__", "Nest.__init__", sNInit⟩, ⟨fun K => ma K (ga K "NoNode") "__init__", "__init__", "NoNode.__init__", sNoNodeInit⟩, ⟨fun K => ma K (ga K "Statement") "__init__", "__init__", "Statement.__init__", sSInit⟩, ⟨fun K => getA K (ga K "Nest") "arrays", "arrays", "Nest.arrays", sNArrays⟩, ⟨fun K => getA K (ga K "Nest") "labels", "labels", "Nest.labels", sNLabels⟩]
def tfL : List Defn := [("is_nest_name", none), ("are_atoms", none), ("check_heading", none), ("_check_test", none)]
def exL (K : PySem.W.Frag) : List Bool := [oexB K (ga K "NoNode"),
  excB K (ga K "BadNest"),
  excB K (ga K "NoNode"),
  excB K (ga K "NoPlace"),
  xfB K (ga K "NoNode"),
  eqO (PySem.W.findIn K (.ref (ga K "NoNode")) "path") (some none),
  eqO (PySem.W.findIn K (.ref (ga K "NoNode")) "__init__") (some (some (.ref (ma K (ga K "NoNode") "__init__")))),
  decide (PySem.W.typeIn K (.ref (ma K (ga K "NoNode") "__init__")) = some (.type "function")),
  decide (PySem.W.kitOne K (.ref (ga K "BadNest")) (.ref (ga K "LoopshedsError")) = some true),
  decide (PySem.W.kitOne K (.ref (ga K "NoNode")) (.ref (ga K "LoopshedsError")) = some true),
  decide (PySem.W.kitOne K (.ref (ga K "NoPlace")) (.ref (ga K "LoopshedsError")) = some true),
  decide (PySem.W.kitOne K (.ref (ga K "BadNest")) (.type "ValueError") = some true),
  propB K (ga K "Nest") "arrays",
  propB K (ga K "Nest") "labels",
  tupB K "RESERVED" (resv.map Dv.str)]
def exAll (K : PySem.W.Frag) : Bool := (exL K).all (fun b => b) && fnL.all fun d => d.ok K
/-- what the head tells -/
structure Told (w : World) (h : Heap) (K : PySem.W.Frag) : Prop where
  x : SaysX faL [] [] tfL exAll w h K
  f : (fnL.map fun d => fnA K (d.adr K)) = fnL.map Fn.val
section
variable {w : World} {h : Heap} {K : PySem.W.Frag}
theorem Told.fact (c : Told w h K) (i : Nat) {f : Fa} (e : faL[i]? = some f := by rfl) : f.ok K = true := c.x.t.d.fact i e
theorem Told.ex (c : Told w h K) (i : Nat) {b : Bool} (e : (exL K)[i]? = some b) : b = true := List.all_eq_true.mp (Bool.and_eq_true_iff.mp c.x.more).1 b (List.mem_of_getElem? e)
theorem Told.fn (c : Told w h K) (i : Nat) {d : Fn} (e : fnL[i]? = some d := by rfl) : ∃ fd, Fun K d.name d.qual d.st (d.adr K) fd := by
  have e2 : (fnL.map fun d => fnA K (d.adr K))[i]? = (fnL.map Fn.val)[i]? := by rw [c.f]
  rw [List.getElem?_map, List.getElem?_map, e] at e2
  exact Fn.fun_ (Option.some.inj e2) (List.all_eq_true.mp (Bool.and_eq_true_iff.mp c.x.more).2 d (List.mem_of_getElem? e))
end
abbrev AlY : Type := AlX × List FnW
def obsY (n : Nat) (g : Addr → Option Obj) : AlY := (obsX n faL [] [] tfL exAll g, fnL.map fun d => fnA (frT g (asD g n)) (d.adr (frT g (asD g n))))
def valY (w : World) : AlY := (valX [] [] w, fnL.map Fn.val)
def hookY (n : Nat) : PySem.W.Hook where
  α := AlY
  obs := fun s => obsY n s.heap.get?
  val := fun w => valY w
  says := fun w h => ∃ K : PySem.W.Frag, K.In h ∧ Told w h K
  of := fun _ _ e => ⟨_, frT_in, saysX_of (congrArg (fun z : AlY => z.1) e), congrArg (fun z : AlY => z.2) e⟩
  keeps := fun _ _ _ ⟨K, hK, c⟩ k => ⟨K, PySem.W.Frag.In.keeps hK k, ⟨⟨c.x.t, c.x.more, c.x.hd, c.x.out, fun p hp => k _ _ (c.x.empty p hp)⟩, c.f⟩⟩
theorem obsY_eq {n : Nat} {g : Addr → Option Obj} {s : Shared} (h : ∀ a, g a = s.heap.get? a) : obsY n g = (hookY n).obs s := by
  have e : g = s.heap.get? := funext h
  rw [e] <;> rfl

/-- the law keeps its promise over what the head tells -/
theorem told_law {P : Program} {w : World} {K : PySem.W.Frag} {h : Heap} {mg : Str → Option Value} {fa : Addr} (X : K.In h) (G : h.Ns mainGlobals mg) (hfa : mg "law" = some (.ref fa)) (c : Told w h K) :
    ∃ fd : FuncData, (∀ (s : Shared) (u : Value), BindsTo s fd ⟨[u], []⟩ [("script", u)]) ∧ ∀ base : Heap, K.In base → base.Ns mainGlobals mg → (∀ p ∈ tfL, GxR.TabB base mg (cT K p).1 (cT K p).2) →
      FnOk P w K mg base CX0 93 fa fd ["script"] (spLaw K (cT K ("is_nest_name", none)).2 (cT K ("are_atoms", none)).2 (cT K ("check_heading", none)).2 (cT K ("_check_test", none)).2) := by
  have elaw := hfa.symm.trans (He.glo_ok X G (c.fact 31))
  injection elaw with elaw
  injection elaw with elaw
  subst elaw
  obtain ⟨dF_is_whole, F_is_whole⟩ := c.fn 0
  obtain ⟨dF_is_nest_name, F_is_nest_name⟩ := c.fn 1
  obtain ⟨dF_is_nest_number, F_is_nest_number⟩ := c.fn 2
  obtain ⟨dF_is_row, F_is_row⟩ := c.fn 3
  obtain ⟨dF_is_atom_of, F_is_atom_of⟩ := c.fn 4
  obtain ⟨dF_is_difference_of, F_is_difference_of⟩ := c.fn 5
  obtain ⟨dF_is_side_of, F_is_side_of⟩ := c.fn 6
  obtain ⟨dF_are_atoms, F_are_atoms⟩ := c.fn 7
  obtain ⟨dF_check, F_check⟩ := c.fn 8
  obtain ⟨dF_check_different, F_check_different⟩ := c.fn 9
  obtain ⟨dF_check_heading, F_check_heading⟩ := c.fn 10
  obtain ⟨dF_numbers_of, F_numbers_of⟩ := c.fn 11
  obtain ⟨dF_check_body, F_check_body⟩ := c.fn 12
  obtain ⟨dF_check_loop, F_check_loop⟩ := c.fn 13
  obtain ⟨dF_check_test, F_check_test⟩ := c.fn 14
  obtain ⟨dF_check_run, F_check_run⟩ := c.fn 15
  obtain ⟨dF_statements, F_statements⟩ := c.fn 16
  obtain ⟨dF_runs_in, F_runs_in⟩ := c.fn 17
  obtain ⟨dF_bounds, F_bounds⟩ := c.fn 18
  obtain ⟨dF_check_place, F_check_place⟩ := c.fn 19
  obtain ⟨dF_node_at, F_node_at⟩ := c.fn 20
  obtain ⟨dF_law_number, F_law_number⟩ := c.fn 21
  obtain ⟨dF_law_take, F_law_take⟩ := c.fn 22
  obtain ⟨dF_law_pick, F_law_pick⟩ := c.fn 23
  obtain ⟨dF_law_refused, F_law_refused⟩ := c.fn 24
  obtain ⟨dF_law_bad_atoms, F_law_bad_atoms⟩ := c.fn 25
  obtain ⟨dF_law_bad_accesses, F_law_bad_accesses⟩ := c.fn 26
  obtain ⟨dF_law_bad_nodes, F_law_bad_nodes⟩ := c.fn 27
  obtain ⟨dF_law_deep, F_law_deep⟩ := c.fn 28
  obtain ⟨dF_law_bad_heads, F_law_bad_heads⟩ := c.fn 29
  obtain ⟨dF_law_nowhere, F_law_nowhere⟩ := c.fn 30
  obtain ⟨dF_law, F_law⟩ := c.fn 31
  obtain ⟨dI_Nest, I_Nest⟩ := c.fn 32
  obtain ⟨dI_NoNode, I_NoNode⟩ := c.fn 33
  obtain ⟨dI_Statement, I_Statement⟩ := c.fn 34
  obtain ⟨dP_arrays, P_arrays⟩ := c.fn 35
  obtain ⟨dP_labels, P_labels⟩ := c.fn 36
  have B_is_whole : Binds K dF_is_whole ["thing"] [] := F_is_whole.binds (fun _ _ _ _ _ _ us hl => match us, hl with | [_], _ => rfl)
  have g_is_whole : mg "is_whole" = some (.ref (fAd K ("is_whole", none))) := He.glo_ok X G (c.fact 0)
  have B_is_nest_name : Binds K dF_is_nest_name ["thing"] [] := F_is_nest_name.binds (fun _ _ _ _ _ _ us hl => match us, hl with | [_], _ => rfl)
  have g_is_nest_name : mg "is_nest_name" = some (.ref (fAd K ("is_nest_name", none))) := He.glo_ok X G (c.fact 1)
  have B_is_nest_number : Binds K dF_is_nest_number ["thing"] [] := F_is_nest_number.binds (fun _ _ _ _ _ _ us hl => match us, hl with | [_], _ => rfl)
  have g_is_nest_number : mg "is_nest_number" = some (.ref (fAd K ("is_nest_number", none))) := He.glo_ok X G (c.fact 2)
  have B_is_row : Binds K dF_is_row ["thing", "least", "most"] [] := F_is_row.binds (fun _ _ _ _ _ _ us hl => match us, hl with | [_, _, _], _ => rfl)
  have g_is_row : mg "is_row" = some (.ref (fAd K ("is_row", none))) := He.glo_ok X G (c.fact 3)
  have B_is_atom_of : Binds K dF_is_atom_of ["thing", "scope"] [] := F_is_atom_of.binds (fun _ _ _ _ _ _ us hl => match us, hl with | [_, _], _ => rfl)
  have g_is_atom_of : mg "is_atom_of" = some (.ref (fAd K ("is_atom_of", none))) := He.glo_ok X G (c.fact 4)
  have B_is_difference_of : Binds K dF_is_difference_of ["thing", "scope"] [] := F_is_difference_of.binds (fun _ _ _ _ _ _ us hl => match us, hl with | [_, _], _ => rfl)
  have g_is_difference_of : mg "is_difference_of" = some (.ref (fAd K ("is_difference_of", none))) := He.glo_ok X G (c.fact 5)
  have B_is_side_of : Binds K dF_is_side_of ["thing", "scope"] [] := F_is_side_of.binds (fun _ _ _ _ _ _ us hl => match us, hl with | [_, _], _ => rfl)
  have g_is_side_of : mg "_is_side_of" = some (.ref (fAd K ("_is_side_of", none))) := He.glo_ok X G (c.fact 6)
  have B_are_atoms : Binds K dF_are_atoms ["thing", "scope", "most"] [] := F_are_atoms.binds (fun _ _ _ _ _ _ us hl => match us, hl with | [_, _, _], _ => rfl)
  have g_are_atoms : mg "are_atoms" = some (.ref (fAd K ("are_atoms", none))) := He.glo_ok X G (c.fact 7)
  have B_check : Binds K dF_check ["fits"] [] := F_check.binds (fun _ _ _ _ _ _ us hl => match us, hl with | [_], _ => rfl)
  have g_check : mg "check" = some (.ref (fAd K ("check", none))) := He.glo_ok X G (c.fact 8)
  have B_check_different : Binds K dF_check_different ["row"] [] := F_check_different.binds (fun _ _ _ _ _ _ us hl => match us, hl with | [_], _ => rfl)
  have g_check_different : mg "check_different" = some (.ref (fAd K ("check_different", none))) := He.glo_ok X G (c.fact 9)
  have B_check_heading : Binds K dF_check_heading ["sizes", "given", "rooms", "kept"] [] := F_check_heading.binds (fun _ _ _ _ _ _ us hl => match us, hl with | [_, _, _, _], _ => rfl)
  have g_check_heading : mg "check_heading" = some (.ref (fAd K ("check_heading", none))) := He.glo_ok X G (c.fact 10)
  have B_numbers_of : Binds K dF_numbers_of ["facts"] [] := F_numbers_of.binds (fun _ _ _ _ _ _ us hl => match us, hl with | [_], _ => rfl)
  have g_numbers_of : mg "numbers_of" = some (.ref (fAd K ("numbers_of", none))) := He.glo_ok X G (c.fact 11)
  have B_check_body : Binds K dF_check_body ["body", "scope", "around"] [] := F_check_body.binds (fun _ _ _ _ _ _ us hl => match us, hl with | [_, _, _], _ => rfl)
  have g_check_body : mg "check_body" = some (.ref (fAd K ("check_body", none))) := He.glo_ok X G (c.fact 12)
  have B_check_loop : Binds K dF_check_loop ["node", "scope", "around"] [] := F_check_loop.binds (fun _ _ _ _ _ _ us hl => match us, hl with | [_, _, _], _ => rfl)
  have g_check_loop : mg "_check_loop" = some (.ref (fAd K ("_check_loop", none))) := He.glo_ok X G (c.fact 13)
  have B_check_test : Binds K dF_check_test ["node", "scope", "around"] [] := F_check_test.binds (fun _ _ _ _ _ _ us hl => match us, hl with | [_, _, _], _ => rfl)
  have g_check_test : mg "_check_test" = some (.ref (fAd K ("_check_test", none))) := He.glo_ok X G (c.fact 14)
  have B_check_run : Binds K dF_check_run ["node", "scope"] [] := F_check_run.binds (fun _ _ _ _ _ _ us hl => match us, hl with | [_, _], _ => rfl)
  have g_check_run : mg "_check_run" = some (.ref (fAd K ("_check_run", none))) := He.glo_ok X G (c.fact 15)
  have B_statements : Binds K dF_statements ["nest"] [] := F_statements.binds (fun _ _ _ _ _ _ us hl => match us, hl with | [_], _ => rfl)
  have g_statements : mg "statements" = some (.ref (fAd K ("statements", none))) := He.glo_ok X G (c.fact 16)
  have B_runs_in : Binds K dF_runs_in ["body", "path", "around"] [] := F_runs_in.binds (fun _ _ _ _ _ _ us hl => match us, hl with | [_, _, _], _ => rfl)
  have g_runs_in : mg "_runs_in" = some (.ref (fAd K ("_runs_in", none))) := He.glo_ok X G (c.fact 17)
  have B_bounds : Binds K dF_bounds ["nest", "place"] [] := F_bounds.binds (fun _ _ _ _ _ _ us hl => match us, hl with | [_, _], _ => rfl)
  have g_bounds : mg "bounds" = some (.ref (fAd K ("bounds", none))) := He.glo_ok X G (c.fact 18)
  have B_check_place : Binds K dF_check_place ["place", "many"] [] := F_check_place.binds (fun _ _ _ _ _ _ us hl => match us, hl with | [_, _], _ => rfl)
  have g_check_place : mg "check_place" = some (.ref (fAd K ("check_place", none))) := He.glo_ok X G (c.fact 19)
  have B_node_at : Binds K dF_node_at ["nest", "path"] [] := F_node_at.binds (fun _ _ _ _ _ _ us hl => match us, hl with | [_, _], _ => rfl)
  have g_node_at : mg "node_at" = some (.ref (fAd K ("node_at", none))) := He.glo_ok X G (c.fact 20)
  have B_law_number : Binds K dF_law_number ["script", "index"] [] := F_law_number.binds (fun _ _ _ _ _ _ us hl => match us, hl with | [_, _], _ => rfl)
  have g_law_number : mg "_law_number" = some (.ref (fAd K ("_law_number", none))) := He.glo_ok X G (c.fact 21)
  have B_law_take : Binds K dF_law_take ["draw", "many"] [] := F_law_take.binds (fun _ _ _ _ _ _ us hl => match us, hl with | [_, _], _ => rfl)
  have g_law_take : mg "_law_take" = some (.ref (fAd K ("_law_take", none))) := He.glo_ok X G (c.fact 22)
  have B_law_pick : Binds K dF_law_pick ["draw", "items"] [] := F_law_pick.binds (fun _ _ _ _ _ _ us hl => match us, hl with | [_, _], _ => rfl)
  have g_law_pick : mg "_law_pick" = some (.ref (fAd K ("_law_pick", none))) := He.glo_ok X G (c.fact 23)
  have B_law_refused : Binds K dF_law_refused ["sizes", "given", "rooms", "kept", "body"] [] := F_law_refused.binds (fun _ _ _ _ _ _ us hl => match us, hl with | [_, _, _, _, _], _ => rfl)
  have g_law_refused : mg "_law_refused" = some (.ref (fAd K ("_law_refused", none))) := He.glo_ok X G (c.fact 24)
  have B_law_bad_atoms : Binds K dF_law_bad_atoms [] [] := F_law_bad_atoms.binds (fun _ _ _ _ _ _ us hl => match us, hl with | [], _ => rfl)
  have g_law_bad_atoms : mg "_law_bad_atoms" = some (.ref (fAd K ("_law_bad_atoms", none))) := He.glo_ok X G (c.fact 25)
  have B_law_bad_accesses : Binds K dF_law_bad_accesses [] [] := F_law_bad_accesses.binds (fun _ _ _ _ _ _ us hl => match us, hl with | [], _ => rfl)
  have g_law_bad_accesses : mg "_law_bad_accesses" = some (.ref (fAd K ("_law_bad_accesses", none))) := He.glo_ok X G (c.fact 26)
  have B_law_bad_nodes : Binds K dF_law_bad_nodes [] [] := F_law_bad_nodes.binds (fun _ _ _ _ _ _ us hl => match us, hl with | [], _ => rfl)
  have g_law_bad_nodes : mg "_law_bad_nodes" = some (.ref (fAd K ("_law_bad_nodes", none))) := He.glo_ok X G (c.fact 27)
  have B_law_deep : Binds K dF_law_deep ["many"] [] := F_law_deep.binds (fun _ _ _ _ _ _ us hl => match us, hl with | [_], _ => rfl)
  have g_law_deep : mg "_law_deep" = some (.ref (fAd K ("_law_deep", none))) := He.glo_ok X G (c.fact 28)
  have B_law_bad_heads : Binds K dF_law_bad_heads ["draw", "body"] [] := F_law_bad_heads.binds (fun _ _ _ _ _ _ us hl => match us, hl with | [_, _], _ => rfl)
  have g_law_bad_heads : mg "_law_bad_heads" = some (.ref (fAd K ("_law_bad_heads", none))) := He.glo_ok X G (c.fact 29)
  have B_law_nowhere : Binds K dF_law_nowhere ["nest", "path", "place"] [] := F_law_nowhere.binds (fun _ _ _ _ _ _ us hl => match us, hl with | [_, _, _], _ => rfl)
  have g_law_nowhere : mg "_law_nowhere" = some (.ref (fAd K ("_law_nowhere", none))) := He.glo_ok X G (c.fact 30)
  have B_law : Binds K dF_law ["script"] [] := F_law.binds (fun _ _ _ _ _ _ us hl => match us, hl with | [_], _ => rfl)
  have g_law : mg "law" = some (.ref (fAd K ("law", none))) := He.glo_ok X G (c.fact 31)
  have BI_Nest : Binds K dI_Nest ["self", "sizes", "given", "rooms", "kept", "body"] [] := I_Nest.binds (fun _ _ _ _ _ _ us hl => match us, hl with | [_, _, _, _, _, _], _ => rfl)
  have BI_NoNode : Binds K dI_NoNode ["self", "path"] [] := I_NoNode.binds (fun _ _ _ _ _ _ us hl => match us, hl with | [_, _], _ => rfl)
  have BI_Statement : Binds K dI_Statement ["self", "node", "path", "around"] [] := I_Statement.binds (fun _ _ _ _ _ _ us hl => match us, hl with | [_, _, _, _], _ => rfl)
  have BP_arrays : Binds K dP_arrays ["self"] [] := P_arrays.binds (fun _ _ _ _ _ _ us hl => match us, hl with | [_], _ => rfl)
  have BP_labels : Binds K dP_labels ["self"] [] := P_labels.binds (fun _ _ _ _ _ _ us hl => match us, hl with | [_], _ => rfl)
  have z_isinstance : mg "isinstance" = none := He.free_ok X G (c.fact 39)
  have z_int : mg "int" = none := He.free_ok X G (c.fact 40)
  have z_bool : mg "bool" = none := He.free_ok X G (c.fact 41)
  have z_str : mg "str" = none := He.free_ok X G (c.fact 42)
  have z_tuple : mg "tuple" = none := He.free_ok X G (c.fact 43)
  have z_list : mg "list" = none := He.free_ok X G (c.fact 44)
  have z_len : mg "len" = none := He.free_ok X G (c.fact 45)
  have z_enumerate : mg "enumerate" = none := He.free_ok X G (c.fact 46)
  have z_range : mg "range" = none := He.free_ok X G (c.fact 47)
  have z_all : mg "all" = none := He.free_ok X G (c.fact 48)
  have z_set : mg "set" = none := He.free_ok X G (c.fact 49)
  have z_dict : mg "dict" = none := He.free_ok X G (c.fact 50)
  have z_sorted : mg "sorted" = none := He.free_ok X G (c.fact 51)
  have z_abs : mg "abs" = none := He.free_ok X G (c.fact 52)
  have z_ValueError : mg "ValueError" = none := He.free_ok X G (c.fact 53)
  obtain ⟨t_MOST_NUMBER, i_MOST_NUMBER⟩ := He.int_ok X G (c.fact 54)
  obtain ⟨t_MOST_SIZES, i_MOST_SIZES⟩ := He.int_ok X G (c.fact 55)
  obtain ⟨t_MOST_ROW, i_MOST_ROW⟩ := He.int_ok X G (c.fact 56)
  obtain ⟨t_MOST_INDEXES, i_MOST_INDEXES⟩ := He.int_ok X G (c.fact 57)
  obtain ⟨t_MOST_STAMP, i_MOST_STAMP⟩ := He.int_ok X G (c.fact 58)
  obtain ⟨t_MOST_READS, i_MOST_READS⟩ := He.int_ok X G (c.fact 59)
  obtain ⟨t_MOST_AROUND, i_MOST_AROUND⟩ := He.int_ok X G (c.fact 60)
  have T : Blt mg := ⟨z_isinstance, z_int, z_bool, z_str, z_tuple, z_list, z_len, z_enumerate, z_range, z_all⟩
  have N : NTxt K mg (ga K "Nest") (ma K (ga K "Nest") "__init__") := ⟨cls_ok (c.fact 63), noat_ok (c.fact 67), noat_ok (c.fact 68), noat_ok (c.fact 69), noat_ok (c.fact 70), noat_ok (c.fact 71), noat_ok (c.fact 72), noat_ok (c.fact 73), mkr_ok (c.fact 64), (He.glo_ok X G (c.fact 36))⟩
  have Y : STxt K mg (ga K "Statement") (ma K (ga K "Statement") "__init__") := ⟨cls_ok (c.fact 65), noat_ok (c.fact 74), noat_ok (c.fact 75), noat_ok (c.fact 76), noat_ok (c.fact 77), noat_ok (c.fact 78), noat_ok (c.fact 79), noat_ok (c.fact 80), noat_ok (c.fact 81), noat_ok (c.fact 82), mkr_ok (c.fact 66), (He.glo_ok X G (c.fact 37))⟩
  have E_BadNest : Err K mg "BadNest" (ga K "BadNest") := by
    obtain ⟨e1, e2, e3, e4⟩ := exc_ok (c.fact 83)
    exact ⟨(He.glo_ok X G (c.fact 33)), e1, e2, e3, e4, exm_ok (c.fact 85)⟩
  have E_NoPlace : Err K mg "NoPlace" (ga K "NoPlace") := by
    obtain ⟨e1, e2, e3, e4⟩ := exc_ok (c.fact 84)
    exact ⟨(He.glo_ok X G (c.fact 35)), e1, e2, e3, e4, exm_ok (c.fact 87)⟩
  have R : BadC K mg (ga K "BadNest") (ga K "LoopshedsError") := ⟨E_BadNest, excB_ok (c.ex 1 rfl), (He.glo_ok X G (c.fact 32)), of_decide_eq_true (c.ex 8 rfl), of_decide_eq_true (c.ex 11 rfl)⟩
  have M : NoC K mg (ga K "NoNode") (ga K "NoPlace") (ga K "LoopshedsError") := ⟨xfB_ok (c.ex 4 rfl), excB_ok (c.ex 2 rfl), excB_ok (c.ex 3 rfl), (He.glo_ok X G (c.fact 34)), (He.glo_ok X G (c.fact 35)), (He.glo_ok X G (c.fact 32)), eqO_ok (c.ex 5 rfl), of_decide_eq_true (c.ex 9 rfl), of_decide_eq_true (c.ex 10 rfl), exm_ok (c.fact 86), exm_ok (c.fact 87)⟩
  have U : NNTxt K mg (ga K "NoNode") (ma K (ga K "NoNode") "__init__") := ⟨oexB_ok (c.ex 0 rfl), eqO_ok (c.ex 5 rfl), eqO_ok (c.ex 6 rfl), of_decide_eq_true (c.ex 7 rfl), (He.glo_ok X G (c.fact 34))⟩
  have C : CstN K mg (ga K "RESERVED") := ⟨He.str_ok X G (c.fact 61), He.str_ok X G (c.fact 62), (He.glo_ok X G (c.fact 38)), fun H => by
    have := tupB_ok (c.ex 14 rfl) H
    rw [List.map_map] at this
    exact this⟩
  have p_arrays := propB_ok (c.ex 12 rfl)
  have p_labels := propB_ok (c.ex 13 rfl)
  have bl : ∀ (s : Shared) (u : Value), BindsTo s dF_law ⟨[u], []⟩ [("script", u)] := by
    obtain ⟨oc, od, kV, doc, pm, an, cdv, ct, osl, rfl, lk, hcd⟩ := F_law.ex
    exact fun s u => .of_eq rfl
  refine ⟨dF_law, bl, fun base KB GB TB => ?_⟩
  have TN := TB ("is_nest_name", none) (by decide)
  have TA := TB ("are_atoms", none) (by decide)
  have TH := TB ("check_heading", none) (by decide)
  have TT := TB ("_check_test", none) (by decide)
  have G_whole : FnOk P w K mg base CX0 1 _ _ ["thing"] (spWhole K) := ok_whole F_is_whole T
  have G_num : FnOk P w K mg base CX0 2 _ _ ["thing"] (spNestNumber K) := ok_nestnumber F_is_nest_number i_MOST_NUMBER G_whole F_is_whole.kp B_is_whole g_is_whole
  have G_row : FnOk P w K mg base CX0 1 _ _ ["thing", "least", "most"] (spIsRow K) := ok_isrow F_is_row T
  have G_side : FnOk P w K mg base CX0 1 _ _ ["thing", "scope"] (spIsSide K) := ok_isside F_is_side_of T
  have G_name : FnOk P w K mg base CX0 2 _ _ ["thing"] (spNestName K _) := ok_nestname (func_of F_is_nest_name) T z_all C TN
  have G_atom : FnOk P w K mg base CX0 3 _ _ ["thing", "scope"] (spIsAtom K) := ok_isatom F_is_atom_of G_row F_is_row.kp B_is_row g_is_row G_side F_is_side_of.kp B_is_side_of g_is_side_of G_num F_is_nest_number.kp B_is_nest_number g_is_nest_number
  have G_diff : FnOk P w K mg base CX0 3 _ _ ["thing", "scope"] (spIsDiff K) := ok_isdiff F_is_difference_of G_row F_is_row.kp B_is_row g_is_row G_side F_is_side_of.kp B_is_side_of g_is_side_of G_num F_is_nest_number.kp B_is_nest_number g_is_nest_number
  have G_atoms : FnOk P w K mg base CX0 5 _ _ ["thing", "scope", "most"] (spAreAtoms K _) := ok_areatoms (func_of F_are_atoms) T z_all TA G_row F_is_row.kp B_is_row g_is_row G_atom F_is_atom_of.kp B_is_atom_of g_is_atom_of
  have G_check : FnOk P w K mg base (L2.CX P w) 1 _ _ ["fits"] (spCheck (ga K "BadNest")) := ok_check F_check E_BadNest
  have G_differ : FnOk P w K mg base (L2.CX P w) 2 _ _ ["row"] (spDifferent K (ga K "BadNest")) := ok_different F_check_different T z_set G_check F_check.kp B_check g_check
  have G_head : FnOk P w K mg base (L2.CX P w) 7 _ _ ["sizes", "given", "rooms", "kept"] (spHead K (ga K "BadNest") _ _ _) := ok_head (func_of F_check_heading) T z_all z_dict TH i_MOST_SIZES i_MOST_ROW i_MOST_INDEXES G_check F_check.kp B_check g_check G_differ F_check_different.kp B_check_different g_check_different G_row F_is_row.kp B_is_row g_is_row G_name F_is_nest_name.kp B_is_nest_name g_is_nest_name G_diff F_is_difference_of.kp B_is_difference_of g_is_difference_of G_atoms F_are_atoms.kp B_are_atoms g_are_atoms
  have G_nums : FnOk P w K mg base (L2.CX P w) 2 _ _ ["facts"] (spNums K (ga K "BadNest")) := ok_nums F_numbers_of z_sorted G_check F_check.kp B_check g_check
  have G_run : FnOk P w K mg base (L2.CX P w) 6 _ _ ["node", "scope"] (spRun K (ga K "BadNest") _ _) := ok_run F_check_run T i_MOST_STAMP i_MOST_READS i_MOST_INDEXES G_check F_check.kp B_check g_check G_row F_is_row.kp B_is_row g_is_row G_name F_is_nest_name.kp B_is_nest_name g_is_nest_name G_atoms F_are_atoms.kp B_are_atoms g_are_atoms
  have G_body : FnOk P w K mg base (L2.CX P w) 89 _ _ ["body", "scope", "around"] (spBody K (ga K "BadNest") _ _ _ 41) := ok_body F_check_loop (func_of F_check_test) F_check_body T z_all TT i_MOST_ROW i_MOST_AROUND G_check F_check.kp B_check g_check G_differ F_check_different.kp B_check_different g_check_different G_row F_is_row.kp B_is_row g_is_row G_name F_is_nest_name.kp B_is_nest_name g_is_nest_name G_atoms F_are_atoms.kp B_are_atoms g_are_atoms G_diff F_is_difference_of.kp B_is_difference_of g_is_difference_of G_run F_check_run.kp B_check_run g_check_run
    F_check_loop.kp B_check_loop g_check_loop F_check_test.kp B_check_test g_check_test F_check_body.kp B_check_body g_check_body 41
  have G_runs : FnOk P w K mg base CX0 42 _ _ ["body", "path", "around"] (spRunsIn K 41) := ok_runsin F_runs_in z_enumerate B_runs_in g_runs_in 41
  have G_init : FnOk P w K mg base (L2.CX P w) 90 _ _ ["self", "sizes", "given", "rooms", "kept", "body"] (spNInit K (ga K "Nest") (ga K "BadNest") _ _ _ _) := ok_ninit 89 (by decide) I_Nest T z_dict z_list N G_head F_check_heading.kp B_check_heading g_check_heading G_body F_check_body.kp B_check_body g_check_body G_runs F_runs_in.kp B_runs_in g_runs_in G_nums F_numbers_of.kp B_numbers_of g_numbers_of
  have G_lab : FnOk P w K mg base CX0 1 _ _ ["self"] (spLabels K (ga K "Nest")) := ok_labels P_labels N z_list
  have G_arr : FnOk P w K mg base CX0 1 _ _ ["self"] (spArrays K (ga K "Nest")) := ok_arrays P_arrays N z_dict
  have G_place : FnOk P w K mg base (L2.CX P w) 2 _ _ ["place", "many"] (spPlace K (ga K "NoPlace")) := ok_place F_check_place E_NoPlace G_whole F_is_whole.kp B_is_whole g_is_whole
  have G_bounds : FnOk P w K mg base (L2.CX P w) 43 _ _ ["nest", "place"] (spBoundsX K (ga K "Nest") (ga K "NoPlace")) := ok_boundsX F_bounds T N G_runs F_runs_in.kp B_runs_in g_runs_in G_place F_check_place.kp B_check_place g_check_place
  have G_nn : FnOk P w K mg base CX0 1 _ _ ["self", "path"] (spNNInit K) := ok_nninit I_NoNode
  have G_node : FnOk P w K mg base (L2.CX P w) 3 _ _ ["nest", "path"] (spNodeAt K (ga K "Nest") (ga K "NoNode")) := ok_nodeat F_node_at T N U G_nn BI_NoNode G_whole F_is_whole.kp B_is_whole g_is_whole
  have G_sinit : FnOk P w K mg base CX0 1 _ _ ["self", "node", "path", "around"] (spSInit K (ga K "Statement")) := ok_sinit I_Statement T z_enumerate Y
  have G_sts : FnOk P w K mg base CX0 43 _ _ ["nest"] (spStatements K (ga K "Nest")) := ok_statements F_statements N Y G_runs F_runs_in.kp B_runs_in g_runs_in G_sinit BI_Statement
  have G_ln : FnOk P w K mg base CX0 1 _ _ ["script", "index"] (spLNumber K) := ok_lnumber F_law_number T z_abs
  have G_lt : FnOk P w K mg base CX0 2 _ _ ["draw", "many"] (spLTake K) := ok_ltake F_law_take T G_ln F_law_number.kp B_law_number g_law_number
  have G_lp : FnOk P w K mg base CX0 3 _ _ ["draw", "items"] (spLPick K) := ok_lpick F_law_pick T G_lt F_law_take.kp B_law_take g_law_take
  have G_ba : FnOk P w K mg base CX0 1 _ _ [] (spNew K badAtomsD) := ok_badatoms F_law_bad_atoms
  have G_bc : FnOk P w K mg base CX0 1 _ _ [] (spNew K badAccD) := ok_badacc F_law_bad_accesses
  have G_bn : FnOk P w K mg base CX0 2 _ _ [] (spNew K badNodesD) := ok_badnodes F_law_bad_nodes T z_list z_range G_ba F_law_bad_atoms.kp B_law_bad_atoms g_law_bad_atoms G_bc F_law_bad_accesses.kp B_law_bad_accesses g_law_bad_accesses
  have G_bh : FnOk P w K mg base CX0 4 _ _ ["draw", "body"] (spBadHeads K) := ok_badheads F_law_bad_heads T z_list z_range G_lp F_law_pick.kp B_law_pick g_law_pick
  have G_ref : FnOk P w K mg base CX0 92 _ _ ["sizes", "given", "rooms", "kept", "body"] (spRefused K _ _ _ _) := ok_lrefused 90 F_law_refused T z_ValueError N R G_init BI_Nest
  have G_deep : FnOk P w K mg base CX0 1 _ _ ["many"] (spDeep K) := ok_ldeep F_law_deep z_range
  have G_no : FnOk P w K mg base CX0 44 _ _ ["nest", "path", "place"] (spNowhere K (ga K "Nest")) := ok_lnowhere F_law_nowhere T M G_node F_node_at.kp B_node_at g_node_at G_bounds F_bounds.kp B_bounds g_bounds
  exact ok_law (fL := 0) (CP := 0) F_law T z_range z_list N G_init BI_Nest G_deep F_law_deep.kp B_law_deep g_law_deep G_lp F_law_pick.kp B_law_pick g_law_pick G_bn F_law_bad_nodes.kp B_law_bad_nodes g_law_bad_nodes G_ref F_law_refused.kp B_law_refused g_law_refused G_bh F_law_bad_heads.kp B_law_bad_heads g_law_bad_heads p_arrays G_arr BP_arrays p_labels G_lab BP_labels G_sts F_statements.kp B_statements g_statements G_no F_law_nowhere.kp B_law_nowhere g_law_nowhere G_node F_node_at.kp B_node_at g_node_at
end Kd
set_option maxHeartbeats 0
/-! the head's run -/
namespace Kd
open PySem PySem.W PySem.Calls PyProof.Rows
abbrev R_ : OpenRow := OpenLaw.row PySem.Challenge.rw_loopsheds_k43_refused_nests
abbrev qv_ : Program := view R_.prog [68]
def names0 : List PySem.Str := ["_wall", "LoopshedsError", "BadNest", "NoNode", "NoPlace", "is_whole", "LETTERS", "SIGNS", "RESERVED", "MOST_NUMBER", "MOST_AROUND", "MOST_ROW", "MOST_STAMP", "MOST_READS", "MOST_INDEXES", "MOST_SIZES"]
def names1 : List PySem.Str := ["is_nest_name", "is_nest_number", "is_row", "is_atom_of", "is_difference_of", "_is_side_of", "are_atoms", "check", "check_different", "check_heading", "numbers_of", "check_body", "_check_loop", "_check_test", "_check_run", "Nest"]
def names2 : List PySem.Str := ["Statement", "statements", "_runs_in", "bounds", "check_place", "sizes_system", "bounds_of", "node_at", "_law_number", "_law_take", "_law_pick", "_law_atom", "_law_access", "_law_run", "_law_loop", "_law_test"]
def names3 : List PySem.Str := ["_law_body", "_law_worth", "_law_cell", "_law_holds", "_law_many", "_law_rounds", "_law_runs", "_law_refused", "_law_bad_atoms", "_law_bad_accesses", "_law_bad_nodes", "_law_deep", "_law_bad_heads", "_law_nowhere"]
def namesL : List PySem.Str := names0 ++ (names1 ++ (names2 ++ (names3)))
def obY (s : SharedT) : AlY := obsY 5 (HandSHeadRun.getT s)
theorem obY_eq (s : SharedT) : obY s = (hookY 5).obs s.abs := obsY_eq (HandSHeadRun.getT_eq s)
theorem run_ (w : World) : HandSHeadRun.RunEq R_ qv_ (hookY 5) obY 20000 namesL w := by
  intro os
  kernel_rfl
end Kd
set_option maxHeartbeats 0
open PySem PySem.W PySem.Calls PyProof.Rows
theorem PySem.Challenge.cw_loopsheds_k43_refused_nests_holds : PySem.Challenge.rw_loopsheds_k43_refused_nests.Holds := by
  w_on; o_law
  refine HandSHeadRun.head_any (r := OpenLaw.row PySem.Challenge.rw_loopsheds_k43_refused_nests) (q := Kd.qv_) (H := Kd.hookY 5) (ob := Kd.obY) (M := 20000) (loose := Kd.namesL) (d := HandSHeadRun.topDef (OpenLaw.row PySem.Challenge.rw_loopsheds_k43_refused_nests).prog 68) (kwd := []) Kd.obY_eq
    (by kernel_rfl) (fun s => by kernel_rfl) Kd.run_ (by kernel_rfl) (by kernel_rfl) (by kernel_rfl) (by rfl) (by first | assumption | decide +kernel) (by decide +kernel) ⟨rfl, rfl, rfl, rfl, rfl, by decide +kernel⟩ ?hw ?hc
  case hw => w_witness2
  case hc =>
    refine LamX.walk_ofTsE (l := PySem.Challenge.rw_loopsheds_k43_refused_nests) (n := 63) (k := 93) (x := "script") (CX := fun _ => L2.CX0) rfl (by decide) (by kernel_rfl) ⟨rfl, by decide, by decide⟩ ?F (fun _ _ _ _ _ z => z)
    intro w mg fa h Y G hmg0
    obtain ⟨K, KX, c⟩ := Y
    have hmg : mg ("law" : PySem.Str) = some (.ref fa) := by
      have e : (HandSHeadRun.topDef (OpenLaw.row PySem.Challenge.rw_loopsheds_k43_refused_nests).prog 68).name = ("law" : PySem.Str) := by kernel_rfl
      rw [← e]
      exact hmg0
    obtain ⟨fd, hb, hF⟩ := Kd.told_law (P := (PySem.Challenge.rw_loopsheds_k43_refused_nests).prog) (w := w) KX G hmg c
    have tab : ∀ (H : L2.Hp), (∀ p ∈ Kd.tfL.map (He.cT K), H p.2 = some (.tbl #[])) → ∀ q ∈ Kd.tfL, GxR.TabG H (He.cT K q).2 := fun H hH q hq => ⟨#[], hH _ (List.mem_map.mpr ⟨q, hq, rfl⟩), trivial⟩
    refine ⟨K, KX, fd, Kd.tfL.map (He.cT K), _, fun p hp => ?_, fun p hp => ?_, fun p hp => ?_, hb, fun H a ns hl _ hH hS => ?_, fun base KB GB TB => hF base KB GB fun p hp => ?_⟩
    · obtain ⟨q, hq, rfl⟩ := List.mem_map.mp hp
      exact c.x.empty q hq
    · obtain ⟨q, hq, rfl⟩ := List.mem_map.mp hp
      exact c.x.out q hq
    · obtain ⟨q, hq, rfl⟩ := List.mem_map.mp hp
      exact codeHd_of_K KX (c.x.hd q hq)
    · exact ⟨a, rfl, ⟨ns, hS, hl⟩, ⟨tab H hH _ (by decide), tab H hH _ (by decide), tab H hH _ (by decide), tab H hH _ (by decide)⟩, fun _ => rfl⟩
    · have z := TB (He.cT K p) (List.mem_map.mpr ⟨p, hp, rfl⟩)
      exact ⟨z.code, z.bm, z.gP⟩
