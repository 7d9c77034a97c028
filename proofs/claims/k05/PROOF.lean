import PyProof.Rows.All
import Wide.All
import OpenK.AllK
import Wide.FinOn
import HandS.ForMost
import HandS.Walk
import HandS.IsInst
import HandS.More
import HandS.NoneIn
import HandS.SetKeys
import HandS.DictComp
import HandS.TupAny
import HandS.Wide
import HandS.Set
import HandS.SetFor
import HandS.Strs
import PyProof.Rows.SetFrom
import PyProof.Rows.SortStr
import KE.KEqSeq
import HandS.ForExc
import HandS.Codes
import HandS.Star
import KE.KDictList
import HandS.Style
import HandS.HotCalls
import HandS.Iter
import HandS.List
import HandS.Words
import HandS.WordsList
import HandS.WordsExc
import HandS.ExcCtx
import PySem.Challenge.RW_loopsheds_k05_fewest
set_option Elab.async false
set_option linter.all false
set_option maxRecDepth 100000
/-! Systems of differences: rings, solutions, the graph of last causes, and why lowering comes to an end. Plain Lean. -/
namespace Lo
section
variable {α : Type} [DecidableEq α]

abbrev Row (α : Type) := α × α × Int
def Sat (rows : List (Row α)) (v : α → Int) : Prop := ∀ r ∈ rows, v r.1 - v r.2.1 ≤ r.2.2
def put {β : Type} (f : α → β) (a : α) (b : β) : α → β := fun x => if x = a then b else f x
theorem put_at {β : Type} (f : α → β) (a : α) (b : β) : put f a b a = b := if_pos rfl
theorem put_off {β : Type} {f : α → β} {a x : α} {b : β} (h : x ≠ a) : put f a b x = f x := if_neg h

/-- the ring of rows es: each right is the next left, no left twice, a negative sum -/
structure IsRing (es : List (Row α)) : Prop where
  two : 2 ≤ es.length
  nd : (es.map (·.1)).Nodup
  turn : es.map (·.2.1) = (es.map (·.1)).drop 1 ++ (es.map (·.1)).take 1
  neg : (es.map (·.2.2)).sum < 0
/-- found are the places of a ring -/
def RingOk (rows : List (Row α)) (found : List Nat) : Prop :=
  ∃ es : List (Row α), found.map (fun i => rows[i]?) = es.map some ∧ IsRing es

theorem sum_map_sub {β : Type} (f g : β → Int) : ∀ l : List β, (l.map fun x => f x - g x).sum = (l.map f).sum - (l.map g).sum
  | [] => rfl
  | x :: l => by
    have ih := sum_map_sub f g l
    simp only [List.map_cons, List.sum_cons]
    omega
theorem sum_le {β : Type} (f g : β → Int) : ∀ l : List β, (∀ x ∈ l, f x ≤ g x) → (l.map f).sum ≤ (l.map g).sum
  | [], _ => Int.le_refl _
  | x :: l, h => by
    have ih := sum_le f g l fun y hy => h y (List.mem_cons_of_mem _ hy)
    have h0 := h x List.mem_cons_self
    simp only [List.map_cons, List.sum_cons]
    omega
theorem sum_lt {β : Type} (f g : β → Int) : ∀ (l : List β) (a : β), a ∈ l → (∀ x ∈ l, f x ≤ g x) → f a < g a → (l.map f).sum < (l.map g).sum
  | [], _, h, _, _ => absurd h List.not_mem_nil
  | x :: l, a, ha, h, hl => by
    have h0 := h x List.mem_cons_self
    have ht : ∀ y ∈ l, f y ≤ g y := fun y hy => h y (List.mem_cons_of_mem _ hy)
    simp only [List.map_cons, List.sum_cons]
    rcases List.mem_cons.mp ha with e | e
    · subst e
      have := sum_le f g l ht
      omega
    · have := sum_lt f g l a e ht hl
      omega
theorem sum_turn {β : Type} (f : β → Int) (l : List β) : ((l.drop 1 ++ l.take 1).map f).sum = (l.map f).sum := by
  cases l with
  | nil => rfl
  | cons x l =>
    simp only [List.drop_succ_cons, List.drop_zero, List.take_succ_cons, List.take_zero, List.map_append, List.sum_append, List.map_cons, List.map_nil, List.sum_cons, List.sum_nil]
    omega
theorem ring_not_sat {rows es : List (Row α)} (h : ∀ e ∈ es, e ∈ rows) (R : IsRing es) (v : α → Int) : ¬ Sat rows v := fun s => by
  have h1 : (es.map fun e => v e.1 - v e.2.1).sum ≤ (es.map (·.2.2)).sum := sum_le _ _ es fun e he => s e (h e he)
  rw [sum_map_sub (fun e : Row α => v e.1) (fun e : Row α => v e.2.1)] at h1
  have h2 : (es.map fun e : Row α => v e.2.1).sum = (es.map fun e : Row α => v e.1).sum := by
    have e1 : (es.map fun e : Row α => v e.2.1) = (es.map (·.2.1)).map v := by rw [List.map_map]; rfl
    have e2 : (es.map fun e : Row α => v e.1) = (es.map (·.1)).map v := by rw [List.map_map]; rfl
    rw [e1, e2, R.turn, sum_turn]
  have := R.neg
  omega
theorem ringOk_not_sat {rows : List (Row α)} {found : List Nat} (h : RingOk rows found) (v : α → Int) : ¬ Sat rows v := by
  obtain ⟨es, e, R⟩ := h
  refine ring_not_sat (fun x hx => ?_) R v
  have h1 : some x ∈ es.map some := List.mem_map_of_mem hx
  rw [← e] at h1
  obtain ⟨i, _, hi⟩ := List.mem_map.mp h1
  exact List.mem_of_getElem? hi

/-- pigeons -/
theorem nodup_le : ∀ (l m : List α), l.Nodup → (∀ x ∈ l, x ∈ m) → l.length ≤ m.length
  | [], _, _, _ => Nat.zero_le _
  | x :: l, m, hd, hs => by
    obtain ⟨h1, h2⟩ := List.nodup_cons.mp hd
    have hx := hs x List.mem_cons_self
    have hl : ∀ y ∈ l, y ∈ m.erase x := fun y hy => by
      have ne : y ≠ x := fun e => h1 (e ▸ hy)
      exact (List.mem_erase_of_ne ne).mpr (hs y (List.mem_cons_of_mem _ hy))
    have ih := nodup_le l (m.erase x) h2 hl
    have z := List.length_erase_of_mem hx
    have p := List.length_pos_of_mem hx
    simp only [List.length_cons]
    omega

/-! ### walks in the graph of the causes -/
abbrev Gr (α : Type) := α → Option (α × Int)
inductive Ch (g : Gr α) : α → List α → α → Int → Prop
  | nil (x : α) : Ch g x [] x 0
  | cons {x y z : α} {c s : Int} {l : List α} : g x = some (y, c) → Ch g y l z s → Ch g x (x :: l) z (c + s)
variable {g : Gr α}
theorem Ch.snoc {x y z : α} {l : List α} {c s : Int} (h : Ch g x l y s) (e : g y = some (z, c)) : Ch g x (l ++ [y]) z (s + c) := by
  induction h with
  | nil x =>
    have q := Ch.cons e (Ch.nil z)
    have z : c + 0 = 0 + c := by omega
    rw [z] at q
    exact q
  | @cons x y z' c' s' l e' _ ih =>
    have q := Ch.cons e' (ih e)
    have z : c' + (s' + c) = c' + s' + c := by omega
    rw [z] at q
    exact q
theorem Ch.from_mem {x y a : α} {l : List α} {s : Int} (h : Ch g x l y s) (ha : a ∈ l) : ∃ p q t, l = p ++ a :: q ∧ Ch g a (a :: q) y t := by
  induction h with
  | nil x => exact absurd ha List.not_mem_nil
  | @cons x y z c s l e h ih =>
    by_cases k : a = x
    · subst k
      exact ⟨[], l, _, rfl, Ch.cons e h⟩
    · have hm : a ∈ l := by
        rcases List.mem_cons.mp ha with q | q
        · exact absurd q k
        · exact q
      obtain ⟨p, q, t, e2, h2⟩ := ih hm
      exact ⟨x :: p, q, t, by rw [e2]; rfl, h2⟩
/-- the walk up to the first stop is told by its start -/
theorem Ch.det {S : α → Prop} {x y y' : α} {l l' : List α} {s s' : Int} (h : Ch g x l y s) (h' : Ch g x l' y' s') (hy : S y) (hy' : S y') (hl : ∀ a ∈ l, ¬ S a) (hl' : ∀ a ∈ l', ¬ S a) : l = l' := by
  induction h generalizing l' s' with
  | nil x =>
    cases h' with
    | nil => rfl
    | cons e h2 => exact absurd hy (hl' _ List.mem_cons_self)
  | @cons x y0 z c s l e h ih =>
    cases h' with
    | nil => exact absurd hy' (hl _ List.mem_cons_self)
    | @cons _ y1 _ c1 s1 l1 e1 h1 =>
      rw [e] at e1
      have q := Option.some.inj e1
      have q1 : y0 = y1 := congrArg Prod.fst q
      subst q1
      have := ih h1 hy (fun a ha => hl a (List.mem_cons_of_mem _ ha)) (fun a ha => hl' a (List.mem_cons_of_mem _ ha))
      rw [this]
theorem Ch.nodup {S : α → Prop} {x y : α} {l : List α} {s : Int} (h : Ch g x l y s) (hy : S y) (hl : ∀ a ∈ l, ¬ S a) : l.Nodup := by
  induction h with
  | nil x => exact List.nodup_nil
  | @cons x y0 z c s l e h ih =>
    have ht : ∀ a ∈ l, ¬ S a := fun a ha => hl a (List.mem_cons_of_mem _ ha)
    refine List.nodup_cons.mpr ⟨fun hm => ?_, ih hy ht⟩
    obtain ⟨p, q, t, e2, h2⟩ := h.from_mem hm
    have hq : ∀ a ∈ x :: q, ¬ S a := fun a ha => ht a (by rw [e2]; exact List.mem_append_right _ ha)
    have z := (Ch.cons e h).det h2 hy hy hl hq
    have z2 := congrArg List.length z
    rw [e2] at z2
    simp only [List.length_cons, List.length_append] at z2
    omega
theorem Ch.le {val : α → Int} (hw : ∀ x y c, g x = some (y, c) → val y + c ≤ val x) {x y : α} {l : List α} {s : Int} (h : Ch g x l y s) : s ≤ val x - val y := by
  induction h with
  | nil x => omega
  | cons e h ih =>
    have := hw _ _ _ e
    omega
theorem Ch.low {M : Int} (hM : ∀ x y c, g x = some (y, c) → -M ≤ c) {x y : α} {l : List α} {s : Int} (h : Ch g x l y s) : -(M * (l.length : Int)) ≤ s := by
  induction h with
  | nil x => simp
  | @cons x y0 z c s l e h ih =>
    have := hM _ _ _ e
    simp only [List.length_cons]
    have e1 : M * ((l.length + 1 : Nat) : Int) = M * (l.length : Int) + M := by
      rw [Int.natCast_add, Int.mul_add]; omega
    rw [e1]
    omega

/-- what holds between the values and the causes -/
structure Low (rows : List (Row α)) (val : α → Int) (g : Gr α) : Prop where
  edge : ∀ x y c, g x = some (y, c) → (x, y, c) ∈ rows ∧ val y + c ≤ val x
  root : ∀ x, g x = none → val x = 0
  neg : ∀ x l s, l ≠ [] → Ch g x l x s → s < 0
theorem Low.start (rows : List (Row α)) : Low rows (fun _ => 0) (fun _ => none) := by
  refine ⟨(fun x y c e => nomatch e), fun _ _ => rfl, fun x l s hl h => ?_⟩
  cases h with
  | nil => exact absurd rfl hl
  | cons e _ => cases e
theorem Low.step {rows : List (Row α)} {val : α → Int} {x0 y0 : α} {c0 : Int} (L : Low rows val g) (hr : (x0, y0, c0) ∈ rows) (hne : x0 ≠ y0) (hlt : val y0 + c0 < val x0) :
    Low rows (put val x0 (val y0 + c0)) (put g x0 (some (y0, c0))) := by
  have weak : ∀ x y c, put g x0 (some (y0, c0)) x = some (y, c) → val y + c ≤ val x := fun x y c e => by
    by_cases k : x = x0
    · subst k
      rw [put_at] at e
      injection e with e
      injection e with e1 e2
      subst e1 e2
      omega
    · rw [put_off k] at e
      exact (L.edge x y c e).2
  have split : ∀ (x z : α) (l : List α) (s : Int), Ch (put g x0 (some (y0, c0))) x l z s → Ch g x l z s ∨ s < val x - val z := fun x z l s h => by
    induction h with
    | nil x => exact .inl (Ch.nil x)
    | @cons x y z c s l e h ih =>
      have hs : s ≤ val y - val z := h.le weak
      by_cases k : x = x0
      · subst k
        rw [put_at] at e
        injection e with e
        injection e with e1 e2
        subst e1 e2
        exact .inr (by omega)
      · rw [put_off k] at e
        have he := (L.edge x y c e).2
        rcases ih with i | i
        · exact .inl (Ch.cons e i)
        · exact .inr (by omega)
  refine ⟨fun x y c e => ?_, fun x e => ?_, fun x l s hl h => ?_⟩
  · by_cases k : x = x0
    · subst k
      rw [put_at] at e
      injection e with e
      injection e with e1 e2
      subst e1 e2
      refine ⟨hr, ?_⟩
      rw [put_at, put_off hne.symm]
      omega
    · rw [put_off k] at e
      have he := L.edge x y c e
      refine ⟨he.1, ?_⟩
      rw [put_off k]
      by_cases j : y = x0
      · subst j
        rw [put_at]
        omega
      · rw [put_off j]
        exact he.2
  · by_cases k : x = x0
    · subst k
      rw [put_at] at e
      cases e
    · rw [put_off k] at e ⊢
      exact L.root x e
  · rcases split x x l s h with i | i
    · exact L.neg x l s hl i
    · omega

/-- from x a name without a cause is reached -/
def Ends (g : Gr α) (x : α) : Prop := ∃ l y s, Ch g x l y s ∧ g y = none
theorem ends_none {x : α} (h : g x = none) : Ends g x := ⟨[], x, 0, Ch.nil x, h⟩
theorem ends_next {x y : α} {c : Int} (e : g x = some (y, c)) (h : Ends g y) : Ends g x := by
  obtain ⟨l, z, s, h1, h2⟩ := h
  exact ⟨_, z, _, Ch.cons e h1, h2⟩
theorem Ch.mem_some {x y : α} {l : List α} {s : Int} (h : Ch g x l y s) : ∀ a ∈ l, g a ≠ none := by
  induction h with
  | nil x => exact fun a ha => absurd ha List.not_mem_nil
  | @cons x y z c s l e h ih =>
    intro a ha
    rcases List.mem_cons.mp ha with q | q
    · rw [q, e]; exact fun z => nomatch z
    · exact ih a q
/-- how low a value can be -/
theorem Low.floor {rows : List (Row α)} {val : α → Int} (L : Low rows val g) (hE : ∀ x, Ends g x) {M : Int} (hM0 : 0 ≤ M) (hM : ∀ r ∈ rows, -M ≤ r.2.2) (x : α) : -(M * (rows.length : Int)) ≤ val x := by
  obtain ⟨l, y, s, h, hy⟩ := hE x
  have hd : l.Nodup := h.nodup (S := fun a => g a = none) hy h.mem_some
  have hl : l.length ≤ (rows.map (·.1)).length := nodup_le l _ hd fun a ha => by
    have k := h.mem_some a ha
    cases e : g a with
    | none => exact absurd e k
    | some p => exact List.mem_map.mpr ⟨_, (L.edge a p.1 p.2 e).1, rfl⟩
  rw [List.length_map] at hl
  have h1 := h.le fun x y c e => (L.edge x y c e).2
  have h2 := h.low (M := M) fun x y c e => hM _ (L.edge x y c e).1
  have h3 := L.root y hy
  have h4 : M * (l.length : Int) ≤ M * (rows.length : Int) := Int.mul_le_mul_of_nonneg_left (by omega) hM0
  omega
end
end Lo
/-! The graph that a table of causes makes, the ring that is read off it, the passes and their measure; least sums of chains. -/
namespace Lo
section
variable {α : Type} [DecidableEq α]
theorem nd_one (x : α) : [x].Nodup := List.nodup_cons.mpr ⟨List.not_mem_nil, List.nodup_nil⟩
theorem Ch.append {g : Gr α} {x y z : α} {l l' : List α} {s s' : Int} (h : Ch g x l y s) (h' : Ch g y l' z s') : Ch g x (l ++ l') z (s + s') := by
  induction h with
  | nil x =>
    have e : (0 : Int) + s' = s' := by omega
    rw [e]
    exact h'
  | @cons x y c0 c s l e _ ih =>
    have q := Ch.cons e (ih h')
    have e2 : c + (s + s') = c + s + s' := by omega
    rw [e2] at q
    exact q
theorem ends_of {g : Gr α} {x y : α} {l : List α} {s : Int} (h : Ch g x l y s) (hy : Ends g y) : Ends g x := by
  obtain ⟨l2, z, s2, h2, hz⟩ := hy
  exact ⟨_, z, _, h.append h2, hz⟩

/-- names cs have causes: the places cz of rows -/
def gOf (rows : List (Row α)) (cs : List α) (cz : α → Nat) : Gr α := fun x => if x ∈ cs then (rows[cz x]?).map fun r => r.2 else none
/-- each cause of a name is a row that begins with it -/
def Lk (rows : List (Row α)) (cs : List α) (cz : α → Nat) : Prop := ∀ x ∈ cs, ∃ y c, rows[cz x]? = some (x, y, c)
variable {rows : List (Row α)} {cs : List α} {cz : α → Nat}
theorem gOf_out {x : α} (h : x ∉ cs) : gOf rows cs cz x = none := if_neg h
theorem gOf_in {x y : α} {c : Int} (h : x ∈ cs) (e : rows[cz x]? = some (x, y, c)) : gOf rows cs cz x = some (y, c) := by
  unfold gOf
  rw [if_pos h, e]
  rfl
theorem gOf_some (k : Lk rows cs cz) {x y : α} {c : Int} (h : gOf rows cs cz x = some (y, c)) : x ∈ cs ∧ rows[cz x]? = some (x, y, c) := by
  by_cases m : x ∈ cs
  · obtain ⟨y', c', e⟩ := k x m
    rw [gOf_in m e] at h
    injection h with h
    injection h with h1 h2
    subst h1 h2
    exact ⟨m, e⟩
  · rw [gOf_out m] at h
    cases h
theorem gOf_none (k : Lk rows cs cz) {x : α} (h : gOf rows cs cz x = none) : x ∉ cs := fun m => by
  obtain ⟨y, c, e⟩ := k x m
  rw [gOf_in m e] at h
  cases h
/-- a list with one more, unless it is there -/
def addN (l : List α) (x : α) : List α := if x ∈ l then l else l ++ [x]
theorem mem_addN {l : List α} {x y : α} : y ∈ addN l x ↔ y ∈ l ∨ y = x := by
  unfold addN
  split
  · rename_i h
    exact ⟨Or.inl, fun z => z.elim id fun e => e ▸ h⟩
  · rw [List.mem_append, List.mem_singleton]
theorem nodup_addN {l : List α} {x : α} (h : l.Nodup) : (addN l x).Nodup := by
  unfold addN
  split
  · exact h
  · rename_i n
    refine List.nodup_append.mpr ⟨h, nd_one x, fun a ha b hb => ?_⟩
    rw [List.mem_singleton] at hb
    subst hb
    exact fun e => n (e ▸ ha)
theorem length_addN {l : List α} {x : α} : (addN l x).length ≤ l.length + 1 := by
  unfold addN
  split <;> simp
theorem lk_put (k : Lk rows cs cz) {x y : α} {c : Int} {i : Nat} (e : rows[i]? = some (x, y, c)) : Lk rows (addN cs x) (put cz x i) := fun z hz => by
  by_cases j : z = x
  · subst j
    exact ⟨y, c, by rw [put_at]; exact e⟩
  · rw [put_off j]
    exact k z ((mem_addN.mp hz).resolve_right j)
theorem gOf_put {x y : α} {c : Int} {i : Nat} (e : rows[i]? = some (x, y, c)) : gOf rows (addN cs x) (put cz x i) = put (gOf rows cs cz) x (some (y, c)) := by
  funext z
  by_cases j : z = x
  · subst j
    rw [put_at]
    refine gOf_in (mem_addN.mpr (.inr rfl)) ?_
    rw [put_at]
    exact e
  · rw [put_off j]
    unfold gOf
    have m : z ∈ addN cs x ↔ z ∈ cs := by
      rw [mem_addN]
      exact ⟨fun h => h.resolve_right j, .inl⟩
    rw [put_off j]
    by_cases h : z ∈ cs
    · rw [if_pos h, if_pos (m.mpr h)]
    · rw [if_neg h, if_neg fun q => h (m.mp q)]

/-! ### the ring -/
theorem Ch.rights (k : Lk rows cs cz) {x y : α} {l : List α} {s : Int} (h : Ch (gOf rows cs cz) x l y s) :
    ∃ es : List (Row α), l.map (fun a => rows[cz a]?) = es.map some ∧ es.map (·.1) = l ∧ x :: es.map (·.2.1) = l ++ [y] ∧ (es.map (·.2.2)).sum = s := by
  induction h with
  | nil x => exact ⟨[], rfl, rfl, rfl, rfl⟩
  | @cons x y z c s l e h ih =>
    obtain ⟨es, h1, h2, h3, h4⟩ := ih
    obtain ⟨_, e2⟩ := gOf_some k e
    refine ⟨(x, y, c) :: es, ?_, ?_, ?_, ?_⟩
    · rw [List.map_cons, e2, h1]
      rfl
    · rw [List.map_cons, h2]
    · show x :: y :: es.map (·.2.1) = x :: (l ++ [z])
      rw [h3]
    · rw [List.map_cons, List.sum_cons, h4]
theorem ring_read (k : Lk rows cs cz) {val : α → Int} (L : Low rows val (gOf rows cs cz)) (hne : ∀ r ∈ rows, r.1 ≠ r.2.1) {start : α} {l : List α} {s : Int} (h : Ch (gOf rows cs cz) start (start :: l) start s)
    (hl : ∀ a ∈ l, a ≠ start) : RingOk rows ((start :: l).map cz) := by
  obtain ⟨es, h1, h2, h3, h4⟩ := h.rights k
  have hs : s < 0 := L.neg start _ s (List.cons_ne_nil _ _) h
  refine ⟨es, ?_, ?_⟩
  · rw [← h1, List.map_map]
    rfl
  · cases h with
    | @cons _ y _ c s' _ e h' =>
      have nd : l.Nodup := h'.nodup (S := fun a => a = start) rfl hl
      refine ⟨?_, ?_, ?_, by rw [h4]; exact hs⟩
      · have hlen : es.length = l.length + 1 := by
          have := congrArg List.length h2
          rw [List.length_map] at this
          exact this
        rw [hlen]
        cases l with
        | cons _ _ => simp
        | nil =>
          cases h' with
          | nil => exact absurd rfl (hne _ (L.edge _ _ _ e).1)
      · rw [h2]
        exact List.nodup_cons.mpr ⟨fun m => hl _ m rfl, nd⟩
      · rw [h2]
        have h5 : es.map (·.2.1) = l ++ [start] := (List.cons.inj h3).2
        rw [h5]
        rfl

/-! ### a pass, and the measure -/
def span (rows : List (Row α)) : Int := ((rows.map fun r => r.2.2.natAbs).sum : Nat)
theorem span_le {rows : List (Row α)} {r : Row α} (h : r ∈ rows) : -span rows ≤ r.2.2 ∧ r.2.2 ≤ span rows := by
  have : r.2.2.natAbs ≤ (rows.map fun r => r.2.2.natAbs).sum := by
    induction rows with
    | nil => exact absurd h List.not_mem_nil
    | cons a t ih =>
      rw [List.map_cons, List.sum_cons]
      rcases List.mem_cons.mp h with e | e
      · subst e
        omega
      · have := ih e
        omega
  unfold span
  omega
theorem span_nonneg (rows : List (Row α)) : 0 ≤ span rows := Int.natCast_nonneg _
/-- how far the values are above what is the least for them -/
def pot (rows : List (Row α)) (ks : List α) (val : α → Int) : Int := (ks.map fun x => val x + span rows * (rows.length : Int)).sum
theorem sum_nonneg {β : Type} (f : β → Int) : ∀ l : List β, (∀ x ∈ l, 0 ≤ f x) → 0 ≤ (l.map f).sum
  | [], _ => Int.le_refl _
  | x :: l, h => by
    have := sum_nonneg f l fun y hy => h y (List.mem_cons_of_mem _ hy)
    have := h x List.mem_cons_self
    rw [List.map_cons, List.sum_cons]
    omega
theorem pot_nonneg {val : α → Int} {g : Gr α} (ks : List α) (L : Low rows val g) (hE : ∀ x, Ends g x) : 0 ≤ pot rows ks val := by
  refine sum_nonneg _ ks fun x _ => ?_
  have := L.floor hE (span_nonneg rows) (fun r hr => (span_le hr).1) x
  omega
theorem pot_put {val : α → Int} {ks : List α} {x : α} {w : Int} (hx : x ∈ ks) (h : w < val x) : pot rows ks (put val x w) < pot rows ks val := by
  refine sum_lt _ _ ks x hx (fun y _ => ?_) ?_
  · by_cases j : y = x
    · subst j
      rw [put_at]
      omega
    · rw [put_off j]
      exact Int.le_refl _
  · rw [put_at]
    omega

/-! ### the places of a turn -/
/-- the rounds of `_turn` at the beginning of turn i: what was met in earlier rounds ends -/
structure Met (g : Gr α) (cs rs : List α) (rn : α → Nat) (i : Nat) : Prop where
  nd : rs.Nodup
  sub : ∀ x ∈ rs, x ∈ cs
  ends : ∀ x ∈ rs, Ends g x ∧ rn x < i
  past : ∀ j x, j < i → cs[j]? = some x → Ends g x
theorem Met.start (g : Gr α) (cs : List α) (rn : α → Nat) : Met g cs [] rn 0 :=
  ⟨List.nodup_nil, fun x h => absurd h List.not_mem_nil, fun x h => absurd h List.not_mem_nil, fun j x h => absurd h (Nat.not_lt_zero _)⟩
/-- within turn i: rs the names met before, t those of this turn -/
structure MetIn (g : Gr α) (cs rs : List α) (rn : α → Nat) (i : Nat) (start : α) (t : List α) (name : α) : Prop where
  nd : (rs ++ t).Nodup
  sub : ∀ x ∈ rs ++ t, x ∈ cs
  ends : ∀ x ∈ rs, Ends g x ∧ rn x < i
  now : ∀ x ∈ t, rn x = i ∧ ∃ l s, l ≠ [] ∧ Ch g x l name s
  from_ : ∃ l s, Ch g start l name s
theorem MetIn.start {g : Gr α} {cs rs : List α} {rn : α → Nat} {i : Nat} (M : Met g cs rs rn i) (start : α) : MetIn g cs rs rn i start [] start := by
  refine ⟨by rw [List.append_nil]; exact M.nd, by rw [List.append_nil]; exact M.sub, M.ends, fun x h => absurd h List.not_mem_nil, [], 0, Ch.nil _⟩
theorem MetIn.step {g : Gr α} {cs rs : List α} {rn : α → Nat} {i : Nat} {start name y : α} {c : Int} {t : List α} (M : MetIn g cs rs rn i start t name) (hc : name ∈ cs) (hn : name ∉ rs ++ t) (e : g name = some (y, c)) :
    MetIn g cs rs (put rn name i) i start (t ++ [name]) y := by
  have one : Ch g name [name] y (c + 0) := Ch.cons e (Ch.nil y)
  refine ⟨?_, fun x hx => ?_, fun x hx => ?_, fun x hx => ?_, ?_⟩
  · rw [← List.append_assoc]
    refine List.nodup_append.mpr ⟨M.nd, nd_one _, fun a ha b hb => ?_⟩
    rw [List.mem_singleton] at hb
    subst hb
    exact fun q => hn (q ▸ ha)
  · rw [← List.append_assoc] at hx
    rcases List.mem_append.mp hx with q | q
    · exact M.sub x q
    · rw [List.mem_singleton] at q
      exact q ▸ hc
  · have ne : x ≠ name := fun q => hn (List.mem_append_left _ (q ▸ hx))
    rw [put_off ne]
    exact M.ends x hx
  · rcases List.mem_append.mp hx with q | q
    · have ne : x ≠ name := fun z => hn (List.mem_append_right _ (z ▸ q))
      obtain ⟨h1, l, s, h2, h3⟩ := M.now x q
      refine ⟨by rw [put_off ne]; exact h1, l ++ [name], _, fun z => ?_, h3.append one⟩
      exact List.cons_ne_nil _ _ (List.append_eq_nil_iff.mp z).2
    · rw [List.mem_singleton] at q
      subst q
      exact ⟨put_at _ _ _, _, _, List.cons_ne_nil _ _, one⟩
  · obtain ⟨l, s, h⟩ := M.from_
    exact ⟨_, _, h.append one⟩
/-- where the walk of turn i comes to something that ends, all of it ends -/
theorem MetIn.close {g : Gr α} {cs rs : List α} {rn : α → Nat} {i : Nat} {start name : α} {t : List α} (M : MetIn g cs rs rn i start t name) (hs : cs[i]? = some start) (h : Ends g name)
    (past : ∀ j x, j < i → cs[j]? = some x → Ends g x) : Met g cs (rs ++ t) rn (i + 1) := by
  refine ⟨M.nd, M.sub, fun x hx => ?_, fun j x hj hx => ?_⟩
  · rcases List.mem_append.mp hx with q | q
    · obtain ⟨h1, h2⟩ := M.ends x q
      exact ⟨h1, by omega⟩
    · obtain ⟨h1, l, s, _, h3⟩ := M.now x q
      exact ⟨ends_of h3 h, by omega⟩
  · by_cases k : j = i
    · subst k
      rw [hs] at hx
      injection hx with hx
      subst hx
      obtain ⟨l, s, h3⟩ := M.from_
      exact ends_of h3 h
    · exact past j x (by omega) hx
theorem Met.all {g : Gr α} {cs rs : List α} {rn : α → Nat} (M : Met g cs rs rn cs.length) (out : ∀ x, x ∉ cs → g x = none) (x : α) : Ends g x := by
  by_cases h : x ∈ cs
  · obtain ⟨j, hj, e⟩ := List.getElem_of_mem h
    exact M.past j x hj (by rw [List.getElem?_eq_getElem hj, e])
  · exact ends_none (out x h)
theorem MetIn.room {g : Gr α} {cs rs : List α} {rn : α → Nat} {i : Nat} {start name : α} {t : List α} (M : MetIn g cs rs rn i start t name) (hc : name ∈ cs) (hn : name ∉ rs ++ t) : (rs ++ t).length < cs.length := by
  have := nodup_le (name :: (rs ++ t)) cs (List.nodup_cons.mpr ⟨hn, M.nd⟩) fun x hx => by
    rcases List.mem_cons.mp hx with q | q
    · exact q ▸ hc
    · exact M.sub x q
  rw [List.length_cons] at this
  omega
end
end Lo
/-! Least sums of chains, told by the solutions: what a system implies. -/
namespace Lo
section
variable {α : Type} [DecidableEq α]
/-- each row that begins with a keeps the sums -/
def Done (rows : List (Row α)) (ss : List α) (sv : α → Int) (a : α) : Prop := ∀ r ∈ rows, r.1 = a → r.2.1 ∈ ss ∧ sv r.2.1 ≤ sv a + r.2.2
/-- the sums so far -/
structure Sums (rows : List (Row α)) (left : α) (ss : List α) (sv : α → Int) : Prop where
  nd : ss.Nodup
  sub : ∀ x ∈ ss, x = left ∨ ∃ r ∈ rows, x = r.2.1
  has : left ∈ ss
  low : sv left ≤ 0
  sound : ∀ x ∈ ss, ∀ u, Sat rows u → u left - u x ≤ sv x
  up : ∀ x ∈ ss, sv x ≤ span rows * (ss.length : Int)
variable {rows : List (Row α)} {left : α} {ss : List α} {sv : α → Int}
theorem Sums.start (rows : List (Row α)) (left : α) (sv : α → Int) (h : sv left = 0) : Sums rows left [left] sv := by
  refine ⟨nd_one left, fun x hx => .inl (List.mem_singleton.mp hx), List.mem_singleton.mpr rfl, by omega, fun x hx u _ => ?_, fun x hx => ?_⟩
  · rw [List.mem_singleton] at hx
    subst hx
    omega
  · rw [List.mem_singleton] at hx
    subst hx
    have := span_nonneg rows
    simp
    omega
/-- a name is reached, or a sum is lowered, by a row -/
theorem Sums.step (S : Sums rows left ss sv) {a b : α} {c : Int} (hr : (a, b, c) ∈ rows) (ha : a ∈ ss) (h : b ∈ ss → sv a + c < sv b) : Sums rows left (addN ss b) (put sv b (sv a + c)) := by
  have hc : -span rows ≤ c ∧ c ≤ span rows := span_le hr
  have h0 := span_nonneg rows
  have hsa := S.up a ha
  have grow : ∀ n : Nat, span rows * ((n : Nat) : Int) ≤ span rows * ((n + 1 : Nat) : Int) := fun n => by
    have : span rows * ((n + 1 : Nat) : Int) = span rows * (n : Int) + span rows := by
      rw [Int.natCast_add, Int.mul_add]
      omega
    omega
  have hlen : b ∉ ss → (addN ss b).length = ss.length + 1 := fun k => by
    unfold addN
    rw [if_neg k, List.length_append]
    rfl
  have hlen2 : b ∈ ss → (addN ss b).length = ss.length := fun k => by
    unfold addN
    rw [if_pos k]
  refine ⟨nodup_addN S.nd, fun x hx => ?_, mem_addN.mpr (.inl S.has), ?_, fun x hx u hu => ?_, fun x hx => ?_⟩
  · rcases mem_addN.mp hx with q | q
    · exact S.sub x q
    · exact .inr ⟨_, hr, q⟩
  · by_cases k : left = b
    · subst k
      have := h S.has
      have := S.low
      rw [put_at]
      omega
    · rw [put_off k]
      exact S.low
  · by_cases k : x = b
    · subst k
      rw [put_at]
      have h1 := S.sound a ha u hu
      have h2 := hu _ hr
      simp only at h2
      omega
    · rw [put_off k]
      exact S.sound x ((mem_addN.mp hx).resolve_right k) u hu
  · by_cases k : x = b
    · subst k
      rw [put_at]
      by_cases m : x ∈ ss
      · have h1 := h m
        have h2 := S.up x m
        rw [hlen2 m]
        omega
      · rw [hlen m]
        have : span rows * ((ss.length + 1 : Nat) : Int) = span rows * (ss.length : Int) + span rows := by
          rw [Int.natCast_add, Int.mul_add]
          omega
        omega
    · rw [put_off k]
      have m := (mem_addN.mp hx).resolve_right k
      have h1 := S.up x m
      by_cases j : b ∈ ss
      · rw [hlen2 j]
        exact h1
      · rw [hlen j]
        have := grow ss.length
        omega
/-- what was done stays done, but for the name that is lowered -/
theorem Done.step {a b x : α} {c : Int} (D : Done rows ss sv x) (hx : x ≠ b) (h : b ∈ ss → sv a + c < sv b) : Done rows (addN ss b) (put sv b (sv a + c)) x := fun r hr e => by
  obtain ⟨h1, h2⟩ := D r hr e
  refine ⟨mem_addN.mpr (.inl h1), ?_⟩
  rw [put_off hx]
  by_cases k : r.2.1 = b
  · rw [k, put_at]
    have := h (k ▸ h1)
    rw [k] at h2
    omega
  · rw [put_off k]
    exact h2
/-! ### the measure -/
def ends_ (rows : List (Row α)) (left : α) : List α := left :: rows.map (·.2.1)
def far (rows : List (Row α)) (left : α) (v : α → Int) : Int := (((ends_ rows left).map fun x => (v left - v x).natAbs).sum : Nat)
theorem far_le {v : α → Int} {x : α} (h : x ∈ ends_ rows left) : -(far rows left v) ≤ v left - v x := by
  have : (v left - v x).natAbs ≤ ((ends_ rows left).map fun x => (v left - v x).natAbs).sum := by
    generalize ends_ rows left = l at h ⊢
    induction l with
    | nil => exact absurd h List.not_mem_nil
    | cons a t ih =>
      rw [List.map_cons, List.sum_cons]
      rcases List.mem_cons.mp h with e | e
      · subst e
        omega
      · have := ih e
        omega
  unfold far
  omega
def slack (rows : List (Row α)) (left : α) (v : α → Int) (ss : List α) (sv : α → Int) (x : α) : Int :=
  if x ∈ ss then sv x - (v left - v x) else span rows * ((rows.length + 1 : Nat) : Int) + far rows left v + 1
def gap (rows : List (Row α)) (left : α) (v : α → Int) (ss : List α) (sv : α → Int) : Int := ((ends_ rows left).map (slack rows left v ss sv)).sum
theorem Sums.few (S : Sums rows left ss sv) : ss.length ≤ rows.length + 1 := by
  have := nodup_le ss (ends_ rows left) S.nd fun x hx => by
    rcases S.sub x hx with e | ⟨r, hr, e⟩
    · exact e ▸ List.mem_cons_self
    · exact List.mem_cons_of_mem _ (List.mem_map.mpr ⟨r, hr, e.symm⟩)
  unfold ends_ at this
  rw [List.length_cons, List.length_map] at this
  exact this
theorem far_nonneg (rows : List (Row α)) (left : α) (v : α → Int) : 0 ≤ far rows left v := Int.natCast_nonneg _
theorem Sums.gap_nonneg (S : Sums rows left ss sv) {v : α → Int} (hv : Sat rows v) : 0 ≤ gap rows left v ss sv := by
  refine sum_nonneg _ _ fun x _ => ?_
  unfold slack
  split
  · rename_i h
    have := S.sound x h v hv
    omega
  · have h1 := far_nonneg rows left v
    have h2 : 0 ≤ span rows * ((rows.length + 1 : Nat) : Int) := Int.mul_nonneg (span_nonneg rows) (Int.natCast_nonneg _)
    omega
theorem Sums.gap_step (S : Sums rows left ss sv) {v : α → Int} {a b : α} {c : Int} (hr : (a, b, c) ∈ rows) (ha : a ∈ ss) (h : b ∈ ss → sv a + c < sv b) :
    gap rows left v (addN ss b) (put sv b (sv a + c)) < gap rows left v ss sv := by
  have S' := S.step hr ha h
  have hb : b ∈ ends_ rows left := List.mem_cons_of_mem _ (List.mem_map.mpr ⟨_, hr, rfl⟩)
  have key : slack rows left v (addN ss b) (put sv b (sv a + c)) b < slack rows left v ss sv b := by
    unfold slack
    rw [if_pos (mem_addN.mpr (.inr rfl)), put_at]
    by_cases k : b ∈ ss
    · rw [if_pos k]
      have := h k
      omega
    · rw [if_neg k]
      have h1 := S'.up b (mem_addN.mpr (.inr rfl))
      rw [put_at] at h1
      have h2 : span rows * ((addN ss b).length : Int) ≤ span rows * ((rows.length + 1 : Nat) : Int) := Int.mul_le_mul_of_nonneg_left (by have := S'.few; omega) (span_nonneg rows)
      have h3 := far_le (v := v) hb
      omega
  refine sum_lt _ _ _ b hb (fun x _ => ?_) key
  by_cases k : x = b
  · rw [k]
    exact Int.le_of_lt key
  · unfold slack
    rw [put_off k]
    by_cases m : x ∈ ss
    · rw [if_pos m, if_pos (mem_addN.mpr (.inl m))]
      exact Int.le_refl _
    · rw [if_neg m, if_neg fun q => k ((mem_addN.mp q).resolve_left m)]
      exact Int.le_refl _
/-! ### at the end -/
theorem big_le (f : Row α → Int) {r : Row α} (h : r ∈ rows) : f r ≤ (((rows.map fun r => (f r).natAbs).sum : Nat) : Int) := by
  have : (f r).natAbs ≤ (rows.map fun r => (f r).natAbs).sum := by
    induction rows with
    | nil => exact absurd h List.not_mem_nil
    | cons a t ih =>
      rw [List.map_cons, List.sum_cons]
      rcases List.mem_cons.mp h with e | e
      · subst e
        omega
      · have := ih e
        omega
  omega
/-- a solution with a greater difference -/
theorem Sums.wide (S : Sums rows left ss sv) (hd : ∀ a ∈ ss, Done rows ss sv a) {v : α → Int} (hv : Sat rows v) {right : α} {n : Int} (h : right ∈ ss → n < sv right) : ∃ u, Sat rows u ∧ n + 1 ≤ u left - u right := by
  refine ⟨fun x => if x ∈ ss then -sv x else v x - ((((rows.map fun r => (v r.1 + sv r.2.1 - r.2.2).natAbs).sum : Nat) : Int) + ((n + 1 + v right).natAbs : Int)), fun r hr => ?_, ?_⟩
  · show (if r.1 ∈ ss then _ else _) - (if r.2.1 ∈ ss then _ else _) ≤ r.2.2
    have hb : v r.1 + sv r.2.1 - r.2.2 ≤ _ := big_le (fun r => v r.1 + sv r.2.1 - r.2.2) hr
    have hs := hv r hr
    by_cases k : r.1 ∈ ss
    · obtain ⟨h1, h2⟩ := hd r.1 k r hr rfl
      rw [if_pos k, if_pos h1]
      omega
    · rw [if_neg k]
      by_cases j : r.2.1 ∈ ss
      · rw [if_pos j]
        omega
      · rw [if_neg j]
        omega
  · show n + 1 ≤ (if left ∈ ss then _ else _) - (if right ∈ ss then _ else _)
    rw [if_pos S.has]
    have hl := S.low
    by_cases k : right ∈ ss
    · rw [if_pos k]
      have := h k
      omega
    · rw [if_neg k]
      omega
/-- what a difference is implied by -/
def Told (rows : List (Row α)) (left right : α) (limit : Int) : Prop := ∀ u, Sat rows u → u left - u right ≤ limit
/-- the greatest value of left minus right (none: there is none) -/
def Best (rows : List (Row α)) (left right : α) (r : Option Int) : Prop := (∀ k, r = some k → Told rows left right k) ∧ ∀ n, (∀ k, r = some k → n < k) → ¬ Told rows left right n
theorem Sums.best (S : Sums rows left ss sv) (hd : ∀ a ∈ ss, Done rows ss sv a) {v : α → Int} (hv : Sat rows v) (right : α) : Best rows left right (if right ∈ ss then some (sv right) else none) := by
  refine ⟨fun k e => ?_, fun n h t => ?_⟩
  · by_cases m : right ∈ ss
    · rw [if_pos m] at e
      injection e with e
      subst e
      exact S.sound right m
    · rw [if_neg m] at e
      cases e
  · obtain ⟨u, h1, h2⟩ := S.wide hd hv (right := right) (n := n) fun m => h _ (by rw [if_pos m])
    have := t u h1
    omega
theorem told_denied {right : α} {limit : Int} : (∃ u, Sat (rows ++ [(right, left, 0 - limit - 1)]) u) ↔ ¬ Told rows left right limit := by
  constructor
  · rintro ⟨u, hu⟩ t
    have h1 := t u fun r hr => hu r (List.mem_append_left _ hr)
    have h2 := hu (right, left, 0 - limit - 1) (List.mem_append_right _ (List.mem_singleton.mpr rfl))
    simp only at h2
    omega
  · intro h
    have : ∃ u, Sat rows u ∧ ¬ u left - u right ≤ limit := by
      refine Classical.byContradiction fun k => h fun u hu => Classical.byContradiction fun j => k ⟨u, hu, j⟩
    obtain ⟨u, h1, h2⟩ := this
    refine ⟨u, fun r hr => ?_⟩
    rcases List.mem_append.mp hr with q | q
    · exact h1 r q
    · rw [List.mem_singleton] at q
      subst q
      show u right - u left ≤ 0 - limit - 1
      omega
theorem told_own {l r : α} {c : Int} (h : (l, r, c) ∈ rows) : Told rows l r c := fun u hu => hu _ h
end
end Lo
/-! The last causes of the sums lead back to the left side: a chain of the least sum. -/
namespace Lo
section
variable {α : Type} [DecidableEq α]
/-- from x back along the last causes -/
inductive Cway (rows : List (Row α)) (left : α) (cs : List α) (cz : α → Nat) : α → List Nat → Prop
  | here : Cway rows left cs cz left []
  | step {x a : α} {c : Int} {l : List Nat} : x ≠ left → x ∈ cs → rows[cz x]? = some (a, x, c) → Cway rows left cs cz a l → Cway rows left cs cz x (cz x :: l)
/-- a chain of rows by their places -/
inductive Path (rows : List (Row α)) : α → List Nat → α → Int → Prop
  | nil (a : α) : Path rows a [] a 0
  | cons {a m b : α} {j : Nat} {c s : Int} {l : List Nat} : rows[j]? = some (a, m, c) → Path rows m l b s → Path rows a (j :: l) b (c + s)
variable {rows : List (Row α)} {left : α} {ss cs : List α} {sv : α → Int} {cz : α → Nat}
theorem Path.snoc {a m x : α} {l : List Nat} {s c : Int} {j : Nat} (h : Path rows a l m s) (hj : rows[j]? = some (m, x, c)) : Path rows a (l ++ [j]) x (s + c) := by
  induction h with
  | nil a =>
    have q : Path rows a [j] x (c + 0) := .cons hj (.nil x)
    have e : (0 : Int) + c = c + 0 := by omega
    rw [e]
    exact q
  | @cons a m' b j' c' s' l' h1 h2 ih =>
    have q := Path.cons h1 (ih hj)
    have e : c' + s' + c = c' + (s' + c) := by omega
    rw [e]
    exact q
theorem Cway.fn {x : α} {l : List Nat} (h : Cway rows left cs cz x l) : ∀ {l' : List Nat}, Cway rows left cs cz x l' → l = l' := by
  induction h with
  | here =>
    intro l' h'
    cases h' with
    | here => rfl
    | step n => exact absurd rfl n
  | @step x a c l n hc hr h ih =>
    intro l' h'
    cases h' with
    | here => exact absurd rfl n
    | @step _ a' c' l'' n' hc' hr' h' =>
      rw [hr] at hr'
      injection hr' with e
      injection e with e1 e2
      subst e1
      rw [ih h']
theorem Cway.under {x : α} {l : List Nat} (h : Cway rows left cs cz x l) : ∀ j ∈ l, ∃ (z a : α) (c : Int) (l' : List Nat), rows[j]? = some (a, z, c) ∧ Cway rows left cs cz z l' ∧ l'.length ≤ l.length := by
  induction h with
  | here => exact fun j hj => absurd hj List.not_mem_nil
  | @step x a c l n hc hr h ih =>
    intro j hj
    rcases List.mem_cons.mp hj with e | e
    · subst e
      exact ⟨x, a, c, _, hr, .step n hc hr h, Nat.le_refl _⟩
    · obtain ⟨z, a', c', l', h1, h2, h3⟩ := ih j e
      exact ⟨z, a', c', l', h1, h2, by rw [List.length_cons]; omega⟩
theorem Cway.nodup {x : α} {l : List Nat} (h : Cway rows left cs cz x l) : l.Nodup := by
  induction h with
  | here => exact List.nodup_nil
  | @step x a c l n hc hr h ih =>
    refine List.nodup_cons.mpr ⟨fun m => ?_, ih⟩
    obtain ⟨z, a', c', l', h1, h2, h3⟩ := h.under _ m
    rw [hr] at h1
    injection h1 with e
    injection e with _ e
    injection e with e _
    subst e
    have := (Cway.step n hc hr h).fn h2
    rw [← this, List.length_cons] at h3
    omega
theorem Cway.lt {x : α} {l : List Nat} (h : Cway rows left cs cz x l) : ∀ j ∈ l, j < rows.length := fun j hj => by
  obtain ⟨_, _, _, _, h1, _⟩ := h.under j hj
  exact (List.getElem?_eq_some_iff.mp h1).1
/-- the sums with their last causes -/
structure SW (rows : List (Row α)) (left : α) (ss : List α) (sv : α → Int) (cs : List α) (cz : α → Nat) : Prop extends Sums rows left ss sv where
  way : ∀ x ∈ ss, ∃ l, Cway rows left cs cz x l
  cau : ∀ x ∈ ss, x ≠ left → ∀ (a : α) (c : Int), rows[cz x]? = some (a, x, c) → a ∈ ss ∧ sv a + c ≤ sv x
theorem Sums.zero (S : Sums rows left ss sv) {v : α → Int} (hv : Sat rows v) : sv left = 0 := by
  have h1 := S.low
  have h2 := S.sound left S.has v hv
  omega
/-- a name on the way to x, when its sum is lowered from x: none -/
theorem SW.past (S : SW rows left ss sv cs cz) {v : α → Int} (hv : Sat rows v) {b : α} {j : Nat} {x : α} {l : List Nat} (h : Cway rows left cs cz x l) (hx : x ∈ ss) (hb : b ≠ left) :
    (∃ l', Cway rows left (addN cs b) (put cz b j) x l') ∨ (b ∈ ss ∧ sv b + v b ≤ sv x + v x) := by
  induction h with
  | here => exact .inl ⟨[], .here⟩
  | @step x a c l n hc hr h ih =>
    by_cases k : x = b
    · subst k
      exact .inr ⟨hx, Int.le_refl _⟩
    · obtain ⟨h1, h2⟩ := S.cau x hx n a c hr
      have h3 := hv _ (List.mem_of_getElem? hr)
      simp only at h3
      rcases ih h1 with ⟨l', q⟩ | ⟨q1, q2⟩
      · refine .inl ⟨_, Cway.step (c := c) n (mem_addN.mpr (.inl hc)) ?_ q⟩
        rw [put_off k]
        exact hr
      · exact .inr ⟨q1, by omega⟩
theorem Cway.moved {b : α} {j : Nat} {lb : List Nat} (B : Cway rows left (addN cs b) (put cz b j) b lb) {x : α} {l : List Nat} (h : Cway rows left cs cz x l) : ∃ l', Cway rows left (addN cs b) (put cz b j) x l' := by
  induction h with
  | here => exact ⟨[], .here⟩
  | @step x a c l n hc hr h ih =>
    by_cases k : x = b
    · subst k
      exact ⟨_, B⟩
    · obtain ⟨l', q⟩ := ih
      refine ⟨_, Cway.step (c := c) n (mem_addN.mpr (.inl hc)) ?_ q⟩
      rw [put_off k]
      exact hr
theorem SW.step (S : SW rows left ss sv cs cz) {v : α → Int} (hv : Sat rows v) {a b : α} {c : Int} {j : Nat} (hr : rows[j]? = some (a, b, c)) (nab : a ≠ b) (ha : a ∈ ss) (h : b ∈ ss → sv a + c < sv b) :
    SW rows left (addN ss b) (put sv b (sv a + c)) (addN cs b) (put cz b j) := by
  have hm := List.mem_of_getElem? hr
  have T := S.toSums.step hm ha h
  have z := S.toSums.zero hv
  have hb : b ≠ left := fun e => by
    subst e
    have h1 := h S.has
    have h2 := S.sound a ha v hv
    have h3 := hv _ hm
    simp only at h3
    omega
  obtain ⟨la, wa⟩ := S.way a ha
  have hab : ∃ l', Cway rows left (addN cs b) (put cz b j) a l' := by
    rcases S.past hv (b := b) (j := j) wa ha hb with q | ⟨q1, q2⟩
    · exact q
    · have h1 := h q1
      have h3 := hv _ hm
      simp only at h3
      omega
  obtain ⟨la', wa'⟩ := hab
  have B : Cway rows left (addN cs b) (put cz b j) b (put cz b j b :: la') := by
    refine .step (c := c) hb (mem_addN.mpr (.inr rfl)) ?_ wa'
    rw [put_at]
    exact hr
  refine { T with way := fun x hx => ?_, cau := fun x hx nx a' c' hr' => ?_ }
  · by_cases k : x = b
    · subst k
      exact ⟨_, B⟩
    · obtain ⟨l, w⟩ := S.way x ((mem_addN.mp hx).resolve_right k)
      exact B.moved w
  · by_cases k : x = b
    · subst k
      rw [put_at, hr] at hr'
      injection hr' with e
      injection e with e1 e
      injection e with _ e2
      subst e1 e2
      refine ⟨mem_addN.mpr (.inl ha), ?_⟩
      rw [put_at, put_off nab]
      exact Int.le_refl _
    · rw [put_off k] at hr'
      obtain ⟨h1, h2⟩ := S.cau x ((mem_addN.mp hx).resolve_right k) nx a' c' hr'
      refine ⟨mem_addN.mpr (.inl h1), ?_⟩
      rw [put_off k]
      by_cases m : a' = b
      · subst m
        rw [put_at]
        have := h h1
        omega
      · rw [put_off m]
        exact h2
theorem SW.start (rows : List (Row α)) (left : α) (sv : α → Int) (cz : α → Nat) (h : sv left = 0) : SW rows left [left] sv [] cz := by
  refine { Sums.start rows left sv h with way := fun x hx => ?_, cau := fun x hx nx => absurd (List.mem_singleton.mp hx) nx }
  rw [List.mem_singleton] at hx
  subst hx
  exact ⟨[], .here⟩
theorem SW.path (S : SW rows left ss sv cs cz) (hd : ∀ a ∈ ss, Done rows ss sv a) (z : sv left = 0) {x : α} {l : List Nat} (h : Cway rows left cs cz x l) (hx : x ∈ ss) : Path rows left l.reverse x (sv x) := by
  induction h with
  | here =>
    rw [z]
    exact .nil left
  | @step x a c l n hc hr h ih =>
    obtain ⟨h1, h2⟩ := S.cau x hx n a c hr
    have h3 := (hd a h1 _ (List.mem_of_getElem? hr) rfl).2
    simp only at h3
    have e : sv x = sv a + c := by omega
    rw [List.reverse_cons, e]
    exact (ih h1).snoc hr
/-- the chain that is read off -/
def Chain (rows : List (Row α)) (left right : α) (k : Int) (l : List Nat) : Prop := l.Nodup ∧ (∀ j ∈ l, j < rows.length) ∧ Path rows left l.reverse right k
theorem SW.chain (S : SW rows left ss sv cs cz) (hd : ∀ a ∈ ss, Done rows ss sv a) {v : α → Int} (hv : Sat rows v) {right : α} (hr : right ∈ ss) :
    ∃ l, Cway rows left cs cz right l ∧ Chain rows left right (sv right) l := by
  obtain ⟨l, w⟩ := S.way right hr
  exact ⟨l, w, w.nodup, w.lt, S.path hd (S.toSums.zero hv) w hr⟩
/-- the sides alike: nothing between them -/
theorem best_self {v : α → Int} (hv : Sat rows v) {b : Option Int} (B : Best rows left left b) : b = some 0 := by
  cases b with
  | none => exact absurd (fun u _ => by omega) (B.2 0 fun k e => nomatch e)
  | some k =>
    have h1 := B.1 k rfl v hv
    by_cases h : 0 < k
    · exact absurd (fun u _ => by omega) (B.2 0 fun k' e => by injection e with e; omega)
    · have : k = 0 := by omega
      rw [this]
/-- no greatest value: there are solutions as far as one wishes -/
theorem best_far {right : α} (B : Best rows left right none) (n : Int) : ∃ u, Sat (rows ++ [(right, left, 0 - n)]) u := by
  have h := B.2 n fun k e => nomatch e
  have : ∃ u, Sat rows u ∧ ¬ u left - u right ≤ n := Classical.byContradiction fun k => h fun u hu => Classical.byContradiction fun j => k ⟨u, hu, j⟩
  obtain ⟨u, h1, h2⟩ := this
  refine ⟨u, fun r hr => ?_⟩
  rcases List.mem_append.mp hr with q | q
  · exact h1 r q
  · rw [List.mem_singleton] at q
    subst q
    show u right - u left ≤ 0 - n
    omega
theorem best_near {right : α} {n : Int} (B : Best rows left right (some n)) : ∃ u, Sat (rows ++ [(right, left, 0 - n)]) u := by
  have h := B.2 (n - 1) fun k e => by injection e with e; omega
  have : ∃ u, Sat rows u ∧ ¬ u left - u right ≤ n - 1 := Classical.byContradiction fun k => h fun u hu => Classical.byContradiction fun j => k ⟨u, hu, j⟩
  obtain ⟨u, h1, h2⟩ := this
  refine ⟨u, fun r hr => ?_⟩
  rcases List.mem_append.mp hr with q | q
  · exact h1 r q
  · rw [List.mem_singleton] at q
    subst q
    show u right - u left ≤ 0 - n
    omega
theorem best_beyond {right : α} {n : Int} (B : Best rows left right (some n)) (u : α → Int) : ¬ Sat (rows ++ [(right, left, 0 - n - 1)]) u := fun h => told_denied.mp ⟨u, h⟩ (B.1 n rfl)
end
end Lo
namespace Lo
open PySem L2
abbrev SRow := Row Str
/-! ### dicts with text keys -/
def dS (ks : List Str) (f : Str → V) : List (Key × V) := ks.map fun x => ((Sum.inr x : Key), f x)
theorem dS_len (ks : List Str) (f : Str → V) : (dS ks f).length = ks.length := List.length_map ..
theorem dS_val (f : Str → V) (x : Str) : ∀ ks : List Str, valV (dS ks f) (Sum.inr x) = if x ∈ ks then some (f x) else none
  | [] => rfl
  | y :: ks => by
    have ih := dS_val f x ks
    by_cases h : y = x
    · subst h
      rw [if_pos List.mem_cons_self]
      exact valV_pos (p := ((Sum.inr y : Key), f y)) rfl
    · have e : valV (dS (y :: ks) f) (Sum.inr x) = valV (dS ks f) (Sum.inr x) := valV_neg (p := ((Sum.inr y : Key), f y)) fun q => h (Sum.inr.inj q)
      rw [e, ih]
      by_cases m : x ∈ ks
      · rw [if_pos m, if_pos (List.mem_cons_of_mem _ m)]
      · rw [if_neg m, if_neg fun q => (List.mem_cons.mp q).elim (fun z => h z.symm) m]
theorem dS_in {ks : List Str} {f : Str → V} {x : Str} (h : x ∈ ks) : valV (dS ks f) (Sum.inr x) = some (f x) := by rw [dS_val, if_pos h]
theorem dS_out {ks : List Str} {f : Str → V} {x : Str} (h : x ∉ ks) : valV (dS ks f) (Sum.inr x) = none := by rw [dS_val, if_neg h]
theorem dS_congr {ks : List Str} {f g : Str → V} (h : ∀ x ∈ ks, f x = g x) : dS ks f = dS ks g := List.map_congr_left fun x hx => by rw [h x hx]
theorem dS_any {ks : List Str} {f : Str → V} {x : Str} : ((dS ks f).any fun kv => decide (kv.1 = Sum.inr x)) = true ↔ x ∈ ks := by
  rw [valV_any, dS_val]
  by_cases m : x ∈ ks
  · rw [if_pos m]
    exact ⟨fun _ => m, fun _ => rfl⟩
  · rw [if_neg m]
    exact ⟨(fun q => nomatch q), fun q => absurd q m⟩
theorem dS_put (ks : List Str) (f : Str → V) (x : Str) (v : V) : putK (dS ks f) (Sum.inr x) v = dS (addN ks x) (put f x v) := by
  unfold putK addN
  by_cases m : x ∈ ks
  · rw [if_pos (dS_any.mpr m), if_pos m]
    unfold dS
    rw [List.map_map]
    refine List.map_congr_left fun y _ => ?_
    show (if (Sum.inr y : Key) = Sum.inr x then ((Sum.inr y : Key), v) else ((Sum.inr y : Key), f y)) = ((Sum.inr y : Key), put f x v y)
    by_cases j : y = x
    · subst j
      rw [if_pos rfl, put_at]
    · rw [if_neg fun q => j (Sum.inr.inj q), put_off j]
  · rw [if_neg fun q => m (dS_any.mp q), if_neg m]
    have e : dS ks (put f x v) = dS ks f := dS_congr fun y hy => put_off fun q => m (q ▸ hy)
    show dS ks f ++ [((Sum.inr x : Key), v)] = (ks ++ [x]).map _
    rw [List.map_append]
    show _ = dS ks (put f x v) ++ [((Sum.inr x : Key), put f x v x)]
    rw [e, put_at]
theorem dS_keys (ks : List Str) (f : Str → V) : (dS ks f).map (fun kv => kV kv.1) = ks.map V.str := by
  unfold dS
  rw [List.map_map]
  rfl
theorem dget {H : Hp} {a : Addr} {ks : List Str} {f : Str → V} {x : Str} (e : H a = some (.dK (dS ks f))) (h : x ∈ ks) : DGet H a (.str x) (some (f x)) := by
  have q := DGet.k (k := Sum.inr x) e
  rw [dS_in h] at q
  exact q
theorem dget0 {H : Hp} {a : Addr} {ks : List Str} {f : Str → V} {x : Str} (e : H a = some (.dK (dS ks f))) (h : x ∉ ks) : DGet H a (.str x) none := by
  have q := DGet.k (k := Sum.inr x) e
  rw [dS_out h] at q
  exact q
theorem dgetI {H : Hp} {a : Addr} {ks : List Str} {f : Str → V} (x : Str) (e : H a = some (.dK (dS ks f))) : DGet H a (.str x) (if x ∈ ks then some (f x) else none) := by
  have q := DGet.k (k := Sum.inr x) e
  rw [dS_val] at q
  exact q
theorem dput {H : Hp} {a : Addr} {ks : List Str} {f : Str → V} (x : Str) (v : V) (e : H a = some (.dK (dS ks f))) (h : ks.length ≤ 1000) : DPut H a (.str x) v (upd H a (.dK (dS (addN ks x) (put f x v)))) := by
  have q := DPut.k (k := Sum.inr x) (v := v) e (by rw [dS_len]; exact small1000 h)
  rw [dS_put] at q
  exact q
/-! ### heaps -/
theorem same_upd {H : Hp} {p : Addr} {o : HO} (h : H p = none) : Same H (upd H p o) := fun b x e => by
  rw [upd_ne (ne_of_none e h)]
  exact e
/-- what was tracked at the beginning is as it was, though a later thing changes -/
theorem _root_.L2.Same.later {H H' : Hp} {p : Addr} {o : HO} (s : Same H H') (h : H p = none) : Same H (upd H' p o) := fun b x e => by
  rw [upd_ne (ne_of_none e h)]
  exact s b x e
/-! ### systems -/
def rowV (r : SRow) : List V := [.str r.1, .str r.2.1, .int r.2.2]
def RowT (H : Hp) (p : Addr) (r : SRow) : Prop := H p = some (.tup (rowV r))
def RowA (H : Hp) (p : Addr) (r : SRow) : Prop := H p = some (.tup (rowV r)) ∨ H p = some (.lst (rowV r))
/-- a list of rows at a -/
def Sys (R : Hp → Addr → SRow → Prop) (H : Hp) (a : Addr) (rows : List SRow) : Prop :=
  ∃ ps : List Addr, H a = some (.lst (ps.map V.ref)) ∧ ps.length = rows.length ∧ ∀ (i : Nat) (p : Addr) (r : SRow), ps[i]? = some p → rows[i]? = some r → R H p r
def Good1 (r : SRow) : Prop := r.1 ≠ r.2.1 ∧ r.1 ≠ ("" : Str) ∧ r.2.1 ≠ ("" : Str)
structure Good (rows : List SRow) : Prop where
  row : ∀ r ∈ rows, Good1 r
  few : rows.length ≤ 100
theorem RowT.same {H H' : Hp} {p : Addr} {r : SRow} (s : Same H H') (h : RowT H p r) : RowT H' p r := s _ _ h
theorem RowA.same {H H' : Hp} {p : Addr} {r : SRow} (s : Same H H') (h : RowA H p r) : RowA H' p r := h.imp (fun h => s _ _ h) fun h => s _ _ h
theorem RowT.any {H : Hp} {p : Addr} {r : SRow} (h : RowT H p r) : RowA H p r := .inl h
theorem Sys.sameT {H H' : Hp} {a : Addr} {rows : List SRow} (s : Same H H') (h : Sys RowT H a rows) : Sys RowT H' a rows := by
  obtain ⟨ps, h1, h2, h3⟩ := h
  exact ⟨ps, s _ _ h1, h2, fun i p r hp hr => (h3 i p r hp hr).same s⟩
theorem Sys.sameA {H H' : Hp} {a : Addr} {rows : List SRow} (s : Same H H') (h : Sys RowA H a rows) : Sys RowA H' a rows := by
  obtain ⟨ps, h1, h2, h3⟩ := h
  exact ⟨ps, s _ _ h1, h2, fun i p r hp hr => (h3 i p r hp hr).same s⟩
theorem Sys.any {H : Hp} {a : Addr} {rows : List SRow} (h : Sys RowT H a rows) : Sys RowA H a rows := by
  obtain ⟨ps, h1, h2, h3⟩ := h
  exact ⟨ps, h1, h2, fun i p r hp hr => (h3 i p r hp hr).any⟩
/-- the i-th row of a system -/
theorem Sys.at {R : Hp → Addr → SRow → Prop} {H : Hp} {rows : List SRow} {ps : List Addr} (h2 : ps.length = rows.length) (h3 : ∀ (i : Nat) (p : Addr) (r : SRow), ps[i]? = some p → rows[i]? = some r → R H p r) {i : Nat} {v : V} (hv : (ps.map V.ref)[i]? = some v) :
    ∃ p r, v = .ref p ∧ ps[i]? = some p ∧ rows[i]? = some r ∧ r ∈ rows ∧ i < rows.length ∧ R H p r := by
  rw [List.getElem?_map] at hv
  cases e : ps[i]? with
  | none =>
    rw [e] at hv
    cases hv
  | some p =>
    rw [e] at hv
    have hi : i < ps.length := (List.getElem?_eq_some_iff.mp e).1
    have hi2 : i < rows.length := h2 ▸ hi
    refine ⟨p, rows[i], (Option.some.inj hv).symm, rfl, List.getElem?_eq_getElem hi2, List.getElem_mem hi2, hi2, h3 i p _ e (List.getElem?_eq_getElem hi2)⟩
/-- what the module's names hold -/
structure Blt (mg : Str → Option Value) : Prop where
  isi : mg "isinstance" = none
  int : mg "int" = none
  bool : mg "bool" = none
  str : mg "str" = none
  tuple : mg "tuple" = none
  list : mg "list" = none
  len : mg "len" = none
  enum : mg "enumerate" = none
  range : mg "range" = none
  all : mg "all" = none
end Lo
/-! set(xs) of things that are all different, and sorted of it: an entry for each, a list of as many. -/
namespace Lo
open PySem PySem.Spec PyProof.Rows L2
section
variable {P : Program} {w : World} {κ : Type} [DecidableEq κ]
/-- the set at a has as many entries as ks has keys, each of one of them; its table can be walked -/
def SetN (knd : KeyKind P w κ) (h : Heap) (a : Addr) (ks : List κ) : Prop :=
  ∃ (ob : Obj) (es : Array (Int × Value)) (ep : Nat) (tb : SetTable), h.get? a = some ob ∧ ob.ExactSet ∧ ob.data = .set es ep tb ∧
    (∀ e ∈ es.toList, (∃ k, k ∈ ks ∧ knd.is k e.2 = true ∧ e.1 = knd.hash k) ∧ e.2.scannable = true) ∧ es.size = ks.length ∧ es.size < scanBound ∧
    tb.fits es.size = true ∧ Ris tb.place.toList ∧ (w.params.followText "set-order" = true ∨ tb.led = true)
variable {knd : KeyKind P w κ} {A : Around} {E : Value → Shared → Prop} {s : Shared} {a : Addr} {ks : List κ}
theorem SetN.at {h h' : Heap} (N : SetN knd h a ks) (keep : ∀ o, h.get? a = some o → h'.get? a = some o) : SetN knd h' a ks := by
  obtain ⟨ob, es, ep, tb, hob, more⟩ := N
  exact ⟨ob, es, ep, tb, keep ob hob, more⟩
/-- behind the laying of an entry: the table is stored, and laid anew where it is too full -/
theorem setN_tail {give : Bool → Sem Unit} (hgive : ∀ (b : Bool) (s1 : Shared) (Q' : Unit → Shared → Prop), Q' () s1 → wpAny (model P w) A (give b) Q' E s1) {ob : Obj} {es : Array (Int × Value)} {ep : Nat} {tb : SetTable}
    (hob : s.heap.get? a = some ob) (hex : ob.ExactSet) (hdt : ob.data = .set es ep tb) {es1 : Array (Int × Value)} {tb2 : SetTable}
    (hall : ∀ e ∈ es1.toList, (∃ k, k ∈ ks ∧ knd.is k e.2 = true ∧ e.1 = knd.hash k) ∧ e.2.scannable = true) (hsz : es1.size = ks.length) (hbd : es1.size < scanBound) (hfit : tb2.fits es1.size = true)
    (hris : Ris tb2.place.toList) (hled : w.params.followText "set-order" = true ∨ tb2.led = true) {old : Bool} {R : Option Bool → Shared → Prop}
    (hR : ∀ h', Heap.SameBut a s.heap h' → SetN knd h' a ks → R (some true) { s with heap := h' }) :
    wpAny (model P w) A (do
        storeSet a es1 tb2
        if (!old && tb2.tooFull) = true then do
            give (relayAll tb2 es1 (SetTable.grown es1.size)).2.2
            storeSet a (relayAll tb2 es1 (SetTable.grown es1.size)).1 (relayAll tb2 es1 (SetTable.grown es1.size)).2.1
            pure (some true)
          else pure (some true)) R E s := by
  refine wpAny_bind (wpAny_storeSet_of hob hdt ?_ (fits_of_scanBound hbd))
  have hob1 := store_at (es' := es1) (t' := tb2) hob hdt
  have but1 := Heap.SameBut.update s.heap a (Obj.putSet es1 tb2)
  split
  · have pe := relayAll_perm tb2 es1 (SetTable.grown es1.size)
    have fi := relayAll_fits tb2 es1 (SetTable.grown es1.size)
    have ri := relayAll_ris tb2 es1 (SetTable.grown es1.size)
    have le := relayAll_led tb2 es1 (SetTable.grown es1.size)
    generalize relayAll tb2 es1 (SetTable.grown es1.size) = out at pe fi ri le ⊢
    obtain ⟨es2, tb3, gave⟩ := out
    dsimp only at pe fi ri le ⊢
    have hsz2 : es2.size = es1.size := by
      have q := pe.length_eq
      rw [Array.length_toList, Array.length_toList] at q
      exact q
    have hbd2 : es2.size < scanBound := hsz2 ▸ hbd
    refine wpAny_bind (hgive _ _ _ ?_)
    refine wpAny_bind (wpAny_storeSet_of hob1 rfl ?_ (fits_of_scanBound hbd2))
    have hob2 := store_at (es' := es2) (t' := tb3) hob1 rfl
    refine wpAny_pure (hR _ (but1.trans (Heap.SameBut.update _ a _)) ?_)
    exact ⟨_, es2, _, tb3, hob2, hex, rfl, fun e he => hall e (pe.mem_iff.mp he), hsz2.trans hsz, hbd2, fi, ri, hled.elim .inl fun z => .inr (le.trans z)⟩
  · exact wpAny_pure (hR _ but1 ⟨_, es1, _, tb2, hob1, hex, rfl, hall, hsz, hbd, hfit, hris, hled⟩)
/-- one more key, which is not among them -/
theorem setN_new {k : κ} {x : Value} {Q : Bool → Shared → Prop} (N : SetN knd s.heap a ks) (hkey : knd.is k x = true) (hscan : x.scannable = true) (hnew : k ∉ ks) (hroom : ks.length + 1 < scanBound)
    (hQ : ∀ h', Heap.SameBut a s.heap h' → SetN knd h' a (k :: ks) → Q true { s with heap := h' }) : wpAny (model P w) A (setAddHashed a x (knd.hash k)) Q E s := by
  obtain ⟨ob, es, ep, tb, hob, hex, hdt, hall, hsz, hbd, hfit, hris, hled⟩ := N
  have elems : ElemsOf knd es.toList := fun e he => by
    obtain ⟨⟨j, _, h2, h3⟩, h4⟩ := hall e he
    exact ⟨⟨j, h2, h3⟩, h4⟩
  have miss : List.findIdx? (fun e : Int × Value => knd.is k e.2) es.toList = none := by
    rw [List.findIdx?_eq_none_iff]
    intro e he
    cases q : knd.is k e.2 with
    | false => rfl
    | true =>
      obtain ⟨⟨j, h1, h2, _⟩, _⟩ := hall e he
      exact absurd (knd.inj e.2 k j q h2 ▸ h1) hnew
  unfold setAddHashed
  unfold setAddHashedIn
  refine wpAny_holding (wpAny_bind (wpAny_setState_of hob hdt hfit ?_))
  dsimp only
  rw [byScan_of hscan hbd elems]
  simp only [↓reduceIte]
  unfold setAddByScan
  refine wpAny_bind ?_
  refine wpAny_bind (wpAny_rule ?_)
  refine wpAny_bind (wpAny_setScan_of hkey hob hdt hfit elems ?_)
  rw [miss]
  dsimp only
  have quiet : ∀ (b : Bool) {s1 : Shared} {Q' : Unit → Shared → Prop}, Q' () s1 → wpAny (model P w) A (match b with | true => rule "set.scan.the-table-gave-way" | false => pure ()) Q' E s1 := fun b s1 Q' q => by
    cases b
    · exact wpAny_pure q
    · exact wpAny_rule q
  have pe := layNew_perm tb es (knd.hash k) x
  have fi := layNew_fits tb es (knd.hash k) x
  have ri := layNew_ris tb es (knd.hash k) x hris
  have le := layNew_led tb es (knd.hash k) x
  generalize layNew tb es (knd.hash k) x = out at pe fi ri le ⊢
  obtain ⟨es1, tb1, old, gave⟩ := out
  dsimp only at pe fi ri le ⊢
  rw [Array.toList_push] at pe
  have hsz1 : es1.size = (k :: ks).length := by
    have q := pe.length_eq
    rw [Array.length_toList, List.length_append, Array.length_toList, hsz] at q
    exact q
  have hbd1 : es1.size < scanBound := by
    rw [hsz1]
    exact hroom
  have hall1 : ∀ e ∈ es1.toList, (∃ j, j ∈ k :: ks ∧ knd.is j e.2 = true ∧ e.1 = knd.hash j) ∧ e.2.scannable = true := fun e he => by
    rcases List.mem_append.mp (pe.mem_iff.mp he) with z | z
    · obtain ⟨⟨j, h1, h2⟩, h3⟩ := hall e z
      exact ⟨⟨j, List.mem_cons_of_mem _ h1, h2⟩, h3⟩
    · rw [List.mem_singleton] at z
      subst z
      exact ⟨⟨k, List.mem_cons_self, hkey, rfl⟩, hscan⟩
  have led1 : w.params.followText "set-order" = true ∨ tb1.led = true := hled.elim .inl fun z => .inr (le.trans z)
  refine wpAny_bind (quiet _ ?_)
  split
  · refine wpAny_bind ?_
    rw [hashByValue_scannable 8 hscan]
    refine wpAny_pure ?_
    refine setN_tail ?_ hob hex hdt hall1 hsz1 hbd1 ?_ ?_ ?_ ?_
    · intro b s1 Q' q
      cases b
      · exact wpAny_pure q
      · exact wpAny_rule q
    · first | (split <;> first | exact fi | exact SetTable.fits_plain_off fi) | exact fi
    · first | (split <;> exact ri) | exact ri
    · first | (split <;> exact led1) | exact led1
    · intro h' but N1
      dsimp only
      exact wpAny_pure (hQ h' but N1)
  · refine wpAny_bind (wpAny_pure ?_)
    simp only [↓reduceIte]
    refine setN_tail ?_ hob hex hdt hall1 hsz1 hbd1 fi ri led1 ?_
    · intro b s1 Q' q
      cases b
      · exact wpAny_pure q
      · exact wpAny_rule q
    · intro h' but N1
      dsimp only
      exact wpAny_pure (hQ h' but N1)
end
section
variable {prog : Program} {w : World} {κ : Type} [DecidableEq κ] {knd : KeyKind prog w κ} {A : Around} {R : Result → Shared → Prop} {I : Addr} {fp wr : List Addr} {G : Array GenState → Array GenState → Prop} {n : Nat} {Pv : Nat → Value → Prop} {St : Nat → Shared → Prop}
/-- set.update's loop over keys that are all different -/
theorem setN_loop (W : WalksS prog w A.in1 I fp wr G n Pv St) (S : Addr) (hfp : S ∉ fp) (ks : List κ) (hlen : ks.length = n) (hdiff : ks.Nodup) (hroom : n + 1 < scanBound)
    (hval : ∀ i v, Pv i v → ∃ k, ks[i]? = some k ∧ knd.is k v = true ∧ v.scannable = true) :
    ∀ (m i : Nat) (s : Shared), n - i = m → i ≤ n → St i s → SetN knd s.heap S (ks.take i).reverse →
      (∀ s', Moved (S :: wr) G s s' → SetN knd s'.heap S ks.reverse → R (.ok (.ret .none)) s') → codeAny (model prog w) A (.builtin "set.update.loop" ⟨[.ref S, .ref I], []⟩) R s := by
  have hwr : S ∉ wr := fun z => hfp (W.sub _ z)
  have more : ∀ b ∈ wr, b ∈ S :: wr := fun b hb => List.mem_cons_of_mem _ hb
  intro m
  induction m with
  | zero =>
    intro i s hm hi st N fin
    obtain rfl : i = n := by omega
    refine codeAny_builtin PyProof.Rows.F.entry_set_update_loop ?_
    rw [Around.under_plainId PyProof.Rows.F.plain_set_update_loop _]
    show wpAny _ A.in1 (pyNext (.ref I) >>= _) _ _ s
    refine wpAny_bind (W.done s _ _ st fun s' mv => ?_)
    show wpAny _ A.in1 (ret Value.none) _ _ s'
    rw [List.take_of_length_le (Nat.le_of_eq hlen)] at N
    exact wpAny_pure (fin s' (mv.mono more) (N.at fun o e => mv.heap S _ hwr e))
  | succ m ih =>
    intro i s hm hi st N fin
    have hlt : i < n := by omega
    refine codeAny_builtin PyProof.Rows.F.entry_set_update_loop ?_
    rw [Around.under_plainId PyProof.Rows.F.plain_set_update_loop _]
    show wpAny _ A.in1 (pyNext (.ref I) >>= _) _ _ s
    refine wpAny_bind (W.item i s _ _ hlt st fun v s1 hv st1 mv => ?_)
    obtain ⟨k, hk, his, hsc⟩ := hval i v hv
    have N1 : SetN knd s1.heap S (ks.take i).reverse := N.at fun o e => mv.heap S _ hwr e
    have hi2 : i < ks.length := hlen ▸ hlt
    have ek : ks[i] = k := by
      rw [List.getElem?_eq_getElem hi2] at hk
      exact Option.some.inj hk
    have fresh : k ∉ (ks.take i).reverse := fun z => by
      rw [List.mem_reverse] at z
      have d := hdiff
      rw [← List.take_append_drop i ks] at d
      exact (List.nodup_append.mp d).2.2 k z k (by rw [List.drop_eq_getElem_cons hi2, ek]; exact List.mem_cons_self) rfl
    have etake : (ks.take (i + 1)).reverse = k :: (ks.take i).reverse := by
      rw [List.take_add_one, hk]
      show (ks.take i ++ [k]).reverse = _
      rw [List.reverse_append]
      rfl
    show wpAny _ A.in1 (holding [v] (setAdd S v) >>= _) _ _ s1
    refine wpAny_bind (wpAny_holding ?_)
    unfold setAdd
    refine wpAny_holding ?_
    refine wpAny_bind (knd.pyHash (k := k) his ?_)
    refine setN_new (s := { s1 with toks := s1.toks + 1 }) N1 his hsc fresh ?_ fun h' but N2 => ?_
    · rw [List.length_reverse, List.length_take]
      omega
    have N3 : SetN knd h' S (ks.take (i + 1)).reverse := by
      rw [etake]
      exact N2
    refine wpAny_pure ⟨plainId_quiet PyProof.Rows.F.plain_set_update_loop _, ih (i + 1) _ (by omega) hlt (W.frame _ s1 _ _ st1 (Nat.le_succ _) fun b hb o e => ?_) N3 fun s2 mv2 N4 => ?_⟩
    · have nb : b ≠ S := fun z => hfp (z ▸ hb)
      rw [but.2 b nb]
      exact e
    · refine fin s2 (Moved.trans W.gtrans ((mv.mono more).then_heap (Nat.le_succ _) fun b o hb e => ?_) mv2) N4
      have nb : b ≠ S := fun z => hb (z ▸ List.mem_cons_self)
      rw [but.2 b nb]
      exact e
end
section
variable {P : Program} {w : World} {κ : Type} [DecidableEq κ] {knd : KeyKind P w κ} {A : Around} {E : Value → Shared → Prop} {s : Shared}
abbrev bareSet (w : World) : Obj := { cls := .type "set", dict := none, data := .set #[] 0 (.fresh 0 0 (!w.params.followText "set-order")) }
theorem setN_bare {h : Heap} {a : Addr} (e : h.get? a = some (bareSet w)) : SetN knd h a [] := by
  refine ⟨_, #[], 0, _, e, ⟨rfl, rfl, rfl⟩, rfl, fun e he => ?_, rfl, by decide, by rfl, List.Pairwise.nil, ?_⟩
  · simp at he
  · show _ ∨ (!w.params.followText "set-order") = true
    cases w.params.followText "set-order"
    · exact .inr rfl
    · exact .inl rfl
set_option maxHeartbeats 3200000 in
/-- set(a list) -/
theorem call_setN {l : Addr} {its : Array Value} {ks : List κ} {Q : Value → Shared → Prop} (hand : A.handled = none) (hlist : s.heap.IsList l its) (hlen : ks.length = its.size) (hdiff : ks.Nodup) (hroom : its.size + 1 < scanBound)
    (hits : ∀ (i : Nat) (v : Value), its[i]? = some v → ∃ k, ks[i]? = some k ∧ knd.is k v = true ∧ v.scannable = true)
    (hQ : ∀ (h' : Heap) (tk : Nat), SetN knd h' s.heap.objs.size ks.reverse → (∀ b o, s.heap.get? b = some o → h'.get? b = some o) → Q (.ref s.heap.objs.size) { s with heap := h', toks := tk }) :
    wpAny (model P w) A (call (.type "set") [.ref l]) Q E s := by
  obtain ⟨c, tl, hmro⟩ := PySem.F.called_set.mro
  have hmade := PySem.F.called_set.made
  have hsub := PySem.F.called_set.sub
  refine wpAny_call (codeAny_of_tree ?_)
  show wpAny _ _ (callAny (.type "set") _) _ _ _
  refine wpAny_pure ⟨Code.quiet_builtin _ (by decide +kernel), codeAny_builtin PySem.F.entry_type_call ?_⟩
  rw [Around.under_plain (weight_type_call_type "set" [.ref l] []) rfl]
  have hnt := PySem.F.called_set.notType
  have hcc := PySem.F.called_set.canCreate
  have hct := PySem.F.typeCall_set_1 (.ref l)
  repeat (any_goals (first | assumption | wp_step))
  refine codeAny_mono (code_set_led1 (.ref l) (E := E) (Q₁ := fun ob s1 => ob = .ref s.heap.objs.size ∧ s1 = { s with heap := s.heap.push (bareSet w) }) ⟨rfl, rfl⟩) fun r s1 hr => ?_
  cases r with
  | error e => exact hr
  | ok fl =>
    cases fl with
    | ret ob =>
      obtain ⟨rfl, rfl⟩ := hr
      have hnew : (s.heap.push (bareSet w)).get? s.heap.objs.size = some (bareSet w) := Heap.get?_push_size _ rfl
      have hty : Shared.TypeIs { s with heap := s.heap.push (bareSet w) } (.ref s.heap.objs.size) "set" := ⟨_, hnew, rfl⟩
      have hli := PySem.F.called_set.init.lookup
      have hbi := PySem.F.called_set.init.bind (.ref s.heap.objs.size)
      repeat (any_goals (first | assumption | wp_step))
      refine codeAny_mono (codeAny_call_builtin (R := wants (fun r s2 => r = .none ∧ ∃ h' tk, s2 = { s with heap := h', toks := tk } ∧ SetN knd h' s.heap.objs.size ks.reverse ∧
          (∀ b o, s.heap.get? b = some o → h'.get? b = some o)) E) PySem.F.called_set.init.plain PySem.F.entry_set_init (check_set_init_1 hty ?_)) fun r2 s2 hr2 => ?_
      · obtain ⟨ol, hol, hcl, nl, hdl⟩ := hlist
        obtain ⟨ocls, odict, odata, oslots⟩ := ol
        simp only at hcl hdl
        subst hcl
        subst hdl
        have hol1 : (s.heap.push (bareSet w)).get? l = some { cls := .type "list", dict := odict, data := .seq its nl, slots := oslots } := Heap.get?_push_of_some _ hol
        have hsls := PySem.F.sub_list_set
        have hslf := PySem.F.sub_list_frozenset
        have hne : (Value.type "list" == Value.type "dict") = false := by decide
        have hl1 : (s.heap.push (bareSet w)).IsList l its := ⟨_, hol1, rfl, nl, rfl⟩
        unfold Builtin.«set.__init__»
        unfold noKeywords
        unfold Builtin.Frozenset.updateFrom
        generalize hPI : pyIter = PI
        wp_walk
        subst hPI
        refine wpAny_pyIter_list hl1 ?_
        refine wpAny_bind (wpAny_runValue ?_)
        have hlS : l < s.heap.objs.size := Heap.lt_size hol
        have hh3 : A.in1.in1.in1.handled = none := by simp [hand]
        have hzz : (s.heap.push (bareSet w)).objs.size = s.heap.objs.size + 1 := Heap.size_push ..
        have hneI : l ≠ (s.heap.push (bareSet w)).objs.size := by
          rw [hzz]
          exact Nat.ne_of_lt (Nat.lt_succ_of_lt hlS)
        have hfp : s.heap.objs.size ∉ [(s.heap.push (bareSet w)).objs.size, l] := by
          rw [hzz]
          intro z
          rcases List.mem_cons.mp z with z | z
          · exact absurd z (Nat.ne_of_lt (Nat.lt_succ_self _))
          · exact absurd (List.mem_singleton.mp z) (Nat.ne_of_gt hlS)
        refine setN_loop (knd := knd) ((Walks.list hh3 _ l hneI its).toS) s.heap.objs.size hfp ks hlen hdiff hroom hits (its.size - 0) 0 _ rfl (Nat.zero_le _) ⟨⟨_, Heap.get?_push_size _ rfl, rfl, rfl⟩, (hl1.push _)⟩ ?hS0 ?hR
        case hS0 => exact setN_bare (Heap.get?_push_of_some _ hnew)
        case hR =>
          intro s3 mv N
          obtain ⟨h', g2, d2, tk2, os2⟩ := s3
          have eg : g2 = s.gens := mv.gens
          have ed : d2 = s.drawn := mv.drawn
          have eo : os2 = s.os := mv.os
          subst eg
          subst ed
          subst eo
          show wpAny _ _ _ _ _ _
          refine wpAny_pure ?_
          show wpAny _ _ (ret Value.none) _ _ _
          refine wpAny_pure ⟨rfl, h', tk2, rfl, N, fun b o e => ?_⟩
          have hb := Heap.lt_size e
          refine mv.heap b o (fun z => ?_) (Heap.get?_push_of_some _ (Heap.get?_push_of_some _ e))
          rcases List.mem_cons.mp z with z | z
          · exact absurd z (Nat.ne_of_lt hb)
          · rw [List.mem_singleton, hzz] at z
            exact absurd z (Nat.ne_of_lt (Nat.lt_succ_of_lt hb))
      · cases r2 with
        | error e => exact hr2
        | ok fl2 =>
          cases fl2 with
          | ret r =>
            obtain ⟨rfl, h', tk, rfl, N, keep⟩ := hr2
            repeat (any_goals (first | assumption | wp_step))
            exact hQ _ _ N keep
          | _ => exact hr2.elim
    | _ => exact hr.elim
end
end Lo
namespace Lo
open PySem PySem.Spec PyProof.Rows L2
section
variable {P : Program} {w : World} {A : Around} {E : Value → Shared → Prop} {s : Shared} {a : Addr}
/-- sorted of a set of texts: as many as there are -/
theorem sorted_setS {ks : List Str} {Q : Value → Shared → Prop} (N : SetN (PySem.strKind P w) s.heap a ks) (hand : A.handled = none) (h64 : ks.length < 64)
    (hQ : ∀ (s2 : Shared) (p : Addr) (out : Array Value) (c : Nat) (ss : List Str), (∀ b o, s.heap.get? b = some o → s2.heap.get? b = some o) → s2.gens = s.gens → s2.os = s.os → s.heap.objs.size ≤ p →
      s2.heap.get? p = some (seqObj "list" out c) → StrsAre out.toList ss → ss.length = ks.length → Q (.ref p) s2) : wpAny (model P w) A (call (.builtin "sorted") [.ref a]) Q E s := by
  obtain ⟨ob, es, ep, tb, hob, hex, hdt, hall, hsz, hbd, hfit, hris, hled⟩ := N
  refine Calls.call_function_entry kind_sorted plain_sorted entry_sorted (args_sorted1 _) ?_
  unfold Builtin.«sorted»
  refine wpAny_bind (m := checkCount "sorted" 1 1 _) (wpAny_pure ?_)
  refine wpAny_bind (collect_set (A := A.in1) hand ⟨ob, hob, hex.1, hdt⟩ hfit hbd hris hled fun s1 vs keep hz eg eo pe => ?_)
  have hlen : vs.length = ks.length := by
    rw [pe.length_eq, List.length_map, Array.length_toList]
    exact hsz
  have hS : StrsAre vs (vs.map strOf) := strsAre_map vs fun v hv => by
    obtain ⟨e, he, q⟩ := List.mem_map.mp (pe.mem_iff.mp hv)
    obtain ⟨⟨k, _, h2, _⟩, _⟩ := hall e he
    obtain ⟨t, ht⟩ := Value.isStrOf_shape (x := k) (v := e.2) h2
    exact ⟨k, t, by rw [← q]; exact ht⟩
  have h64' : vs.length < 64 := by
    rw [hlen]
    exact h64
  refine wpAny_bind (wpAny_newList ?_ (by rw [sizeLine_eq]; omega))
  have hL : (s1.heap.push (seqObj "list" vs.toArray 0)).get? s1.heap.objs.size = some (seqObj "list" vs.toArray 0) := Heap.get?_push_size _ rfl
  refine wpAny_bind (wpAny_holding (wpAny_call_entry slot_list_sort ⟨_, hL, rfl⟩ entry_list_sort (list_sort_treeK strKind_oneLt hL hS.keysOf (fun v1 v2 rest e => keyKind_strs (by rw [← e]; exact hS)) h64' fun st hp hs => ⟨_, rfl, ?_⟩) (args_list_sort _)))
  obtain ⟨ss, h1, h2, _⟩ := sorted_out_str hS hp hs
  obtain ⟨c, hc⟩ := sortedHeap_at (vs := vs) (out := (arrOf st).map (·.2)) hL
  refine wpAny_pure ⟨_, rfl, hQ _ s1.heap.objs.size _ c ss (fun b o e => ?_) eg eo hz hc h1 ?_⟩
  · have q := keep b o e
    have lt := Heap.lt_size q
    show (sortedHeap (s1.heap.push (seqObj "list" vs.toArray 0)) s1.heap.objs.size vs ((arrOf st).map (·.2))).get? b = some o
    rw [sortedHeap_old (Nat.ne_of_lt lt) (by rw [size_push']; exact Nat.lt_succ_of_lt lt)]
    exact Heap.get?_push_of_some _ q
  · rw [h2.length_eq, List.length_map]
    exact hlen
/-- .. of ints -/
theorem sorted_setI {ks : List Int} {Q : Value → Shared → Prop} (N : SetN (intKind P w) s.heap a ks) (hand : A.handled = none) (h64 : ks.length < 64)
    (hQ : ∀ (s2 : Shared) (p : Addr) (out : Array Value) (c : Nat) (ns : List Int), (∀ b o, s.heap.get? b = some o → s2.heap.get? b = some o) → s2.gens = s.gens → s2.os = s.os → s.heap.objs.size ≤ p →
      s2.heap.get? p = some (seqObj "list" out c) → IntsAre out.toList ns → ns.length = ks.length → Q (.ref p) s2) : wpAny (model P w) A (call (.builtin "sorted") [.ref a]) Q E s := by
  obtain ⟨ob, es, ep, tb, hob, hex, hdt, hall, hsz, hbd, hfit, hris, hled⟩ := N
  refine Calls.call_function_entry kind_sorted plain_sorted entry_sorted (args_sorted1 _) ?_
  unfold Builtin.«sorted»
  refine wpAny_bind (m := checkCount "sorted" 1 1 _) (wpAny_pure ?_)
  refine wpAny_bind (collect_set (A := A.in1) hand ⟨ob, hob, hex.1, hdt⟩ hfit hbd hris hled fun s1 vs keep hz eg eo pe => ?_)
  have hlen : vs.length = ks.length := by
    rw [pe.length_eq, List.length_map, Array.length_toList]
    exact hsz
  have hS : IntsAre vs (vs.map Builtin.Re.reRawOf) := ints_of vs fun v hv => by
    obtain ⟨e, he, q⟩ := List.mem_map.mp (pe.mem_iff.mp hv)
    obtain ⟨⟨k, _, h2, _⟩, _⟩ := hall e he
    obtain ⟨t, ht⟩ := Value.isInt_shape (k := k) (v := e.2) h2
    exact ⟨k, t, by rw [← q]; exact ht⟩
  have h64' : vs.length < 64 := by
    rw [hlen]
    exact h64
  refine wpAny_bind (wpAny_newList ?_ (by rw [sizeLine_eq]; omega))
  have hL : (s1.heap.push (seqObj "list" vs.toArray 0)).get? s1.heap.objs.size = some (seqObj "list" vs.toArray 0) := Heap.get?_push_size _ rfl
  refine wpAny_bind (wpAny_holding (wpAny_call_entry slot_list_sort ⟨_, hL, rfl⟩ entry_list_sort (list_sort_tree hL hS h64' fun out ns h1 h2 _ => ⟨_, rfl, ?_⟩) (args_list_sort _)))
  obtain ⟨c, hc⟩ := sortedHeap_at (vs := vs) (out := out) hL
  refine wpAny_pure ⟨_, rfl, hQ _ s1.heap.objs.size _ c ns (fun b o e => ?_) eg eo hz hc h1 ?_⟩
  · have q := keep b o e
    have lt := Heap.lt_size q
    show (sortedHeap (s1.heap.push (seqObj "list" vs.toArray 0)) s1.heap.objs.size vs out).get? b = some o
    rw [sortedHeap_old (Nat.ne_of_lt lt) (by rw [size_push']; exact Nat.lt_succ_of_lt lt)]
    exact Heap.get?_push_of_some _ q
  · rw [h2.length_eq, List.length_map]
    exact hlen
end
/-! ### as rules of the layer -/
def SetSO (P : Program) (w : World) (a : Addr) (n : Nat) : HO := .ext fun h => ∃ ks : List Str, ks.length = n ∧ SetN (PySem.strKind P w) h a ks
def SetIO (P : Program) (w : World) (a : Addr) (n : Nat) : HO := .ext fun h => ∃ ks : List Int, ks.length = n ∧ SetN (intKind P w) h a ks
theorem setSO_new {P : Program} {w : World} {H : Hp} {h : Heap} {a : Addr} {ks : List Str} (N : SetN (PySem.strKind P w) h a ks) : ObjOk P w H h a (SetSO P w a ks.length) := by
  have ⟨ob, _, _, _, hob, _⟩ := N
  exact ⟨⟨ks, rfl, N⟩, ⟨ob, hob⟩, fun h1 h2 ⟨js, e, N1⟩ keep => ⟨js, e, N1.at keep⟩⟩
theorem setIO_new {P : Program} {w : World} {H : Hp} {h : Heap} {a : Addr} {ks : List Int} (N : SetN (intKind P w) h a ks) : ObjOk P w H h a (SetIO P w a ks.length) := by
  have ⟨ob, _, _, _, hob, _⟩ := N
  exact ⟨⟨ks, rfl, N⟩, ⟨ob, hob⟩, fun h1 h2 ⟨js, e, N1⟩ keep => ⟨js, e, N1.at keep⟩⟩
section
variable {X : Cx}
/-- set(xs), texts that are all different -/
theorem cr_setS (hc : X.calm = true) : CallR X (.type "set") (fun xs H Q => ∃ (l : Addr) (zs : List Str), xs = [V.ref l] ∧ SqL X.K H l (zs.map V.str) ∧ zs.Nodup ∧ zs.length < 64 ∧ ∀ a, H a = none → Q (.ref a) (upd H a (SetSO X.prog X.w a zs.length))) := by
  intro pins s σ H xs us Q I r h
  obtain ⟨l, zs, rfl, hl, hd, h64, q⟩ := h
  rw [Vals.ref1 r]
  obtain ⟨its, rv, pl, hz⟩ := I.list hl
  have hn : H s.heap.objs.size = none := I.hok.fresh (Nat.le_refl _)
  have hlen : zs.length = its.toArray.size := by
    have := rv.length
    rw [List.length_map] at this
    simpa using this
  refine call_setN (knd := PySem.strKind X.prog X.w) (ks := zs) (I.ok.hd hc) pl.isList hlen hd (by rw [← hlen]; unfold scanBound; omega) (fun i v hv => ?_) fun h' tk N keep => ?_
  · have hi : i < zs.length := by
      rw [hlen]
      exact (Array.getElem?_eq_some_iff.mp hv).1
    obtain ⟨u, e1, r1⟩ := rv.get (i := i) (x := .str zs[i]) (by rw [List.getElem?_map, List.getElem?_eq_getElem hi]; rfl)
    obtain ⟨t, rfl⟩ := r1
    have ev : v = .str zs[i] t := by
      rw [List.getElem?_toArray, e1] at hv
      exact (Option.some.inj hv).symm
    subst ev
    exact ⟨zs[i], List.getElem?_eq_getElem hi, strKind_is _ _ _ _, rfl⟩
  · have nw := setSO_new (H := upd H s.heap.objs.size (SetSO X.prog X.w s.heap.objs.size zs.reverse.length)) N
    rw [List.length_reverse] at nw
    exact ⟨.ref _, _, I.laid (t' := tk) keep (Nat.le_refl _) nw, rfl, q _ hn⟩
/-- set(xs), ints that are all different -/
theorem cr_setI (hc : X.calm = true) : CallR X (.type "set") (fun xs H Q => ∃ (l : Addr) (zs : List Int), xs = [V.ref l] ∧ SqL X.K H l (zs.map V.int) ∧ zs.Nodup ∧ zs.length < 64 ∧ ∀ a, H a = none → Q (.ref a) (upd H a (SetIO X.prog X.w a zs.length))) := by
  intro pins s σ H xs us Q I r h
  obtain ⟨l, zs, rfl, hl, hd, h64, q⟩ := h
  rw [Vals.ref1 r]
  obtain ⟨its, rv, pl, hz⟩ := I.list hl
  have hn : H s.heap.objs.size = none := I.hok.fresh (Nat.le_refl _)
  have hlen : zs.length = its.toArray.size := by
    have := rv.length
    rw [List.length_map] at this
    simpa using this
  refine call_setN (knd := intKind X.prog X.w) (ks := zs) (I.ok.hd hc) pl.isList hlen hd (by rw [← hlen]; unfold scanBound; omega) (fun i v hv => ?_) fun h' tk N keep => ?_
  · have hi : i < zs.length := by
      rw [hlen]
      exact (Array.getElem?_eq_some_iff.mp hv).1
    obtain ⟨u, e1, r1⟩ := rv.get (i := i) (x := .int zs[i]) (by rw [List.getElem?_map, List.getElem?_eq_getElem hi]; rfl)
    obtain ⟨t, rfl⟩ := r1
    have ev : v = .int zs[i] t := by
      rw [List.getElem?_toArray, e1] at hv
      exact (Option.some.inj hv).symm
    subst ev
    exact ⟨zs[i], List.getElem?_eq_getElem hi, intKind_is _ _ _ _, rfl⟩
  · have nw := setIO_new (H := upd H s.heap.objs.size (SetIO X.prog X.w s.heap.objs.size zs.reverse.length)) N
    rw [List.length_reverse] at nw
    exact ⟨.ref _, _, I.laid (t' := tk) keep (Nat.le_refl _) nw, rfl, q _ hn⟩
/-- sorted(set) of texts -/
theorem cr_sortedN (hc : X.calm = true) : CallR X (.builtin "sorted") (fun xs H Q => ∃ (a : Addr) (n : Nat), xs = [V.ref a] ∧ H a = some (SetSO X.prog X.w a n) ∧ n < 64 ∧ ∀ (ss : List Str) (p : Addr), ss.length = n → H p = none → Q (.ref p) (upd H p (.lst (ss.map V.str)))) := by
  intro pins s σ H xs us Q I r h
  obtain ⟨a, n, rfl, ha, h64, q⟩ := h
  obtain ⟨⟨ks, rfl, N⟩, _⟩ := I.hok a _ ha
  rw [Vals.ref1 r]
  refine sorted_setS N (I.ok.hd hc) h64 fun s2 p out c ss keep eg eo hp hpo hss hlen => ?_
  have hn : H p = none := I.hok.fresh hp
  have hsz : (ss.map V.str).length ≤ sizeLine := by
    rw [List.length_map, hlen, sizeLine_eq]
    omega
  have J : Inv X pins σ (upd H p (.lst (ss.map V.str))) { s with heap := s2.heap, gens := s2.gens, drawn := s2.drawn, toks := s2.toks } :=
    I.call (ch := []) (Un.laid keep hp hn) (I.hok.laid keep hp ⟨hsz, out.toList, c, vals_of_strs hss, hpo⟩) (by rw [eg]; exact I.bare) (fun _ z => nomatch z)
  obtain ⟨h2, g2, d2, t2, o2⟩ := s2
  obtain rfl : o2 = s.os := eo
  exact ⟨.ref p, _, J, rfl, q ss p hlen hn⟩
/-- sorted(set) of ints -/
theorem cr_sortedM (hc : X.calm = true) : CallR X (.builtin "sorted") (fun xs H Q => ∃ (a : Addr) (n : Nat), xs = [V.ref a] ∧ H a = some (SetIO X.prog X.w a n) ∧ n < 64 ∧ ∀ (ns : List Int) (p : Addr), ns.length = n → H p = none → Q (.ref p) (upd H p (.lst (ns.map V.int)))) := by
  intro pins s σ H xs us Q I r h
  obtain ⟨a, n, rfl, ha, h64, q⟩ := h
  obtain ⟨⟨ks, rfl, N⟩, _⟩ := I.hok a _ ha
  rw [Vals.ref1 r]
  refine sorted_setI N (I.ok.hd hc) h64 fun s2 p out c ns keep eg eo hp hpo hss hlen => ?_
  have hn : H p = none := I.hok.fresh hp
  have hsz : (ns.map V.int).length ≤ sizeLine := by
    rw [List.length_map, hlen, sizeLine_eq]
    omega
  have J : Inv X pins σ (upd H p (.lst (ns.map V.int))) { s with heap := s2.heap, gens := s2.gens, drawn := s2.drawn, toks := s2.toks } :=
    I.call (ch := []) (Un.laid keep hp hn) (I.hok.laid keep hp ⟨hsz, out.toList, c, vals_of_ints hss, hpo⟩) (by rw [eg]; exact I.bare) (fun _ z => nomatch z)
  obtain ⟨h2, g2, d2, t2, o2⟩ := s2
  obtain rfl : o2 = s.os := eo
  exact ⟨.ref p, _, J, rfl, q ns p hlen hn⟩
end
end Lo
/-! Sorted texts are told by what is in them; data of texts and rows. -/
namespace Lo
open PySem PySem.Spec L2 PyProof.Rows
def leS (x y : Str) : Prop := x.cps.toList ≤ y.cps.toList
theorem str_ext {x y : Str} (h : x.cps.toList = y.cps.toList) : x = y := by
  obtain ⟨a⟩ := x
  obtain ⟨b⟩ := y
  have e : a = b := Array.ext' h
  rw [e]
theorem leS_of {x y : Str} (h : (!ltCps y.cps.toList x.cps.toList) = true) : leS x y := by
  rw [ltCps_eq, Bool.not_eq_true', decide_eq_false_iff_not] at h
  exact List.not_lt.mp h
theorem rising_pw : ∀ (l : List Str) (p : Str), risingS p l = true → (p :: l).Pairwise leS
  | [], p, _ => List.pairwise_cons.mpr ⟨fun x h => absurd h List.not_mem_nil, List.Pairwise.nil⟩
  | x :: r, p, h => by
    have h2 : (!ltCps x.cps.toList p.cps.toList && risingS x r) = true := h
    rw [Bool.and_eq_true] at h2
    have ih := rising_pw r x h2.2
    have px := leS_of h2.1
    refine List.pairwise_cons.mpr ⟨fun y hy => ?_, ih⟩
    rcases List.mem_cons.mp hy with e | e
    · exact e ▸ px
    · exact List.le_trans px ((List.pairwise_cons.mp ih).1 y e)
theorem sorted_pw : ∀ l : List Str, sortedS l = true → l.Pairwise leS
  | [], _ => List.Pairwise.nil
  | x :: r, h => rising_pw r x h
theorem sorted_one : ∀ (l m : List Str), l.Perm m → l.Pairwise leS → m.Pairwise leS → l = m
  | [], m, p, _, _ => (List.nil_perm.mp p).symm
  | x :: l, [], p, _, _ => absurd p.length_eq (by simp)
  | x :: l, y :: m, p, hl, hm => by
    obtain ⟨l1, l2⟩ := List.pairwise_cons.mp hl
    obtain ⟨m1, m2⟩ := List.pairwise_cons.mp hm
    have e : x = y := by
      rcases List.mem_cons.mp (p.mem_iff.mp (List.mem_cons_self (a := x) (l := l))) with h | h
      · exact h
      · rcases List.mem_cons.mp (p.mem_iff.mpr (List.mem_cons_self (a := y) (l := m))) with h' | h'
        · exact h'.symm
        · exact str_ext (List.le_antisymm (l1 y h') (m1 x h))
    subst e
    rw [sorted_one l m (List.Perm.cons_inv p) l2 m2]
/-- two lists without repetition that have the same things -/
theorem perm_same {α : Type} [DecidableEq α] : ∀ (l m : List α), l.Nodup → m.Nodup → (∀ x, x ∈ l ↔ x ∈ m) → l.Perm m
  | [], m, _, _, h => by
    cases m with
    | nil => exact List.Perm.nil
    | cons y m => exact absurd ((h y).mpr List.mem_cons_self) List.not_mem_nil
  | x :: l, m, hl, hm, h => by
    obtain ⟨h1, h2⟩ := List.nodup_cons.mp hl
    have hx := (h x).mp List.mem_cons_self
    have hp := List.perm_cons_erase hx
    refine (List.Perm.cons x (perm_same l (m.erase x) h2 (hm.erase x) fun y => ?_)).trans hp.symm
    rw [hm.mem_erase_iff]
    constructor
    · intro hy
      exact ⟨fun e => h1 (e ▸ hy), (h y).mp (List.mem_cons_of_mem _ hy)⟩
    · rintro ⟨h3, h4⟩
      exact (List.mem_cons.mp ((h y).mpr h4)).resolve_left h3
theorem sorted_same {l m l' m' : List Str} (p : l'.Perm l) (q : m'.Perm m) (hl : sortedS l' = true) (hm : sortedS m' = true) (h1 : l.Nodup) (h2 : m.Nodup) (h : ∀ x, x ∈ l ↔ x ∈ m) : l' = m' :=
  sorted_one l' m' ((p.trans (perm_same l m h1 h2 h)).trans q.symm) (sorted_pw _ hl) (sorted_pw _ hm)
/-! ### data -/
def strsD (zs : List Str) : PyData := .list (zs.map PyData.str)
def rowD (r : SRow) : PyData := .tuple [.str r.1, .str r.2.1, .int r.2.2]
def rowsD (rows : List SRow) : PyData := .list (rows.map rowD)
def OkR (r : SRow) : Prop := PyData.strOk r.1 = true ∧ PyData.strOk r.2.1 = true
theorem lay_strs : ∀ zs : List Str, (∀ z ∈ zs, PyData.strOk z = true) → PyData.canLayAll0 (zs.map PyData.str) = true
  | [], _ => rfl
  | z :: zs, h => by
    have h1 := h z List.mem_cons_self
    have h2 := lay_strs zs fun x hx => h x (List.mem_cons_of_mem _ hx)
    simp [PyData.canLayAll0, PyData.canLay0, h1, h2]
theorem deep_strs : ∀ zs : List Str, PyData.depthAll (zs.map PyData.str) = 0
  | [] => rfl
  | z :: zs => by simp [PyData.depthAll, PyData.depth, deep_strs zs]
theorem shaped_strs {zs : List Str} (h : ∀ z ∈ zs, PyData.strOk z = true) : SeqAt.shaped (strsD zs) = true := by
  unfold strsD
  simp [SeqAt.shaped, PyData.canLay0, PyData.depth, lay_strs zs h, deep_strs]
theorem lay_rows : ∀ rows : List SRow, (∀ r ∈ rows, OkR r) → PyData.canLayAll0 (rows.map rowD) = true
  | [], _ => rfl
  | r :: rows, h => by
    obtain ⟨h1, h2⟩ := h r List.mem_cons_self
    have h3 := lay_rows rows fun x hx => h x (List.mem_cons_of_mem _ hx)
    simp [PyData.canLayAll0, PyData.canLay0, rowD, h1, h2, h3]
theorem deep_rows : ∀ rows : List SRow, PyData.depthAll (rows.map rowD) ≤ 1
  | [] => by simp [PyData.depthAll]
  | r :: rows => by
    have ih := deep_rows rows
    simp [PyData.depthAll, PyData.depth, rowD]
    omega
theorem shaped_rows {rows : List SRow} (hr : ∀ r ∈ rows, OkR r) : SeqAt.shaped (rowsD rows) = true := by
  have h := deep_rows rows
  unfold rowsD
  simp [SeqAt.shaped, PyData.canLay0, PyData.depth, lay_rows rows hr]
  omega
theorem eqv_strs : ∀ zs : List Str, PyData.eqvAll (zs.map PyData.str) (zs.map PyData.str) = true
  | [] => by simp [PyData.eqvAll]
  | z :: zs => by simp [PyData.eqvAll, PyData.eqv, eqv_strs zs]
theorem eqv_strsD (zs : List Str) : PyData.eqv (strsD zs) (strsD zs) = true := by
  unfold strsD
  simp [PyData.eqv, eqv_strs]
theorem eqv_rows : ∀ rows : List SRow, PyData.eqvAll (rows.map rowD) (rows.map rowD) = true
  | [] => by simp [PyData.eqvAll]
  | r :: rows => by simp [PyData.eqvAll, PyData.eqv, rowD, eqv_rows rows]
theorem eqv_rowsD (rows : List SRow) : PyData.eqv (rowsD rows) (rowsD rows) = true := by
  unfold rowsD
  simp [PyData.eqv, eqv_rows]
theorem eqv_rows0 (rows : List SRow) : PyData.eqv (rowsD rows) (.list []) = decide (rows = []) := by
  cases rows with
  | nil =>
    unfold rowsD
    simp [PyData.eqv, PyData.eqvAll]
  | cons r rows =>
    unfold rowsD
    simp [PyData.eqv, PyData.eqvAll]
theorem dp_strs {K : PySem.W.Frag} {H : Hp} : ∀ zs : List Str, DpAll K H (zs.map V.str) (zs.map PyData.str)
  | [] => .nil
  | z :: zs => .cons (.str z) (dp_strs zs)
theorem dp_rows {K : PySem.W.Frag} {H : Hp} : ∀ (ps : List Addr) (rows : List SRow), ps.length = rows.length → (∀ (i : Nat) (p : Addr) (r : SRow), ps[i]? = some p → rows[i]? = some r → RowT H p r) → DpAll K H (ps.map V.ref) (rows.map rowD)
  | [], [], _, _ => .nil
  | p :: ps, r :: rows, hl, h => .cons (.tup (SqT.of (h 0 p r rfl rfl)) (.cons (.str _) (.cons (.str _) (.cons (.int _) .nil)))) (dp_rows ps rows (Nat.succ.inj hl) fun i p' r' h1 h2 => h (i + 1) p' r' h1 h2)
  | [], _ :: _, hl, _ => absurd hl (by simp)
  | _ :: _, [], hl, _ => absurd hl (by simp)
theorem dp_sys {K : PySem.W.Frag} {H : Hp} {a : Addr} {rows : List SRow} (h : Sys RowT H a rows) : Dp K H (.ref a) (rowsD rows) := by
  obtain ⟨ps, h1, h2, h3⟩ := h
  exact .lst (SqL.of h1) (dp_rows ps rows h2 h3)
end Lo
/-! The greatest values of a system as one function; one more row. -/
namespace Lo
section
variable {α : Type} [DecidableEq α]
variable {rows : List (Row α)} {v : α → Int}
theorem told_trans {a b c : α} {x y : Int} (h : Told rows a b x) (k : Told rows b c y) : Told rows a c (x + y) := fun u hu => by
  have h1 := h u hu
  have h2 := k u hu
  omega
theorem told_le {a b : α} {x y : Int} (h : Told rows a b x) (k : x ≤ y) : Told rows a b y := fun u hu => by
  have := h u hu
  omega
theorem best_one {a b : α} {r r' : Option Int} (h : Best rows a b r) (k : Best rows a b r') : r = r' := by
  cases r with
  | none =>
    cases r' with
    | none => rfl
    | some y => exact absurd (k.1 y rfl) (h.2 y fun z e => nomatch e)
  | some x =>
    cases r' with
    | none => exact absurd (h.1 x rfl) (k.2 x fun z e => nomatch e)
    | some y =>
      have h1 : ¬ x < y := fun l => k.2 x (fun z e => by injection e with e; omega) (h.1 x rfl)
      have h2 : ¬ y < x := fun l => h.2 y (fun z e => by injection e with e; omega) (k.1 y rfl)
      have : x = y := by omega
      rw [this]
/-- a least integer with a property that none below a bound has -/
theorem least_int {p : Int → Prop} (lo : Int) (h : ∀ n, p n → lo ≤ n) {n : Int} (hn : p n) : ∃ m, p m ∧ ∀ n, p n → m ≤ n := by
  have key : ∀ d : Nat, ∀ n, p n → n - lo ≤ d → ∃ m, p m ∧ ∀ n, p n → m ≤ n := by
    intro d
    induction d with
    | zero =>
      intro n hn hd
      exact ⟨n, hn, fun k hk => by have := h k hk; have := h n hn; omega⟩
    | succ d ih =>
      intro n hn hd
      by_cases e : ∃ k, p k ∧ k < n
      · obtain ⟨k, hk, hlt⟩ := e
        exact ih k hk (by omega)
      · exact ⟨n, hn, fun k hk => by
          have : ¬ k < n := fun z => e ⟨k, hk, z⟩
          omega⟩
  exact key (n - lo).toNat n hn (by have := h n hn; omega)
theorem best_is (hv : Sat rows v) (a b : α) : ∃ r, Best rows a b r := by
  by_cases h : ∃ n, Told rows a b n
  · obtain ⟨n, hn⟩ := h
    obtain ⟨m, hm, hle⟩ := least_int (p := Told rows a b) (v a - v b) (fun n t => t v hv) hn
    refine ⟨some m, fun k e => by injection e with e; exact e ▸ hm, fun n hlt t => ?_⟩
    have h1 := hlt m rfl
    have h2 := hle n t
    omega
  · exact ⟨none, fun k e => (nomatch e), fun n _ t => h ⟨n, t⟩⟩
open Classical in
/-- the greatest value of a minus b -/
noncomputable def D (rows : List (Row α)) (a b : α) : Option Int := if h : ∃ r, Best rows a b r then Classical.choose h else none
theorem d_best (hv : Sat rows v) (a b : α) : Best rows a b (D rows a b) := by
  have h := best_is hv a b
  unfold D
  rw [dif_pos h]
  exact Classical.choose_spec h
theorem d_of (hv : Sat rows v) {a b : α} {r : Option Int} (h : Best rows a b r) : D rows a b = r := best_one (d_best hv a b) h
theorem d_self (hv : Sat rows v) (a : α) : D rows a a = some 0 := best_self hv (d_best hv a a)
theorem d_told (hv : Sat rows v) {a b : α} {x : Int} (h : D rows a b = some x) : Told rows a b x := (d_best hv a b).1 x h
theorem told_d (hv : Sat rows v) {a b : α} {x : Int} (h : Told rows a b x) : ∃ y, D rows a b = some y ∧ y ≤ x := by
  have B := d_best hv a b
  cases e : D rows a b with
  | none =>
    rw [e] at B
    exact absurd h (B.2 x fun k z => nomatch z)
  | some y =>
    rw [e] at B
    refine ⟨y, rfl, ?_⟩
    have : ¬ x < y := fun l => B.2 x (fun k z => by injection z with z; omega) h
    omega
theorem d_tri (hv : Sat rows v) {a b c : α} {x y : Int} (h : D rows a b = some x) (k : D rows b c = some y) : ∃ z, D rows a c = some z ∧ z ≤ x + y := told_d hv (told_trans (d_told hv h) (d_told hv k))
theorem d_back (hv : Sat rows v) {a b : α} {x y : Int} (h : D rows a b = some x) (k : D rows b a = some y) : 0 ≤ x + y := by
  obtain ⟨z, e, hz⟩ := d_tri hv h k
  rw [d_self hv] at e
  injection e with e
  omega
theorem d_row (hv : Sat rows v) {a b : α} {c : Int} (h : (a, b, c) ∈ rows) : ∃ x, D rows a b = some x ∧ x ≤ c := told_d hv (told_own h)
/-- sums that are sound and closed under the rows are the greatest values -/
theorem closed_best {a : α} {f : α → Option Int} (fa : f a = some 0) (snd : ∀ y k, f y = some k → Told rows a y k) (cl : ∀ r ∈ rows, ∀ k, f r.1 = some k → ∃ k', f r.2.1 = some k' ∧ k' ≤ k + r.2.2) (hv : Sat rows v) (y : α) : Best rows a y (f y) := by
  refine ⟨fun k e => snd y k e, fun n hn t => ?_⟩
  have hu : Sat rows (fun x => match f x with | some k => -k | none => v x - ((((rows.map fun r => (v r.1 + (f r.2.1).getD 0 - r.2.2).natAbs).sum : Nat) : Int) + ((n + 1 + v y).natAbs : Int))) := by
    intro r hr
    have hb : v r.1 + (f r.2.1).getD 0 - r.2.2 ≤ _ := big_le (fun r => v r.1 + (f r.2.1).getD 0 - r.2.2) hr
    have hs := hv r hr
    cases e1 : f r.1 with
    | some k =>
      obtain ⟨k', e2, hle⟩ := cl r hr k e1
      simp only [e1, e2]
      omega
    | none =>
      cases e2 : f r.2.1 with
      | some k' =>
        simp only [e1, e2]
        rw [e2] at hb
        simp only [Option.getD_some] at hb
        omega
      | none =>
        simp only [e1, e2]
        omega
  have h1 := t _ hu
  simp only [fa] at h1
  cases e : f y with
  | some k =>
    simp only [e] at h1
    have := hn k e
    omega
  | none =>
    simp only [e] at h1
    omega
/-- a side that no row has -/
theorem d_alone (hv : Sat rows v) {a : α} (h : ∀ r ∈ rows, r.1 ≠ a) (y : α) : D rows a y = if y = a then some 0 else none := by
  refine d_of hv (closed_best (f := fun y => if y = a then some 0 else none) (if_pos rfl) (fun y k e => ?_) (fun r hr k e => ?_) hv y)
  · by_cases z : y = a
    · subst z
      simp only [if_true] at e
      injection e with e
      subst e
      intro u hu
      omega
    · simp only [if_neg z] at e
      cases e
  · simp only [if_neg (h r hr)] at e
    cases e
/-- the lesser one -/
def minO : Option Int → Option Int → Option Int
  | some x, some y => some (if y < x then y else x)
  | some x, none => some x
  | none, y => y
def addO (x : Option Int) (c : Int) (y : Option Int) : Option Int := match x, y with
  | some a, some b => some (a + c + b)
  | _, _ => none
theorem minO_le {x y : Option Int} {k : Int} (h : x = some k) : ∃ m, minO x y = some m ∧ m ≤ k := by
  subst h
  cases y with
  | none => exact ⟨k, rfl, Int.le_refl _⟩
  | some b =>
    refine ⟨_, rfl, ?_⟩
    split
    · omega
    · omega
theorem minO_le2 {x y : Option Int} {k : Int} (h : y = some k) : ∃ m, minO x y = some m ∧ m ≤ k := by
  subst h
  cases x with
  | none => exact ⟨k, rfl, Int.le_refl _⟩
  | some b =>
    refine ⟨_, rfl, ?_⟩
    split
    · omega
    · omega
theorem minO_or {x y : Option Int} {k : Int} (h : minO x y = some k) : x = some k ∨ y = some k := by
  cases x with
  | none => exact .inr h
  | some a =>
    cases y with
    | none => exact .inl h
    | some b =>
      have h' : some (if b < a then b else a) = some k := h
      injection h' with h'
      by_cases l : b < a
      · rw [if_pos l] at h'
        exact .inr (by rw [h'])
      · rw [if_neg l] at h'
        exact .inl (by rw [h'])
/-- one more row: is there a solution still? -/
theorem more_sat (hv : Sat rows v) {l r : α} {c : Int} (h : ∀ b, D rows r l = some b → 0 ≤ b + c) : ∃ u, Sat (rows ++ [(l, r, c)]) u := by
  have B := d_best hv r l
  have hn : ¬ Told rows r l (-c - 1) := fun t => by
    obtain ⟨y, e, hy⟩ := told_d hv t
    have := h y e
    omega
  have : ∃ u, Sat rows u ∧ ¬ u r - u l ≤ -c - 1 := Classical.byContradiction fun k => hn fun u hu => Classical.byContradiction fun j => k ⟨u, hu, j⟩
  obtain ⟨u, h1, h2⟩ := this
  refine ⟨u, fun q hq => ?_⟩
  rcases List.mem_append.mp hq with m | m
  · exact h1 q m
  · rw [List.mem_singleton] at m
    subst m
    show u l - u r ≤ c
    omega
theorem more_none (hv : Sat rows v) {l r : α} {c b : Int} (h : D rows r l = some b) (hb : b + c < 0) (u : α → Int) : ¬ Sat (rows ++ [(l, r, c)]) u := fun hu => by
  have h1 := d_told hv h u fun q hq => hu q (List.mem_append_left _ hq)
  have h2 := hu (l, r, c) (List.mem_append_right _ (List.mem_singleton.mpr rfl))
  simp only at h2
  omega
theorem sub_sat {q : Row α} {u : α → Int} (h : Sat (rows ++ [q]) u) : Sat rows u := fun r hr => h r (List.mem_append_left _ hr)
/-- one more row: the greatest values -/
theorem more_d (hv : Sat rows v) {l r : α} {c : Int} {u : α → Int} (hu : Sat (rows ++ [(l, r, c)]) u) (a y : α) : D (rows ++ [(l, r, c)]) a y = minO (D rows a y) (addO (D rows a l) c (D rows r y)) := by
  have new : Told (rows ++ [(l, r, c)]) l r c := told_own (List.mem_append_right _ (List.mem_singleton.mpr rfl))
  have up : ∀ {a b : α} {x : Int}, D rows a b = some x → Told (rows ++ [(l, r, c)]) a b x := fun e w hw => d_told hv e w (sub_sat hw)
  have nn : ∀ b, D rows r l = some b → 0 ≤ b + c := fun b e => by
    have : ¬ b + c < 0 := fun z => more_none hv e z u hu
    omega
  have cyc : ∀ {a : α} {x y : Int}, D rows a l = some x → D rows r a = some y → 0 ≤ x + c + y := fun {a x y} h1 h2 => by
    obtain ⟨z, e, hz⟩ := d_tri hv h2 h1
    have := nn z e
    omega
  refine d_of hu (closed_best (a := a) (f := fun y => minO (D rows a y) (addO (D rows a l) c (D rows r y))) ?_ (fun y k e => ?_) (fun q hq k e => ?_) hu y)
  · show minO (D rows a a) (addO (D rows a l) c (D rows r a)) = some 0
    rw [d_self hv]
    cases e1 : D rows a l with
    | none => rfl
    | some x =>
      cases e2 : D rows r a with
      | none => rfl
      | some y =>
        have := cyc e1 e2
        show some (if x + c + y < 0 then x + c + y else 0) = some 0
        rw [if_neg (by omega)]
  · rcases minO_or e with e | e
    · exact up e
    · cases e1 : D rows a l with
      | none =>
        rw [e1] at e
        cases e
      | some x =>
        cases e2 : D rows r y with
        | none =>
          rw [e1, e2] at e
          cases e
        | some z =>
          rw [e1, e2] at e
          have e : some (x + c + z) = some k := e
          injection e with e
          subst e
          exact told_trans (told_trans (up e1) new) (up e2)
  · rcases List.mem_append.mp hq with m | m
    · obtain ⟨x, ex, hx⟩ := d_row hv (show (q.1, q.2.1, q.2.2) ∈ rows from m)
      rcases minO_or e with e | e
      · obtain ⟨z, ez, hz⟩ := d_tri hv e ex
        obtain ⟨m', em, hm⟩ := minO_le (y := addO (D rows a l) c (D rows r q.2.1)) ez
        exact ⟨m', em, by omega⟩
      · cases e1 : D rows a l with
        | none =>
          rw [e1] at e
          cases e
        | some x1 =>
          cases e2 : D rows r q.1 with
          | none =>
            rw [e1, e2] at e
            cases e
          | some x2 =>
            rw [e1, e2] at e
            have e : some (x1 + c + x2) = some k := e
            injection e with e
            obtain ⟨z, ez, hz⟩ := d_tri hv e2 ex
            obtain ⟨m', em, hm⟩ := minO_le2 (x := D rows a q.2.1) (y := addO (D rows a l) c (D rows r q.2.1)) (k := x1 + c + z) (by rw [e1, ez]; rfl)
            exact ⟨m', by rw [e1] at em; exact em, by omega⟩
    · rw [List.mem_singleton] at m
      subst m
      obtain ⟨m', em, hm⟩ : ∃ m', minO (D rows a r) (addO (D rows a l) c (D rows r r)) = some m' ∧ m' ≤ k + c := by
        have hl : ∃ x, D rows a l = some x ∧ x ≤ k := by
          rcases minO_or e with e | e
          · exact ⟨k, e, Int.le_refl _⟩
          · cases e1 : D rows a l with
            | none =>
              rw [e1] at e
              cases e
            | some x1 =>
              cases e2 : D rows r l with
              | none =>
                rw [e1, e2] at e
                cases e
              | some x2 =>
                rw [e1, e2] at e
                have e : some (x1 + c + x2) = some k := e
                injection e with e
                have := nn x2 e2
                exact ⟨x1, rfl, by omega⟩
        obtain ⟨x, e1, hx⟩ := hl
        obtain ⟨m', em, hm⟩ := minO_le2 (x := D rows a r) (y := addO (D rows a l) c (D rows r r)) (k := x + c + 0) (by rw [e1, d_self hv]; rfl)
        exact ⟨m', em, by omega⟩
      exact ⟨m', em, hm⟩
/-- a row that is told already -/
theorem more_told (hv : Sat rows v) {l r : α} {c : Int} (h : Told rows l r c) (a y : α) : Sat (rows ++ [(l, r, c)]) v ∧ D (rows ++ [(l, r, c)]) a y = D rows a y := by
  have same : ∀ u, Sat rows u ↔ Sat (rows ++ [(l, r, c)]) u := fun u => ⟨fun hu q hq => by
    rcases List.mem_append.mp hq with m | m
    · exact hu q m
    · rw [List.mem_singleton] at m
      subst m
      exact h u hu, sub_sat⟩
  have tl : ∀ n, Told (rows ++ [(l, r, c)]) a y n ↔ Told rows a y n := fun n => ⟨fun t u hu => t u ((same u).mp hu), fun t u hu => t u ((same u).mpr hu)⟩
  refine ⟨(same v).mp hv, d_of ((same v).mp hv) ⟨fun k e => (tl k).mpr ((d_best hv a y).1 k e), fun n hn t => (d_best hv a y).2 n hn ((tl n).mp t)⟩⟩
end
end Lo
/-! The fewest rows that tell the same: why they tell all, and why none of them is told by the others. -/
namespace Lo
section
variable {α : Type} [DecidableEq α]
variable {rows : List (Row α)} {v : α → Int}
theorem path_told {a b : α} {l : List Nat} {s : Int} (h : Path rows a l b s) : Told rows a b s := by
  induction h with
  | nil a =>
    intro u hu
    omega
  | cons hj h ih => exact told_trans (told_own (List.mem_of_getElem? hj)) ih
open Classical in
theorem told_path (hv : Sat rows v) {a b : α} {k : Int} (h : Told rows a b k) : ∃ l s, Path rows a l b s ∧ s ≤ k := by
  let Pm : α → Int → Prop := fun y m => ∃ l, Path rows a l y m
  have low : ∀ y m, Pm y m → v a - v y ≤ m := fun y m ⟨l, hp⟩ => path_told hp v hv
  let f : α → Option Int := fun y => if h : ∃ m, Pm y m ∧ ∀ n, Pm y n → m ≤ n then some (Classical.choose h) else none
  have fspec : ∀ y k, f y = some k → Pm y k ∧ ∀ n, Pm y n → k ≤ n := by
    intro y k e
    by_cases h : ∃ m, Pm y m ∧ ∀ n, Pm y n → m ≤ n
    · have e1 : f y = some (Classical.choose h) := dif_pos h
      rw [e1] at e
      injection e with e
      exact e ▸ Classical.choose_spec h
    · have e1 : f y = none := dif_neg h
      rw [e1] at e
      cases e
  have fhas : ∀ y m, Pm y m → ∃ k, f y = some k ∧ k ≤ m := by
    intro y m hm
    have h := least_int (p := Pm y) (v a - v y) (low y) hm
    have e1 : f y = some (Classical.choose h) := dif_pos h
    exact ⟨_, e1, (Classical.choose_spec h).2 m hm⟩
  have fa : f a = some 0 := by
    obtain ⟨k, e, hk⟩ := fhas a 0 ⟨[], .nil a⟩
    have := low a k (fspec a k e).1
    have : k = 0 := by omega
    rw [e, this]
  have B := closed_best (a := a) (f := f) fa (fun y k e => by
    obtain ⟨⟨l, hp⟩, _⟩ := fspec y k e
    exact path_told hp) (fun r hr k e => by
    obtain ⟨⟨l, hp⟩, _⟩ := fspec _ k e
    obtain ⟨j, hj, ej⟩ := List.getElem_of_mem hr
    exact fhas r.2.1 (k + r.2.2) ⟨_, hp.snoc (j := j) (x := r.2.1) (c := r.2.2) (by rw [List.getElem?_eq_getElem hj, ej])⟩) hv b
  obtain ⟨x, e, hx⟩ := told_d hv h
  rw [d_of hv B] at e
  obtain ⟨⟨l, hp⟩, _⟩ := fspec b x e
  exact ⟨l, x, hp, hx⟩
/-! ### sides that are tied -/
/-- a and b are tied: their difference is one number at all solutions -/
def Eqv (rows : List (Row α)) (a b : α) : Prop := ∃ x, D rows a b = some x ∧ D rows b a = some (-x)
theorem eqv_refl (hv : Sat rows v) (a : α) : Eqv rows a a := ⟨0, d_self hv a, by rw [d_self hv]; rfl⟩
theorem Eqv.symm {a b : α} (h : Eqv rows a b) : Eqv rows b a := by
  obtain ⟨x, h1, h2⟩ := h
  exact ⟨-x, h2, by rw [h1, Int.neg_neg]⟩
theorem eqv_of (hv : Sat rows v) {a b : α} {x y : Int} (h1 : D rows a b = some x) (h2 : D rows b a = some y) (h : x + y ≤ 0) : Eqv rows a b := by
  have := d_back hv h1 h2
  have e : y = -x := by omega
  exact ⟨x, h1, by rw [h2, e]⟩
theorem Eqv.trans (hv : Sat rows v) {a b c : α} (h : Eqv rows a b) (k : Eqv rows b c) : Eqv rows a c := by
  obtain ⟨x, h1, h2⟩ := h
  obtain ⟨y, k1, k2⟩ := k
  obtain ⟨z, e1, hz⟩ := d_tri hv h1 k1
  obtain ⟨w, e2, hw⟩ := d_tri hv k2 h2
  exact eqv_of hv e1 e2 (by omega)
/-- the difference of tied sides -/
theorem Eqv.val (hv : Sat rows v) {a b : α} (h : Eqv rows a b) : D rows a b = some (v a - v b) := by
  obtain ⟨x, h1, h2⟩ := h
  have a1 := d_told hv h1 v hv
  have a2 := d_told hv h2 v hv
  have : x = v a - v b := by omega
  rw [h1, this]
/-- m is on a shortest way from a to b -/
def Tight (rows : List (Row α)) (a m b : α) : Prop := ∃ x y z, D rows a m = some x ∧ D rows m b = some y ∧ D rows a b = some z ∧ x + y ≤ z
/-- what makes rows E the fewest -/
structure Edges (rows E : List (Row α)) (hs : List α) : Prop where
  own : ∀ x y c, (x, y, c) ∈ E → x ≠ y ∧ D rows x y = some c
  succ : ∀ x y c y' c', (x, y, c) ∈ E → (x, y', c') ∈ E → Eqv rows x y → Eqv rows x y' → y = y'
  lead : ∀ x y c, (x, y, c) ∈ E → ¬ Eqv rows x y → x ∈ hs ∧ y ∈ hs ∧ ∀ m ∈ hs, m ≠ x → m ≠ y → ¬ Tight rows x m y
  two : ∀ (A B : List (Row α)) (p : Row α), E = A ++ p :: B → ∀ q ∈ A ++ B, ¬ (q.1 = p.1 ∧ q.2.1 = p.2.1)
  one : ∀ a ∈ hs, ∀ b ∈ hs, Eqv rows a b → a = b
variable {E : List (Row α)} {hs : List α}
theorem Edges.told (N : Edges rows E hs) (hv : Sat rows v) : Sat E v := fun q hq => by
  obtain ⟨x, y, c⟩ := q
  exact d_told hv (N.own x y c hq).2 v hv
theorem path_d (hv : Sat rows v) {G : List (Row α)} (hG : ∀ x y c, (x, y, c) ∈ G → D rows x y = some c) {a b : α} {l : List Nat} {s : Int} (h : Path G a l b s) : ∃ z, D rows a b = some z ∧ z ≤ s := by
  induction h with
  | nil a => exact ⟨0, d_self hv a, Int.le_refl _⟩
  | cons hj h ih =>
    obtain ⟨z, e, hz⟩ := ih
    obtain ⟨w, e2, hw⟩ := d_tri hv (hG _ _ _ (List.mem_of_getElem? hj)) e
    exact ⟨w, e2, by omega⟩
/-- none of them is told by the others -/
theorem Edges.needed (N : Edges rows E hs) (hv : Sat rows v) {A B : List (Row α)} {L R : α} {k : Int} (hE : E = A ++ (L, R, k) :: B) : ¬ Told (A ++ B) L R k := by
  intro t
  have hf : (L, R, k) ∈ E := by
    rw [hE]
    exact List.mem_append_right _ List.mem_cons_self
  have hG : ∀ q ∈ A ++ B, q ∈ E := fun q hq => by
    rw [hE]
    rcases List.mem_append.mp hq with h | h
    · exact List.mem_append_left _ h
    · exact List.mem_append_right _ (List.mem_cons_of_mem _ h)
  have hGd : ∀ x y c, (x, y, c) ∈ A ++ B → D rows x y = some c := fun x y c h => (N.own x y c (hG _ h)).2
  have notf : ∀ c, (L, R, c) ∉ A ++ B := fun c h => N.two A B _ hE _ h ⟨rfl, rfl⟩
  have satG : Sat (A ++ B) v := fun q hq => N.told hv q (hG q hq)
  obtain ⟨nlr, hk⟩ := N.own L R k hf
  obtain ⟨l, s, hp, hs'⟩ := told_path satG t
  by_cases tied : Eqv rows L R
  · cases hp with
    | nil => exact nlr rfl
    | @cons _ y _ j c s' l' hj hp' =>
      have hm := List.mem_of_getElem? hj
      obtain ⟨z, ez, hz⟩ := path_d hv hGd hp'
      obtain ⟨x, ex, ex'⟩ := tied
      rw [hk] at ex
      injection ex with ex
      subst ex
      obtain ⟨w, ew, hw⟩ := d_tri hv ez ex'
      have t1 : Eqv rows L y := eqv_of hv (hGd _ _ _ hm) ew (by omega)
      have e := N.succ L y c R k (hG _ hm) hf t1 ⟨k, hk, ex'⟩
      subst e
      exact notf _ hm
  · obtain ⟨hL, hR, hmid⟩ := N.lead L R k hf tied
    have key : ∀ {x r : α} {l : List Nat} {s : Int}, Path (A ++ B) x l r s → r = R → Eqv rows L x → (∃ p, D rows L x = some p ∧ p + s ≤ k) → False := by
      intro x r l s hp
      induction hp with
      | nil x =>
        intro e t1 _
        subst e
        exact tied t1
      | @cons x y r j c s' l' hj hp' ih =>
        intro e t1 ⟨p, ep, hps⟩
        subst e
        have hm := List.mem_of_getElem? hj
        obtain ⟨q, eq, hq⟩ := d_tri hv ep (hGd _ _ _ hm)
        by_cases t2 : Eqv rows L y
        · exact ih rfl t2 ⟨q, eq, by omega⟩
        · have t3 : ¬ Eqv rows x y := fun z => t2 (t1.trans hv z)
          obtain ⟨hx, hy, _⟩ := N.lead x y c (hG _ hm) t3
          have ex := N.one L hL x hx t1
          subst ex
          by_cases yr : y = r
          · subst yr
            exact notf _ hm
          · obtain ⟨z, ez, hz⟩ := path_d hv hGd hp'
            exact hmid y hy (fun e => t2 (e ▸ eqv_refl hv _)) yr ⟨q, z, k, eq, ez, hk, by omega⟩
    exact key hp rfl (eqv_refl hv L) ⟨0, d_self hv L, by omega⟩
open Classical in
noncomputable def between (rows : List (Row α)) (hs : List α) (a b : α) : Nat := (hs.filter fun m => decide (Tight rows a m b)).length
theorem filter_lt {p q : α → Bool} : ∀ (l : List α), (∀ x ∈ l, p x = true → q x = true) → (∃ x ∈ l, q x = true ∧ p x = false) → (l.filter p).length < (l.filter q).length
  | [], _, h => by
    obtain ⟨x, hx, _⟩ := h
    exact absurd hx List.not_mem_nil
  | a :: l, h, h2 => by
    have mono : (l.filter p).length ≤ (l.filter q).length := by
      clear h2
      induction l with
      | nil => exact Nat.le_refl _
      | cons b l ih =>
        have ih := ih fun x hx => h x (by
          rcases List.mem_cons.mp hx with e | e
          · exact e ▸ List.mem_cons_self
          · exact List.mem_cons_of_mem _ (List.mem_cons_of_mem _ e))
        have hb := h b (List.mem_cons_of_mem _ List.mem_cons_self)
        rw [List.filter_cons, List.filter_cons]
        cases eq : q b with
        | true =>
          cases ep : p b with
          | true =>
            simp only [if_true, List.length_cons]
            omega
          | false =>
            simp
            omega
        | false =>
          cases ep : p b with
          | true =>
            rw [hb ep] at eq
            cases eq
          | false =>
            simp
            omega
    have ha := h a List.mem_cons_self
    by_cases d : q a = true ∧ p a = false
    · rw [List.filter_cons_of_pos d.1, List.filter_cons_of_neg (by rw [d.2]; exact fun z => nomatch z), List.length_cons]
      omega
    · have h3 : ∃ x ∈ l, q x = true ∧ p x = false := by
        obtain ⟨x, hx, h4⟩ := h2
        rcases List.mem_cons.mp hx with e | e
        · subst e
          exact absurd h4 d
        · exact ⟨x, e, h4⟩
      have ih := filter_lt l (fun x hx => h x (List.mem_cons_of_mem _ hx)) h3
      cases eq : q a with
      | true =>
        cases ep : p a with
        | true =>
          rw [List.filter_cons_of_pos ep, List.filter_cons_of_pos eq, List.length_cons, List.length_cons]
          omega
        | false => exact absurd ⟨eq, ep⟩ d
      | false =>
        cases ep : p a with
        | true =>
          rw [ha ep] at eq
          cases eq
        | false =>
          rw [List.filter_cons_of_neg (by rw [ep]; exact fun z => nomatch z), List.filter_cons_of_neg (by rw [eq]; exact fun z => nomatch z)]
          exact ih
/-- together they tell the differences of the heads -/
theorem heads_told (hv : Sat rows v) {u : α → Int} (hu : Sat E u) (one : ∀ a ∈ hs, ∀ b ∈ hs, Eqv rows a b → a = b)
    (all : ∀ a ∈ hs, ∀ b ∈ hs, a ≠ b → ∀ k, D rows a b = some k → (∀ m ∈ hs, m ≠ a → m ≠ b → ¬ Tight rows a m b) → (a, b, k) ∈ E) :
    ∀ n a b, a ∈ hs → b ∈ hs → between rows hs a b ≤ n → ∀ k, D rows a b = some k → u a - u b ≤ k := by
  intro n
  induction n with
  | zero =>
    intro a b ha hb hn k hk
    exfalso
    have : a ∈ hs.filter fun m => @decide (Tight rows a m b) (Classical.propDecidable _) := List.mem_filter.mpr ⟨ha, by simp only [decide_eq_true_eq]; exact ⟨0, k, k, d_self hv a, hk, hk, by omega⟩⟩
    have := List.length_pos_of_mem this
    unfold between at hn
    omega
  | succ n ih =>
    intro a b ha hb hn k hk
    by_cases e : a = b
    · subst e
      rw [d_self hv] at hk
      injection hk with hk
      omega
    by_cases h : ∃ m ∈ hs, m ≠ a ∧ m ≠ b ∧ Tight rows a m b
    · obtain ⟨m, hm, ma, mb, T⟩ := h
      obtain ⟨x, y, z, h1, h2, h3, h4⟩ := id T
      rw [hk] at h3
      injection h3 with h3
      subst h3
      have sub1 : between rows hs a m < between rows hs a b := by
        refine filter_lt hs (fun w _ hw => ?_) ⟨b, hb, ?_, ?_⟩
        · simp only [decide_eq_true_eq] at hw ⊢
          obtain ⟨p, q, r, e1, e2, e3, e4⟩ := hw
          rw [h1] at e3
          injection e3 with e3
          obtain ⟨t, et, ht⟩ := d_tri hv e2 h2
          exact ⟨p, t, k, e1, et, hk, by omega⟩
        · simp only [decide_eq_true_eq]
          exact ⟨k, 0, k, hk, d_self hv b, hk, by omega⟩
        · simp only [decide_eq_false_iff_not]
          rintro ⟨p, q, r, e1, e2, e3, e4⟩
          rw [hk] at e1
          rw [h1] at e3
          injection e1 with e1
          injection e3 with e3
          exact mb (one m hm b hb (eqv_of hv h2 e2 (by omega)))
      have sub2 : between rows hs m b < between rows hs a b := by
        refine filter_lt hs (fun w _ hw => ?_) ⟨a, ha, ?_, ?_⟩
        · simp only [decide_eq_true_eq] at hw ⊢
          obtain ⟨p, q, r, e1, e2, e3, e4⟩ := hw
          rw [h2] at e3
          injection e3 with e3
          obtain ⟨t, et, ht⟩ := d_tri hv h1 e1
          exact ⟨t, q, k, et, e2, hk, by omega⟩
        · simp only [decide_eq_true_eq]
          exact ⟨0, k, k, d_self hv a, hk, hk, by omega⟩
        · simp only [decide_eq_false_iff_not]
          rintro ⟨p, q, r, e1, e2, e3, e4⟩
          rw [hk] at e2
          rw [h2] at e3
          injection e2 with e2
          injection e3 with e3
          exact ma (one m hm a ha (eqv_of hv e1 h1 (by omega)))
      have i1 := ih a m ha hm (by omega) x h1
      have i2 := ih m b hm hb (by omega) y h2
      omega
    · have := hu _ (all a ha b hb e k hk fun m hm ma mb T => h ⟨m, hm, ma, mb, T⟩)
      exact this
/-- a ring of tied sides -/
theorem ring_told (hv : Sat rows v) {u : α → Int} (ms : List α) (hm : 0 < ms.length) (h : ∀ (i : Nat) (hi : i < ms.length), u ms[i] - u (ms[(i + 1) % ms.length]'(Nat.mod_lt _ hm)) ≤ v ms[i] - v (ms[(i + 1) % ms.length]'(Nat.mod_lt _ hm))) :
    ∀ x ∈ ms, ∀ y ∈ ms, u x - u y = v x - v y := by
  have up : ∀ (i : Nat) (hi : i < ms.length), u ms[0] - v ms[0] ≤ u ms[i] - v ms[i] := by
    intro i
    induction i with
    | zero =>
      intro hi
      exact Int.le_refl _
    | succ i ih =>
      intro hi
      have h1 := ih (by omega)
      have h2 := h i (by omega)
      have e : (i + 1) % ms.length = i + 1 := Nat.mod_eq_of_lt hi
      simp only [e] at h2
      omega
  have down : ∀ (d i : Nat) (hi : i < ms.length), ms.length - i ≤ d → u ms[i] - v ms[i] ≤ u ms[0] - v ms[0] := by
    intro d
    induction d with
    | zero =>
      intro i hi hd
      omega
    | succ d ih =>
      intro i hi hd
      have h2 := h i hi
      by_cases k : i + 1 < ms.length
      · have e : (i + 1) % ms.length = i + 1 := Nat.mod_eq_of_lt k
        simp only [e] at h2
        have h1 := ih (i + 1) k (by omega)
        omega
      · have e : (i + 1) % ms.length = 0 := by
          have : i + 1 = ms.length := by omega
          rw [this, Nat.mod_self]
        simp only [e] at h2
        omega
  have all : ∀ x ∈ ms, u x - v x = u ms[0] - v ms[0] := fun x hx => by
    obtain ⟨i, hi, rfl⟩ := List.getElem_of_mem hx
    have h1 := up i hi
    have h2 := down ms.length i hi (by omega)
    omega
  intro x hx y hy
  have h1 := all x hx
  have h2 := all y hy
  omega
end
end Lo
/-! Groups of tied sides, their heads, the rows made of them; how many there are does not hang on the order. -/
namespace Lo
section
variable {α : Type} [DecidableEq α]
def hstep (e : α → α → Bool) (hs : List α) (x : α) : List α := if hs.any (fun h => e h x) then hs else hs ++ [x]
def headsOf (e : α → α → Bool) (l : List α) : List α := l.foldl (hstep e) []
theorem headsOf_snoc (e : α → α → Bool) (l : List α) (x : α) : headsOf e (l ++ [x]) = hstep e (headsOf e l) x := by
  unfold headsOf
  rw [List.foldl_append]
  rfl
structure Eqq (e : α → α → Bool) : Prop where
  refl : ∀ a, e a a = true
  symm : ∀ a b, e a b = true → e b a = true
  trans : ∀ a b c, e a b = true → e b c = true → e a c = true
/-- heads of what was seen -/
structure Hds (e : α → α → Bool) (hs seen : List α) : Prop where
  sub : ∀ h ∈ hs, h ∈ seen
  apart : hs.Pairwise fun a b => e a b = false
  cover : ∀ x ∈ seen, ∃ h ∈ hs, e h x = true
  first : ∀ h ∈ hs, ∃ rest, seen.filter (e h) = h :: rest
variable {e : α → α → Bool}
theorem Hds.one {hs seen : List α} (H : Hds e hs seen) (q : Eqq e) : ∀ a ∈ hs, ∀ b ∈ hs, e a b = true → a = b := by
  intro a ha b hb hab
  have h := H.apart
  clear H
  induction hs with
  | nil => exact absurd ha List.not_mem_nil
  | cons x t ih =>
    obtain ⟨h1, h2⟩ := List.pairwise_cons.mp h
    rcases List.mem_cons.mp ha with e1 | e1
    · rcases List.mem_cons.mp hb with e2 | e2
      · rw [e1, e2]
      · subst e1
        rw [h1 b e2] at hab
        cases hab
    · rcases List.mem_cons.mp hb with e2 | e2
      · subst e2
        have := q.symm _ _ hab
        rw [h1 a e1] at this
        cases this
      · exact ih e1 e2 h2
theorem Hds.step {hs seen : List α} (H : Hds e hs seen) (q : Eqq e) (x : α) : Hds e (hstep e hs x) (seen ++ [x]) := by
  unfold hstep
  by_cases k : hs.any (fun h => e h x) = true
  · rw [if_pos k]
    rw [List.any_eq_true] at k
    obtain ⟨h0, hh0, e0⟩ := k
    refine ⟨fun h hh => List.mem_append_left _ (H.sub h hh), H.apart, fun y hy => ?_, fun h hh => ?_⟩
    · rcases List.mem_append.mp hy with m | m
      · exact H.cover y m
      · rw [List.mem_singleton] at m
        exact ⟨h0, hh0, m ▸ e0⟩
    · obtain ⟨rest, hr⟩ := H.first h hh
      exact ⟨rest ++ [x].filter (e h), by rw [List.filter_append, hr]; rfl⟩
  · rw [if_neg k]
    have none : ∀ h ∈ hs, e h x = false := fun h hh => by
      cases z : e h x with
      | false => rfl
      | true => exact absurd (List.any_eq_true.mpr ⟨h, hh, z⟩) k
    refine ⟨fun h hh => ?_, List.pairwise_append.mpr ⟨H.apart, List.pairwise_singleton _ _, fun a ha b hb => ?_⟩, fun y hy => ?_, fun h hh => ?_⟩
    · rcases List.mem_append.mp hh with m | m
      · exact List.mem_append_left _ (H.sub h m)
      · exact List.mem_append_right _ m
    · rw [List.mem_singleton] at hb
      subst hb
      exact none a ha
    · rcases List.mem_append.mp hy with m | m
      · obtain ⟨h, hh, e0⟩ := H.cover y m
        exact ⟨h, List.mem_append_left _ hh, e0⟩
      · exact ⟨x, List.mem_append_right _ (List.mem_singleton.mpr rfl), by rw [List.mem_singleton.mp m]; exact q.refl x⟩
    · rcases List.mem_append.mp hh with m | m
      · obtain ⟨rest, hr⟩ := H.first h m
        exact ⟨rest ++ [x].filter (e h), by rw [List.filter_append, hr]; rfl⟩
      · rw [List.mem_singleton] at m
        subst m
        have z : seen.filter (e h) = [] := List.filter_eq_nil_iff.mpr fun y hy hy2 => by
          obtain ⟨g, hg, eg⟩ := H.cover y hy
          have := q.trans _ _ _ eg (q.symm _ _ hy2)
          rw [none g hg] at this
          cases this
        refine ⟨[], ?_⟩
        rw [List.filter_append, z, List.filter_cons_of_pos (q.refl h)]
        rfl
theorem heads_ok (q : Eqq e) (l : List α) : Hds e (headsOf e l) l := by
  have key : ∀ (l hs seen : List α), Hds e hs seen → Hds e (l.foldl (hstep e) hs) (seen ++ l) := by
    intro l
    induction l with
    | nil =>
      intro hs seen H
      rw [List.append_nil]
      exact H
    | cons x l ih =>
      intro hs seen H
      have := ih _ _ (H.step q x)
      rw [List.append_assoc] at this
      exact this
  have z : Hds e ([] : List α) [] := ⟨fun h m => absurd m List.not_mem_nil, List.Pairwise.nil, fun x m => absurd m List.not_mem_nil, fun h m => absurd m List.not_mem_nil⟩
  exact key l [] [] z
theorem Hds.nodup {hs seen : List α} (H : Hds e hs seen) (q : Eqq e) : hs.Nodup := H.apart.imp fun {a b} h z => by
  subst z
  rw [q.refl] at h
  cases h
/-! ### the rows -/
/-- the next ones around -/
def rot (ms : List α) : List α := ms.drop 1 ++ ms.take 1
theorem rot_len (ms : List α) : (rot ms).length = ms.length := by
  unfold rot
  rw [List.length_append, List.length_drop, List.length_take]
  omega
theorem rot_get (ms : List α) (i : Nat) (hi : i < ms.length) : (rot ms)[i]? = ms[(i + 1) % ms.length]? := by
  unfold rot
  by_cases k : i + 1 < ms.length
  · rw [List.getElem?_append_left (by rw [List.length_drop]; omega), List.getElem?_drop, Nat.mod_eq_of_lt k, Nat.add_comm]
  · have e : i + 1 = ms.length := by omega
    rw [List.getElem?_append_right (by rw [List.length_drop]; omega), List.length_drop, e, Nat.mod_self, List.getElem?_take_of_lt (by omega), show i - (ms.length - 1) = 0 by omega]
def ringE (w : α → α → Int) (ms : List α) : List (Row α) := if 1 < ms.length then (ms.zip (rot ms)).map fun p => (p.1, p.2, w p.1 p.2) else []
def leadE (w : α → α → Int) (c : α → α → Bool) (hs : List α) : List (Row α) := hs.flatMap fun a => (hs.filter (c a)).map fun b => (a, b, w a b)
def edgesE (e : α → α → Bool) (w : α → α → Int) (c : α → α → Bool) (hs l : List α) : List (Row α) := (hs.flatMap fun h => ringE w (l.filter (e h))) ++ leadE w c hs
theorem ringE_mem {w : α → α → Int} {ms : List α} {x y : α} {c : Int} (h : (x, y, c) ∈ ringE w ms) : 1 < ms.length ∧ ∃ (i : Nat) (hi : i < ms.length), x = ms[i] ∧ ms[(i + 1) % ms.length]? = some y ∧ c = w x y := by
  unfold ringE at h
  by_cases k : 1 < ms.length
  · rw [if_pos k] at h
    obtain ⟨p, hp, ep⟩ := List.mem_map.mp h
    obtain ⟨i, hi, ei⟩ := List.getElem_of_mem hp
    rw [List.length_zip, rot_len, Nat.min_self] at hi
    have e1 : ms[i] = p.1 := by rw [← ei, List.getElem_zip]
    have e2 : ms[(i + 1) % ms.length]? = some p.2 := by
      rw [← rot_get ms i hi, ← ei, List.getElem_zip]
      exact List.getElem?_eq_getElem _
    injection ep with q1 q2
    injection q2 with q2 q3
    refine ⟨k, i, hi, by rw [e1, q1], by rw [e2, q2], ?_⟩
    rw [← q3, q1, q2]
  · rw [if_neg k] at h
    exact absurd h List.not_mem_nil
theorem ringE_has {w : α → α → Int} {ms : List α} (k : 1 < ms.length) (i : Nat) (hi : i < ms.length) {y : α} (hy : ms[(i + 1) % ms.length]? = some y) : (ms[i], y, w ms[i] y) ∈ ringE w ms := by
  unfold ringE
  rw [if_pos k]
  refine List.mem_map.mpr ⟨(ms[i], y), ?_, rfl⟩
  have hr : i < (rot ms).length := by
    rw [rot_len]
    exact hi
  have e : (rot ms)[i] = y := by
    have := rot_get ms i hi
    rw [hy, List.getElem?_eq_getElem hr] at this
    exact Option.some.inj this
  refine List.mem_of_getElem? (i := i) ?_
  rw [List.getElem?_eq_getElem (by rw [List.length_zip, rot_len, Nat.min_self]; exact hi), List.getElem_zip, e]
theorem ringE_len (w : α → α → Int) (ms : List α) : (ringE w ms).length = if 1 < ms.length then ms.length else 0 := by
  unfold ringE
  split
  · rw [List.length_map, List.length_zip, rot_len, Nat.min_self]
  · rfl
theorem leadE_mem {w : α → α → Int} {c : α → α → Bool} {hs : List α} {x y : α} {k : Int} : (x, y, k) ∈ leadE w c hs ↔ x ∈ hs ∧ y ∈ hs ∧ c x y = true ∧ k = w x y := by
  unfold leadE
  rw [List.mem_flatMap]
  constructor
  · rintro ⟨a, ha, h⟩
    obtain ⟨b, hb, eb⟩ := List.mem_map.mp h
    obtain ⟨h1, h2⟩ := List.mem_filter.mp hb
    injection eb with q1 q2
    injection q2 with q2 q3
    subst q1 q2
    exact ⟨ha, h1, h2, q3.symm⟩
  · rintro ⟨hx, hy, hc, rfl⟩
    exact ⟨x, hx, List.mem_map.mpr ⟨y, List.mem_filter.mpr ⟨hy, hc⟩, rfl⟩⟩
variable {rows : List (Row α)} {v : α → Int}
/-- what the tests of the program stand for -/
structure Tests (rows : List (Row α)) (hs : List α) (e : α → α → Bool) (w : α → α → Int) (c : α → α → Bool) : Prop where
  e : ∀ a b, e a b = true ↔ Eqv rows a b
  w : ∀ a b k, D rows a b = some k → w a b = k
  c : ∀ a b, a ∈ hs → b ∈ hs → (c a b = true ↔ a ≠ b ∧ D rows a b ≠ none ∧ ∀ m ∈ hs, m ≠ a → m ≠ b → ¬ Tight rows a m b)
theorem Tests.eqq {hs : List α} {w : α → α → Int} {c : α → α → Bool} (T : Tests rows hs e w c) (hv : Sat rows v) : Eqq e :=
  ⟨fun a => (T.e a a).mpr (eqv_refl hv a), fun a b h => (T.e b a).mpr ((T.e a b).mp h).symm, fun a b c h k => (T.e a c).mpr (((T.e a b).mp h).trans hv ((T.e b c).mp k))⟩
theorem edges_mem {w : α → α → Int} {c : α → α → Bool} {hs l : List α} {x y : α} {k : Int} (h : (x, y, k) ∈ edgesE e w c hs l) : (∃ g ∈ hs, (x, y, k) ∈ ringE w (l.filter (e g))) ∨ (x, y, k) ∈ leadE w c hs := by
  unfold edgesE at h
  rcases List.mem_append.mp h with m | m
  · exact .inl (List.mem_flatMap.mp m)
  · exact .inr m
theorem ring_facts {w : α → α → Int} {l : List α} (q : Eqq e) (hnd : l.Nodup) {g x y : α} {k : Int} (h : (x, y, k) ∈ ringE w (l.filter (e g))) : x ≠ y ∧ e g x = true ∧ e g y = true ∧ e x y = true ∧ x ∈ l ∧ k = w x y := by
  obtain ⟨h1, i, hi, ex, ey, ek⟩ := ringE_mem h
  have hx := List.mem_filter.mp (ex ▸ List.getElem_mem hi)
  have hy := List.mem_filter.mp (List.mem_of_getElem? ey)
  refine ⟨fun z => ?_, hx.2, hy.2, q.trans _ _ _ (q.symm _ _ hx.2) hy.2, hx.1, ek⟩
  have hm : (i + 1) % (l.filter (e g)).length < (l.filter (e g)).length := Nat.mod_lt _ (by omega)
  rw [List.getElem?_eq_getElem hm] at ey
  have ey := Option.some.inj ey
  rw [ex, ← ey] at z
  have := (List.getElem_inj (hnd.filter _)).mp z
  by_cases t : i + 1 < (l.filter (e g)).length
  · rw [Nat.mod_eq_of_lt t] at this
    omega
  · rw [show i + 1 = (l.filter (e g)).length by omega, Nat.mod_self] at this
    omega
theorem edges_ok {w : α → α → Int} {c : α → α → Bool} {hs l : List α} (T : Tests rows hs e w c) (hv : Sat rows v) (hnd : l.Nodup) (H : Hds e hs l) : Edges rows (edgesE e w c hs l) hs := by
  have q := T.eqq hv
  have one := H.one q
  have leadF : ∀ {x y : α} {k : Int}, (x, y, k) ∈ leadE w c hs → x ∈ hs ∧ y ∈ hs ∧ x ≠ y ∧ e x y = false ∧ D rows x y = some k ∧ ∀ m ∈ hs, m ≠ x → m ≠ y → ¬ Tight rows x m y := fun {x y k} h => by
    obtain ⟨h1, h2, h3, h4⟩ := leadE_mem.mp h
    obtain ⟨c1, c2, c3⟩ := (T.c x y h1 h2).mp h3
    refine ⟨h1, h2, c1, ?_, ?_, c3⟩
    · cases z : e x y with
      | false => rfl
      | true => exact absurd (one x h1 y h2 z) c1
    · cases z : D rows x y with
      | none => exact absurd z c2
      | some m => rw [h4, T.w x y m z]
  have ringF : ∀ {g x y : α} {k : Int}, (x, y, k) ∈ ringE w (l.filter (e g)) → D rows x y = some k := fun {g x y k} h => by
    obtain ⟨_, _, _, h1, _, h2⟩ := ring_facts q hnd h
    have z := ((T.e x y).mp h1).val hv
    rw [z, h2, T.w x y _ z]
  refine ⟨fun x y k h => ?_, fun x y k y' k' h h' t t' => ?_, fun x y k h t => ?_, fun A B p hE r hr => ?_, fun a ha b hb t => one a ha b hb ((T.e a b).mpr t)⟩
  · rcases edges_mem h with ⟨g, hg, m⟩ | m
    · exact ⟨(ring_facts q hnd m).1, ringF m⟩
    · obtain ⟨_, _, h1, _, h2, _⟩ := leadF m
      exact ⟨h1, h2⟩
  · have t1 := (T.e _ _).mpr t
    have t2 := (T.e _ _).mpr t'
    rcases edges_mem h with ⟨g, hg, m⟩ | m
    · rcases edges_mem h' with ⟨g', hg', m'⟩ | m'
      · obtain ⟨_, a1, _⟩ := ring_facts q hnd m
        obtain ⟨_, a2, _⟩ := ring_facts q hnd m'
        have eg := one g hg g' hg' (q.trans _ _ _ a1 (q.symm _ _ a2))
        subst eg
        obtain ⟨_, i, hi, ex, ey, _⟩ := ringE_mem m
        obtain ⟨_, i', hi', ex', ey', _⟩ := ringE_mem m'
        have ei := (List.getElem_inj (hnd.filter _)).mp (ex.symm.trans ex')
        subst ei
        rw [ey] at ey'
        exact Option.some.inj ey'
      · obtain ⟨_, _, _, z, _⟩ := leadF m'
        rw [z] at t2
        cases t2
    · obtain ⟨_, _, _, z, _⟩ := leadF m
      rw [z] at t1
      cases t1
  · rcases edges_mem h with ⟨g, hg, m⟩ | m
    · obtain ⟨_, _, _, h1, _⟩ := ring_facts q hnd m
      exact absurd ((T.e _ _).mp h1) t
    · obtain ⟨h1, h2, _, _, _, h3⟩ := leadF m
      exact ⟨h1, h2, h3⟩
  · have pw : (edgesE e w c hs l).Pairwise fun p q => ¬ (p.1 = q.1 ∧ p.2.1 = q.2.1) := by
      unfold edgesE
      refine List.pairwise_append.mpr ⟨List.pairwise_flatMap.mpr ⟨fun g hg => ?_, H.apart.imp_of_mem fun {a b} ha hb hab x hx y hy z => ?_⟩, ?_, fun x hx y hy z => ?_⟩
      · unfold ringE
        split
        · refine List.pairwise_map.mpr ?_
          refine List.pairwise_iff_getElem.mpr fun i j hi hj hij z => ?_
          rw [List.getElem_zip, List.getElem_zip] at z
          have hi' : i < (l.filter (e g)).length := by
            rw [List.length_zip, rot_len, Nat.min_self] at hi
            exact hi
          have hj' : j < (l.filter (e g)).length := by
            rw [List.length_zip, rot_len, Nat.min_self] at hj
            exact hj
          have := (List.getElem_inj (hnd.filter _)).mp z.1
          omega
        · exact List.Pairwise.nil
      · obtain ⟨x1, x2, x3⟩ := x
        obtain ⟨y1, y2, y3⟩ := y
        obtain ⟨_, a1, _⟩ := ring_facts q hnd hx
        obtain ⟨_, a2, _⟩ := ring_facts q hnd hy
        have z1 : x1 = y1 := z.1
        subst z1
        have := q.trans _ _ _ a1 (q.symm _ _ a2)
        rw [hab] at this
        cases this
      · unfold leadE
        refine List.pairwise_flatMap.mpr ⟨fun a ha => List.pairwise_map.mpr (((H.nodup q).filter _).imp fun {b b'} n z => n z.2), (H.nodup q).imp fun {a b} n x hx y hy z => ?_⟩
        obtain ⟨x', _, rfl⟩ := List.mem_map.mp hx
        obtain ⟨y', _, rfl⟩ := List.mem_map.mp hy
        exact n z.1
      · obtain ⟨x1, x2, x3⟩ := x
        obtain ⟨y1, y2, y3⟩ := y
        obtain ⟨g, hg, m⟩ := List.mem_flatMap.mp hx
        obtain ⟨_, _, _, h1, _⟩ := ring_facts q hnd m
        obtain ⟨_, _, _, h2, _⟩ := leadF hy
        obtain ⟨z1, z2⟩ := z
        have z1 : x1 = y1 := z1
        have z2 : x2 = y2 := z2
        subst z1 z2
        rw [h1] at h2
        cases h2
    rw [hE] at pw
    obtain ⟨_, p2, p3⟩ := List.pairwise_append.mp pw
    obtain ⟨p4, _⟩ := List.pairwise_cons.mp p2
    rcases List.mem_append.mp hr with m | m
    · exact p3 r m p List.mem_cons_self
    · exact fun z => p4 r m ⟨z.1.symm, z.2.symm⟩
/-- together they tell all rows -/
theorem edges_tell {w : α → α → Int} {c : α → α → Bool} {hs l : List α} (T : Tests rows hs e w c) (hv : Sat rows v) (H : Hds e hs l) (hl : ∀ r ∈ rows, r.1 ∈ l ∧ r.2.1 ∈ l) {u : α → Int} (hu : Sat (edgesE e w c hs l) u) : Sat rows u := by
  have q := T.eqq hv
  have one := H.one q
  have grp : ∀ g ∈ hs, ∀ x ∈ l, e g x = true → u x - u g = v x - v g := fun g hg x hx t => by
    have mg : g ∈ l.filter (e g) := List.mem_filter.mpr ⟨H.sub g hg, q.refl g⟩
    have mx : x ∈ l.filter (e g) := List.mem_filter.mpr ⟨hx, t⟩
    by_cases k : 1 < (l.filter (e g)).length
    · refine ring_told hv (l.filter (e g)) (by omega) (fun i hi => ?_) x mx g mg
      have hm : (i + 1) % (l.filter (e g)).length < (l.filter (e g)).length := Nat.mod_lt _ (by omega)
      have hr := ringE_has (w := w) k i hi (List.getElem?_eq_getElem hm)
      have hE : ((l.filter (e g))[i], (l.filter (e g))[(i + 1) % (l.filter (e g)).length], w (l.filter (e g))[i] (l.filter (e g))[(i + 1) % (l.filter (e g)).length]) ∈ edgesE e w c hs l := List.mem_append_left _ (List.mem_flatMap.mpr ⟨g, hg, hr⟩)
      have h1 := hu _ hE
      have t1 := (List.mem_filter.mp (List.getElem_mem hi)).2
      have t2 := (List.mem_filter.mp (List.getElem_mem hm)).2
      have z := ((T.e _ _).mp (q.trans _ _ _ (q.symm _ _ t1) t2)).val hv
      rw [T.w _ _ _ z] at h1
      exact h1
    · have : ∀ (m : List α), ¬ 1 < m.length → x ∈ m → g ∈ m → x = g := by
        intro m hm h1 h2
        match m, hm with
        | [], _ => exact absurd h1 List.not_mem_nil
        | [a], _ =>
          rw [List.mem_singleton] at h1 h2
          rw [h1, h2]
        | a :: b :: t, hm => exact absurd (by simp) hm
      have e1 := this _ k mx mg
      subst e1
      omega
  intro r hr
  obtain ⟨a, b, c'⟩ := r
  obtain ⟨la, lb⟩ := hl _ hr
  obtain ⟨ga, hga, ta⟩ := H.cover a la
  obtain ⟨gb, hgb, tb⟩ := H.cover b lb
  have h1 := grp ga hga a la ta
  have h2 := grp gb hgb b lb tb
  obtain ⟨x, ex, hx⟩ := d_row hv hr
  have d1 := ((T.e _ _).mp ta).val hv
  have d2 := ((T.e _ _).mp tb).symm.val hv
  obtain ⟨y, ey, hy⟩ := d_tri hv d1 ex
  obtain ⟨k, ek, hk⟩ := d_tri hv ey d2
  have h3 := heads_told (E := edgesE e w c hs l) hv hu (fun a ha b hb t => one a ha b hb ((T.e a b).mpr t)) (fun a ha b hb n k hk hm => by
    refine List.mem_append_right _ (leadE_mem.mpr ⟨ha, hb, (T.c a b ha hb).mpr ⟨n, by rw [hk]; exact (fun z => nomatch z), hm⟩, (T.w a b k hk).symm⟩)) (between rows hs ga gb) ga gb hga hgb (Nat.le_refl _) k ek
  show u a - u b ≤ c'
  omega
theorem edges_len (e : α → α → Bool) (w : α → α → Int) (c : α → α → Bool) (hs l : List α) : (edgesE e w c hs l).length = (hs.map fun h => if 1 < (l.filter (e h)).length then (l.filter (e h)).length else 0).sum + (hs.map fun a => (hs.filter (c a)).length).sum := by
  unfold edgesE leadE
  rw [List.length_append, List.length_flatMap, List.length_flatMap]
  congr 2
  · refine List.map_congr_left fun h _ => ringE_len w _
  · refine List.map_congr_left fun a _ => ?_
    rw [List.length_map]
/-! ### the number does not hang on the heads -/
theorem rep_sum (q : Eqq e) (g : α → Nat) (gi : ∀ a b, e a b = true → g a = g b) : ∀ (h1 h2 : List α), h1.Pairwise (fun a b => e a b = false) → h2.Pairwise (fun a b => e a b = false) → (∀ a ∈ h1, ∃ b ∈ h2, e a b = true) → (∀ b ∈ h2, (∃ a ∈ h1, e a b = true) ∨ g b = 0) → (h1.map g).sum = (h2.map g).sum
  | [], h2, _, _, _, hb => by
    have : ∀ l : List α, (∀ b ∈ l, g b = 0) → (l.map g).sum = 0 := by
      intro l
      induction l with
      | nil => exact fun _ => rfl
      | cons b l ih =>
        intro h
        rw [List.map_cons, List.sum_cons, h b List.mem_cons_self, ih fun x hx => h x (List.mem_cons_of_mem _ hx)]
    rw [this h2 fun b m => (hb b m).resolve_left fun ⟨a, z, _⟩ => absurd z List.not_mem_nil]
    rfl
  | a :: h1, h2, p1, p2, ha, hb => by
    obtain ⟨b, mb, tb⟩ := ha a List.mem_cons_self
    obtain ⟨pa, p1'⟩ := List.pairwise_cons.mp p1
    have hp := List.perm_cons_erase mb
    have symm' : ∀ {x y : α}, e x y = false → e y x = false := fun {x y} h => by
      cases z : e y x with
      | false => rfl
      | true =>
        rw [q.symm _ _ z] at h
        cases h
    have p2' := (hp.pairwise_iff (fun {x y} h => symm' h)).mp p2
    obtain ⟨pb, p3⟩ := List.pairwise_cons.mp p2'
    have ih := rep_sum q g gi h1 (h2.erase b) p1' p3 (fun a' m' => by
      obtain ⟨b', mb', tb'⟩ := ha a' (List.mem_cons_of_mem _ m')
      refine ⟨b', ?_, tb'⟩
      rcases List.mem_cons.mp (hp.mem_iff.mp mb') with z | z
      · subst z
        have := q.trans _ _ _ tb (q.symm _ _ tb')
        rw [pa a' m'] at this
        cases this
      · exact z) (fun b' mb' => by
      rcases hb b' (hp.mem_iff.mpr (List.mem_cons_of_mem _ mb')) with ⟨a', ma', ta'⟩ | z
      · rcases List.mem_cons.mp ma' with z | z
        · subst z
          have := q.trans _ _ _ (q.symm _ _ tb) ta'
          rw [pb b' mb'] at this
          cases this
        · exact .inl ⟨a', z, ta'⟩
      · exact .inr z)
    have e1 : (h2.map g).sum = g b + ((h2.erase b).map g).sum := by
      rw [(hp.map g).sum_nat, List.map_cons, List.sum_cons]
    rw [List.map_cons, List.sum_cons, e1, ih, gi a b tb]
end
end Lo
/-! The number of the fewest rows by another order of the names; the table of all sums by middles. -/
namespace Lo
section
variable {α : Type} [DecidableEq α]
variable {rows : List (Row α)} {v : α → Int} {e : α → α → Bool}
theorem Tight.left (hv : Sat rows v) {a a' m b : α} (t : Eqv rows a a') (h : Tight rows a m b) : Tight rows a' m b := by
  obtain ⟨x, y, z, h1, h2, h3, h4⟩ := h
  obtain ⟨x', e1, l1⟩ := d_tri hv (t.symm.val hv) h1
  obtain ⟨z', e2, l2⟩ := d_tri hv (t.symm.val hv) h3
  obtain ⟨z'', e3, l3⟩ := d_tri hv (t.val hv) e2
  rw [h3] at e3
  injection e3 with e3
  exact ⟨x', y, z', e1, h2, e2, by omega⟩
theorem Tight.right (hv : Sat rows v) {a m b b' : α} (t : Eqv rows b b') (h : Tight rows a m b) : Tight rows a m b' := by
  obtain ⟨x, y, z, h1, h2, h3, h4⟩ := h
  obtain ⟨y', e1, l1⟩ := d_tri hv h2 (t.val hv)
  obtain ⟨z', e2, l2⟩ := d_tri hv h3 (t.val hv)
  obtain ⟨z'', e3, l3⟩ := d_tri hv e2 (t.symm.val hv)
  rw [h3] at e3
  injection e3 with e3
  exact ⟨x, y', z', h1, e1, e2, by omega⟩
theorem Tight.mid (hv : Sat rows v) {a m m' b : α} (t : Eqv rows m m') (h : Tight rows a m b) : Tight rows a m' b := by
  obtain ⟨x, y, z, h1, h2, h3, h4⟩ := h
  obtain ⟨x', e1, l1⟩ := d_tri hv h1 (t.val hv)
  obtain ⟨y', e2, l2⟩ := d_tri hv (t.symm.val hv) h2
  exact ⟨x', y', z, e1, e2, h3, by omega⟩
theorem some_left (hv : Sat rows v) {a a' b : α} (t : Eqv rows a a') (h : D rows a b ≠ none) : D rows a' b ≠ none := by
  cases q : D rows a b with
  | none => exact absurd q h
  | some x =>
    obtain ⟨y, ey, _⟩ := d_tri hv (t.symm.val hv) q
    rw [ey]
    exact fun z => nomatch z
theorem some_right (hv : Sat rows v) {a b b' : α} (t : Eqv rows b b') (h : D rows a b ≠ none) : D rows a b' ≠ none := by
  cases q : D rows a b with
  | none => exact absurd q h
  | some x =>
    obtain ⟨y, ey, _⟩ := d_tri hv q (t.val hv)
    rw [ey]
    exact fun z => nomatch z
/-- a row between groups that is needed -/
def Need (rows : List (Row α)) (l : List α) (a b : α) : Prop := ¬ Eqv rows a b ∧ D rows a b ≠ none ∧ ∀ m ∈ l, ¬ Eqv rows m a → ¬ Eqv rows m b → ¬ Tight rows a m b
theorem Need.left (hv : Sat rows v) {l : List α} {a a' b : α} (t : Eqv rows a a') (h : Need rows l a b) : Need rows l a' b :=
  ⟨fun z => h.1 (t.trans hv z), some_left hv t h.2.1, fun m hm h1 h2 T => h.2.2 m hm (fun z => h1 (z.trans hv t)) h2 (T.left hv t.symm)⟩
theorem Need.right (hv : Sat rows v) {l : List α} {a b b' : α} (t : Eqv rows b b') (h : Need rows l a b) : Need rows l a b' :=
  ⟨fun z => h.1 (z.trans hv t.symm), some_right hv t h.2.1, fun m hm h1 h2 T => h.2.2 m hm h1 (fun z => h2 (z.trans hv t)) (T.right hv t.symm)⟩
/-- names outside of l1 are alone -/
def Alone (rows : List (Row α)) (l1 l2 : List α) : Prop := ∀ x ∈ l2, x ∉ l1 → ∀ y, y ≠ x → D rows x y = none ∧ D rows y x = none
theorem need_is (hv : Sat rows v) {l1 l2 hs : List α} {w : α → α → Int} {c : α → α → Bool} (T : Tests rows hs e w c) (H : Hds e hs l1) (sub : ∀ x ∈ l1, x ∈ l2) (al : Alone rows l1 l2) {a b : α} (ha : a ∈ hs) (hb : b ∈ hs) : c a b = true ↔ Need rows l2 a b := by
  have q := T.eqq hv
  have one := H.one q
  rw [T.c a b ha hb]
  constructor
  · rintro ⟨h1, h2, h3⟩
    refine ⟨fun z => h1 (one a ha b hb ((T.e a b).mpr z)), h2, fun m hm ma mb t => ?_⟩
    by_cases m1 : m ∈ l1
    · obtain ⟨g, hg, eg⟩ := H.cover m m1
      have tg := (T.e g m).mp eg
      exact h3 g hg (fun z => ma (z ▸ tg.symm)) (fun z => mb (z ▸ tg.symm)) (t.mid hv tg.symm)
    · obtain ⟨x, _, _, e1, _⟩ := t
      have na : a ≠ m := fun z => m1 (z ▸ H.sub a ha)
      rw [(al m hm m1 a na).2] at e1
      cases e1
  · rintro ⟨h1, h2, h3⟩
    refine ⟨fun z => h1 (z ▸ eqv_refl hv a), h2, fun m hm ma mb => h3 m (sub m (H.sub m hm)) (fun z => ma (one m hm a ha ((T.e m a).mpr z))) fun z => mb (one m hm b hb ((T.e m b).mpr z))⟩
theorem filter_sum (p : α → Bool) : ∀ l : List α, (l.filter p).length = (l.map fun x => if p x = true then 1 else 0).sum
  | [] => rfl
  | x :: l => by
    rw [List.map_cons, List.sum_cons, List.filter_cons]
    have ih := filter_sum p l
    split
    · rw [List.length_cons, ih]
      omega
    · rw [ih]
      omega
open Classical in
/-- the number of the fewest rows, by two lists of names -/
theorem due_same (hv : Sat rows v) {l1 l2 h1 h2 : List α} {w : α → α → Int} {c1 c2 : α → α → Bool} (T1 : Tests rows h1 e w c1) (T2 : Tests rows h2 e w c2) (H1 : Hds e h1 l1) (H2 : Hds e h2 l2) (n1 : l1.Nodup) (n2 : l2.Nodup) (sub : ∀ x ∈ l1, x ∈ l2) (al : Alone rows l1 l2) :
    (h1.map fun h => if 1 < (l1.filter (e h)).length then (l1.filter (e h)).length else 0).sum + (h1.map fun a => (h1.filter (c1 a)).length).sum =
    (h2.map fun h => if 1 < (l2.filter (e h)).length then (l2.filter (e h)).length else 0).sum + (h2.map fun a => (h2.filter (c2 a)).length).sum := by
  have q := T1.eqq hv
  have to2 : ∀ a ∈ h1, ∃ b ∈ h2, e a b = true := fun a ha => by
    obtain ⟨b, hb, eb⟩ := H2.cover a (sub a (H1.sub a ha))
    exact ⟨b, hb, q.symm _ _ eb⟩
  have to1 : ∀ b ∈ h2, (∃ a ∈ h1, e a b = true) ∨ b ∉ l1 := fun b hb => by
    by_cases m : b ∈ l1
    · exact .inl (H1.cover b m)
    · exact .inr m
  have lone : ∀ b ∈ h2, b ∉ l1 → ∀ y, e b y = true → y = b := fun b hb m y t => Classical.byContradiction fun n => by
    have z := ((T1.e b y).mp t).val hv
    rw [(al b (H2.sub b hb) m y n).1] at z
    cases z
  congr 1
  · have e1 : (h1.map fun h => if 1 < (l1.filter (e h)).length then (l1.filter (e h)).length else 0) = h1.map fun h => if 1 < (l2.filter (e h)).length then (l2.filter (e h)).length else 0 := by
      refine List.map_congr_left fun h hh => ?_
      have : (l1.filter (e h)).length = (l2.filter (e h)).length := (perm_same _ _ (n1.filter _) (n2.filter _) fun x => by
        rw [List.mem_filter, List.mem_filter]
        refine ⟨fun ⟨a, b⟩ => ⟨sub x a, b⟩, fun ⟨a, b⟩ => ⟨?_, b⟩⟩
        by_cases m : x ∈ l1
        · exact m
        · have z := ((T1.e h x).mp b).val hv
          rw [(al x a m h fun z => m (z ▸ H1.sub h hh)).2] at z
          cases z).length_eq
      rw [this]
    rw [e1]
    refine rep_sum q _ (fun a b t => ?_) h1 h2 H1.apart H2.apart to2 fun b hb => (to1 b hb).imp id fun m => ?_
    · have : l2.filter (e a) = l2.filter (e b) := List.filter_congr fun x _ => by
        cases z : e a x with
        | true => exact (q.trans _ _ _ (q.symm _ _ t) z).symm
        | false =>
          cases z2 : e b x with
          | false => rfl
          | true =>
            rw [q.trans _ _ _ t z2] at z
            cases z
      rw [this]
    · have : ¬ 1 < (l2.filter (e b)).length := fun k => by
        have nd := n2.filter (e b)
        have m0 := List.getElem_mem (l := l2.filter (e b)) (n := 0) (by omega)
        have m1 := List.getElem_mem (l := l2.filter (e b)) (n := 1) k
        have z0 := lone b hb m _ (List.mem_filter.mp m0).2
        have z1 := lone b hb m _ (List.mem_filter.mp m1).2
        have := (List.getElem_inj nd).mp (z0.trans z1.symm)
        omega
      rw [if_neg this]
  · let n : α → α → Nat := fun a b => if Need rows l2 a b then 1 else 0
    have al2 : Alone rows l2 l2 := fun x hx m => absurd hx m
    have s1 : (h1.map fun a => (h1.filter (c1 a)).length) = h1.map fun a => (h1.map (n a)).sum := List.map_congr_left fun a ha => by
      rw [filter_sum]
      congr 1
      refine List.map_congr_left fun b hb => ?_
      have := need_is hv T1 H1 sub al ha hb
      show (if c1 a b = true then 1 else 0) = if Need rows l2 a b then 1 else 0
      by_cases k : Need rows l2 a b
      · rw [if_pos k, if_pos (this.mpr k)]
      · rw [if_neg k, if_neg fun z => k (this.mp z)]
    have s2 : (h2.map fun a => (h2.filter (c2 a)).length) = h2.map fun a => (h2.map (n a)).sum := List.map_congr_left fun a ha => by
      rw [filter_sum]
      congr 1
      refine List.map_congr_left fun b hb => ?_
      have := need_is hv T2 H2 (fun x h => h) al2 ha hb
      show (if c2 a b = true then 1 else 0) = if Need rows l2 a b then 1 else 0
      by_cases k : Need rows l2 a b
      · rw [if_pos k, if_pos (this.mpr k)]
      · rw [if_neg k, if_neg fun z => k (this.mp z)]
    have far : ∀ b ∈ h2, b ∉ l1 → ∀ a, n a b = 0 ∧ n b a = 0 := fun b hb m a => by
      have key : ∀ x y, x = b ∨ y = b → ¬ Need rows l2 x y := fun x y h N => by
        by_cases z : x = y
        · exact N.1 (z ▸ eqv_refl hv x)
        · rcases h with h | h
          · subst h
            exact N.2.1 (al x (H2.sub x hb) m y fun w => z w.symm).1
          · subst h
            exact N.2.1 (al y (H2.sub y hb) m x z).2
      exact ⟨if_neg (key a b (.inr rfl)), if_neg (key b a (.inl rfl))⟩
    have ni : ∀ a b b', e b b' = true → n a b = n a b' := fun a b b' t => by
      have t := (T1.e b b').mp t
      show (if Need rows l2 a b then 1 else 0) = if Need rows l2 a b' then 1 else 0
      by_cases k : Need rows l2 a b
      · rw [if_pos k, if_pos (k.right hv t)]
      · rw [if_neg k, if_neg fun z => k (z.right hv t.symm)]
    have nj : ∀ a a' b, e a a' = true → n a b = n a' b := fun a a' b t => by
      have t := (T1.e a a').mp t
      show (if Need rows l2 a b then 1 else 0) = if Need rows l2 a' b then 1 else 0
      by_cases k : Need rows l2 a b
      · rw [if_pos k, if_pos (k.left hv t)]
      · rw [if_neg k, if_neg fun z => k (z.left hv t.symm)]
    rw [s1, s2]
    have i1 : (h1.map fun a => (h1.map (n a)).sum) = h1.map fun a => (h2.map (n a)).sum := List.map_congr_left fun a ha => rep_sum q (n a) (fun b b' t => ni a b b' t) h1 h2 H1.apart H2.apart to2 fun b hb => (to1 b hb).imp id fun m => (far b hb m a).1
    rw [i1]
    refine rep_sum q _ (fun a b t => ?_) h1 h2 H1.apart H2.apart to2 fun b hb => (to1 b hb).imp id fun m => ?_
    · congr 1
      exact List.map_congr_left fun x _ => nj a b x t
    · have : ∀ l : List α, (l.map (n b)).sum = 0 := by
        intro l
        induction l with
        | nil => rfl
        | cons x l ih => rw [List.map_cons, List.sum_cons, ih, (far b hb m x).2]
      exact this h2
/-! ### a ring of negative sum, or a solution -/
theorem Path.lift {q : Row α} {a b : α} {l : List Nat} {s : Int} (h : Path rows a l b s) : Path (rows ++ [q]) a l b s := by
  induction h with
  | nil a => exact .nil a
  | @cons a m b j c s l hj h ih =>
    refine .cons (m := m) ?_ ih
    rw [List.getElem?_append_left (List.getElem?_eq_some_iff.mp hj).1]
    exact hj
theorem sat_or : ∀ n (rows : List (Row α)), rows.length = n → (∃ v, Sat rows v) ∨ ∃ a l s, Path rows a l a s ∧ s < 0 := by
  intro n
  induction n with
  | zero =>
    intro rows h
    rw [List.length_eq_zero_iff] at h
    subst h
    exact .inl ⟨fun _ => 0, fun r hr => absurd hr List.not_mem_nil⟩
  | succ n ih =>
    intro rows h
    have hne : rows ≠ [] := fun z => by
      rw [z] at h
      cases h
    have e := List.dropLast_concat_getLast hne
    generalize rows.getLast hne = q at e
    generalize rows.dropLast = rs at e
    subst e
    rw [List.length_append, List.length_singleton] at h
    rcases ih rs (by omega) with ⟨v, hv⟩ | ⟨a, l, s, hp, hs⟩
    · obtain ⟨x, y, c⟩ := q
      by_cases k : ∃ b, D rs y x = some b ∧ b + c < 0
      · obtain ⟨b, eb, hb⟩ := k
        obtain ⟨l, s, hp, hs⟩ := told_path hv (d_told hv eb)
        refine .inr ⟨x, rs.length :: l, c + s, .cons (m := y) ?_ hp.lift, by omega⟩
        rw [List.getElem?_append_right (Nat.le_refl _), Nat.sub_self]
        rfl
      · exact .inl (more_sat hv fun b eb => by
          have : ¬ b + c < 0 := fun z => k ⟨b, eb, z⟩
          omega)
    · exact .inr ⟨a, l, s, hp.lift, hs⟩
/-! ### the table by middles -/
abbrev Tb (α : Type) := α → α → Option Int
def put2 (F : Tb α) (i j : α) (k : Int) : Tb α := fun a b => if a = i ∧ b = j then some k else F a b
theorem put2_at (F : Tb α) (i j : α) (k : Int) : put2 F i j k i j = some k := if_pos ⟨rfl, rfl⟩
theorem put2_off {F : Tb α} {i j a b : α} {k : Int} (h : ¬ (a = i ∧ b = j)) : put2 F i j k a b = F a b := if_neg h
structure Fw (rows : List (Row α)) (ends : List α) (F : Tb α) : Prop where
  diag : ∀ a ∈ ends, ∃ k, F a a = some k ∧ k ≤ 0
  snd : ∀ a b k, F a b = some k → Told rows a b k
  dom : ∀ a b k, F a b = some k → a ∈ ends ∧ b ∈ ends
def Rowed (rows : List (Row α)) (F : Tb α) : Prop := ∀ r ∈ rows, ∃ k, F r.1 r.2.1 = some k ∧ k ≤ r.2.2
def Neg (ends : List α) (F : Tb α) : Prop := ∃ a ∈ ends, ∃ k, F a a = some k ∧ k < 0
def Clo (M : List α) (F : Tb α) : Prop := ∀ m ∈ M, ∀ i j x y, F i m = some x → F m j = some y → ∃ z, F i j = some z ∧ z ≤ x + y
def Down (F F' : Tb α) : Prop := ∀ i j k, F i j = some k → ∃ k', F' i j = some k' ∧ k' ≤ k
theorem Down.refl (F : Tb α) : Down F F := fun i j k e => ⟨k, e, Int.le_refl _⟩
theorem Down.trans {F G K : Tb α} (h : Down F G) (k : Down G K) : Down F K := fun i j x e => by
  obtain ⟨y, e1, l1⟩ := h i j x e
  obtain ⟨z, e2, l2⟩ := k i j y e1
  exact ⟨z, e2, by omega⟩
theorem Down.put {F : Tb α} {i j : α} {k : Int} (h : ∀ x, F i j = some x → k ≤ x) : Down F (put2 F i j k) := fun a b x e => by
  by_cases z : a = i ∧ b = j
  · obtain ⟨rfl, rfl⟩ := z
    exact ⟨k, put2_at F a b k, h x e⟩
  · exact ⟨x, by rw [put2_off z]; exact e, Int.le_refl _⟩
theorem Neg.down {ends : List α} {F G : Tb α} (h : Neg ends F) (d : Down F G) : Neg ends G := by
  obtain ⟨a, ha, k, e, hk⟩ := h
  obtain ⟨k', e', l⟩ := d a a k e
  exact ⟨a, ha, k', e', by omega⟩
theorem Rowed.down {F G : Tb α} (h : Rowed rows F) (d : Down F G) : Rowed rows G := fun r hr => by
  obtain ⟨k, e, l⟩ := h r hr
  obtain ⟨k', e', l'⟩ := d _ _ k e
  exact ⟨k', e', by omega⟩
theorem Fw.put {ends : List α} {F : Tb α} (W : Fw rows ends F) {i j : α} {k : Int} (hi : i ∈ ends) (hj : j ∈ ends) (t : Told rows i j k) (h : ∀ x, F i j = some x → k ≤ x) : Fw rows ends (put2 F i j k) := by
  refine ⟨fun a ha => ?_, fun a b x e => ?_, fun a b x e => ?_⟩
  · obtain ⟨x, e, l⟩ := W.diag a ha
    obtain ⟨x', e', l'⟩ := Down.put h a a x e
    exact ⟨x', e', by omega⟩
  · by_cases z : a = i ∧ b = j
    · obtain ⟨rfl, rfl⟩ := z
      rw [put2_at] at e
      injection e with e
      exact e ▸ t
    · rw [put2_off z] at e
      exact W.snd a b x e
  · by_cases z : a = i ∧ b = j
    · exact ⟨z.1 ▸ hi, z.2 ▸ hj⟩
    · rw [put2_off z] at e
      exact W.dom a b x e
/-- within the turn of the middle m, begun at F0 -/
def FwMid (ends : List α) (F0 : Tb α) (m : α) (done : α → α → Prop) (F : Tb α) : Prop := Neg ends F ∨ ((∀ i, F i m = F0 i m) ∧ (∀ j, F m j = F0 m j) ∧ (∀ i j, F i j = F0 i j ∨ ∃ x y, F0 i m = some x ∧ F0 m j = some y ∧ F i j = some (x + y)) ∧ Down F0 F ∧
  ∀ i j, done i j → ∀ x y, F0 i m = some x → F0 m j = some y → ∃ z, F i j = some z ∧ z ≤ x + y)
theorem FwMid.start (ends : List α) (F : Tb α) (m : α) : FwMid ends F m (fun _ _ => False) F := .inr ⟨fun _ => rfl, fun _ => rfl, fun _ _ => .inl rfl, Down.refl F, fun _ _ h => h.elim⟩
theorem FwMid.more {ends : List α} {F0 F : Tb α} {m : α} {d d' : α → α → Prop} (h : FwMid ends F0 m d F) (k : ∀ i j, d' i j → d i j ∨ F0 i m = none ∨ F0 m j = none) : FwMid ends F0 m d' F := by
  rcases h with h | ⟨h1, h2, h3, h4, h5⟩
  · exact .inl h
  · refine .inr ⟨h1, h2, h3, h4, fun i j hd x y e1 e2 => ?_⟩
    rcases k i j hd with z | z | z
    · exact h5 i j z x y e1 e2
    · rw [z] at e1
      cases e1
    · rw [z] at e2
      cases e2
/-- a lesser sum is found -/
theorem FwMid.put {ends : List α} {F0 F : Tb α} {m : α} {d : α → α → Prop} (W : Fw rows ends F) (hm : m ∈ ends) (h : FwMid ends F0 m d F) {i j : α} {x y : Int} (hx : Neg ends F ∨ F0 i m = some x) (hy : F m j = some y) (hlt : ∀ z, F i j = some z → x + y < z) : FwMid ends F0 m (fun a b => d a b ∨ (a = i ∧ b = j)) (put2 F i j (x + y)) := by
  have dn : Down F (put2 F i j (x + y)) := Down.put fun z e => Int.le_of_lt (hlt z e)
  rcases h with h | ⟨h1, h2, h3, h4, h5⟩
  · exact .inl (h.down dn)
  rcases hx with hx | hx
  · exact .inl (hx.down dn)
  by_cases ng : Neg ends F
  · exact .inl (ng.down dn)
  obtain ⟨k, ek, lk⟩ := W.diag m hm
  have k0 : k = 0 := by
    have : ¬ k < 0 := fun z => ng ⟨m, hm, k, ek, z⟩
    omega
  subst k0
  have nj : j ≠ m := fun z => by
    subst z
    rw [ek] at hy
    injection hy with hy
    have := hlt x (by rw [h1]; exact hx)
    omega
  have ni : i ≠ m := fun z => by
    subst z
    rw [← h1, ek] at hx
    injection hx with hx
    have := hlt y hy
    omega
  refine .inr ⟨fun a => ?_, fun b => ?_, fun a b => ?_, h4.trans dn, fun a b hd p q e1 e2 => ?_⟩
  · rw [put2_off fun z => nj z.2.symm]
    exact h1 a
  · rw [put2_off fun z => ni z.1.symm]
    exact h2 b
  · by_cases z : a = i ∧ b = j
    · obtain ⟨rfl, rfl⟩ := z
      exact .inr ⟨x, y, hx, by rw [← h2]; exact hy, put2_at _ _ _ _⟩
    · rw [put2_off z]
      exact h3 a b
  · rcases hd with hd | ⟨rfl, rfl⟩
    · obtain ⟨z, ez, lz⟩ := h5 a b hd p q e1 e2
      obtain ⟨z', ez', lz'⟩ := dn a b z ez
      exact ⟨z', ez', by omega⟩
    · rw [hx] at e1
      rw [← h2, hy] at e2
      injection e1 with e1
      injection e2 with e2
      exact ⟨x + y, put2_at _ _ _ _, by omega⟩
/-- none is found -/
theorem FwMid.skip {ends : List α} {F0 F : Tb α} {m : α} {d : α → α → Prop} (h : FwMid ends F0 m d F) {i j : α} {x y : Int} (hx : Neg ends F ∨ F0 i m = some x) (hy : F m j = some y) {z : Int} (hz : F i j = some z) (hge : z ≤ x + y) : FwMid ends F0 m (fun a b => d a b ∨ (a = i ∧ b = j)) F := by
  rcases h with h | ⟨h1, h2, h3, h4, h5⟩
  · exact .inl h
  rcases hx with hx | hx
  · exact .inl hx
  refine .inr ⟨h1, h2, h3, h4, fun a b hd p q e1 e2 => ?_⟩
  rcases hd with hd | ⟨rfl, rfl⟩
  · exact h5 a b hd p q e1 e2
  · rw [hx] at e1
    rw [← h2, hy] at e2
    injection e1 with e1
    injection e2 with e2
    exact ⟨z, hz, by omega⟩
/-- the turn's end -/
theorem FwMid.clo {ends M : List α} {F0 F : Tb α} {m : α} (W : Fw rows ends F) (W0 : Fw rows ends F0) (hm : m ∈ ends) (hM : ∀ x ∈ M, x ∈ ends) (h : FwMid ends F0 m (fun a b => a ∈ ends ∧ b ∈ ends) F) (c : Neg ends F0 ∨ Clo M F0) : Neg ends F ∨ Clo (M ++ [m]) F := by
  rcases h with h | ⟨h1, h2, h3, h4, h5⟩
  · exact .inl h
  by_cases ng : Neg ends F
  · exact .inl ng
  rcases c with c | c
  · exact .inl (c.down h4)
  have h5 : ∀ i j x y, F0 i m = some x → F0 m j = some y → ∃ z, F i j = some z ∧ z ≤ x + y := fun i j x y e1 e2 => h5 i j ⟨(W0.dom _ _ _ e1).1, (W0.dom _ _ _ e2).2⟩ x y e1 e2
  refine .inr fun g hg i j x y e1 e2 => ?_
  rcases List.mem_append.mp hg with mg | mg
  · -- an earlier middle
    obtain ⟨kg, ekg, lkg⟩ := W.diag g (hM g mg)
    rcases h3 i g with q1 | ⟨x1, x2, q1, q1', q1''⟩
    · rw [q1] at e1
      rcases h3 g j with q2 | ⟨y1, y2, q2, q2', q2''⟩
      · rw [q2] at e2
        obtain ⟨z, ez, lz⟩ := c g mg i j x y e1 e2
        obtain ⟨z', ez', lz'⟩ := h4 i j z ez
        exact ⟨z', ez', by omega⟩
      · rw [q2''] at e2
        injection e2 with e2
        obtain ⟨z, ez, lz⟩ := c g mg i m x y1 e1 q2
        obtain ⟨z', ez', lz'⟩ := h5 i j z y2 ez q2'
        exact ⟨z', ez', by omega⟩
    · rw [q1''] at e1
      injection e1 with e1
      rcases h3 g j with q2 | ⟨y1, y2, q2, q2', q2''⟩
      · rw [q2] at e2
        obtain ⟨z, ez, lz⟩ := c g mg m j x2 y q1' e2
        obtain ⟨z', ez', lz'⟩ := h5 i j x1 z q1 ez
        exact ⟨z', ez', by omega⟩
      · rw [q2''] at e2
        injection e2 with e2
        obtain ⟨z, ez, lz⟩ := c g mg m m x2 y1 q1' q2
        have : ¬ z < 0 := fun w => ng (Neg.down ⟨m, hm, z, ez, w⟩ h4)
        obtain ⟨z', ez', lz'⟩ := h5 i j x1 y2 q1 q2'
        exact ⟨z', ez', by omega⟩
  · rw [List.mem_singleton] at mg
    subst mg
    rw [h1] at e1
    rw [h2] at e2
    exact h5 i j x y e1 e2
/-- the end: no negative sum beside the diagonal, and all is as it should be -/
theorem fw_path {ends : List α} {F : Tb α} (W : Fw rows ends F) (R : Rowed rows F) (C : Clo ends F) {a b : α} {l : List Nat} {s : Int} (h : Path rows a l b s) (ha : a ∈ ends) : ∃ z, F a b = some z ∧ z ≤ s := by
  induction h with
  | nil a => exact W.diag a ha
  | @cons a m b j c s l hj h ih =>
    obtain ⟨x, ex, lx⟩ := R _ (List.mem_of_getElem? hj)
    obtain ⟨y, ey, ly⟩ := ih (W.dom _ _ _ ex).2
    obtain ⟨z, ez, lz⟩ := C m (W.dom _ _ _ ex).2 a b x y ex ey
    have lx : x ≤ c := lx
    exact ⟨z, ez, by omega⟩
theorem fw_none {ends : List α} {F : Tb α} (W : Fw rows ends F) (h : Neg ends F) (v : α → Int) : ¬ Sat rows v := fun hv => by
  obtain ⟨a, ha, k, e, hk⟩ := h
  have := W.snd a a k e v hv
  omega
theorem fw_some {ends : List α} {F : Tb α} (W : Fw rows ends F) (R : Rowed rows F) (C : Clo ends F) (ng : ¬ Neg ends F) (hends : ∀ r ∈ rows, r.1 ∈ ends) : ∃ v, Sat rows v ∧ ∀ a ∈ ends, ∀ b ∈ ends, D rows a b = F a b := by
  rcases sat_or _ rows rfl with ⟨v, hv⟩ | ⟨a, l, s, hp, hs⟩
  · refine ⟨v, hv, fun a ha b hb => ?_⟩
    cases e : D rows a b with
    | some x =>
      obtain ⟨l, s, hp, hs⟩ := told_path hv (d_told hv e)
      obtain ⟨z, ez, lz⟩ := fw_path W R C hp ha
      obtain ⟨y, ey, ly⟩ := told_d hv (W.snd a b z ez)
      rw [e] at ey
      injection ey with ey
      rw [ez]
      congr 1
      omega
    | none =>
      cases e2 : F a b with
      | none => rfl
      | some z =>
        obtain ⟨y, ey, _⟩ := told_d hv (W.snd a b z e2)
        rw [e] at ey
        cases ey
  · have ha : a ∈ ends := by
      cases hp with
      | nil => omega
      | cons hj _ => exact hends _ (List.mem_of_getElem? hj)
    obtain ⟨z, ez, lz⟩ := fw_path W R C hp ha
    exact absurd ⟨a, ha, z, ez, by omega⟩ ng
end
end Lo
namespace Lo
open PySem L2
def top (i : Nat) : Stmt := PySem.Challenge.pw_loopsheds_k05_fewest.main.body.getD i (.Pass ⟨0, 0, 0, 0⟩)
abbrev sWhole : Stmt := top 5
abbrev sSide : Stmt := top 6
abbrev sDiff : Stmt := top 7
abbrev sRead : Stmt := top 8

section
variable {P : Program} {w : World} {K : PySem.W.Frag} {mg : Str → Option Value} {base : Heap}
/-! ### is_whole, is_side, is_difference -/
def spWhole : Sp := fun vs H Q _ => ∃ i : Int, vs = [.int i] ∧ Q (.bl true) H
theorem scWhole : FnScope ["thing"] ["thing"] (defScope sWhole) := ⟨rfl, rfl, rfl, by decide +kernel, rfl, by decide +kernel, by decide +kernel⟩
theorem ok_whole {f : Addr} {fd : FuncData} (F : Fun K "is_whole" "is_whole" sWhole f fd) (T : Blt mg) : FnOk P w K mg base CX0 1 f fd ["thing"] spWhole := by
  refine F.ok scWhole (fun vs H Q E h => ?_) (fun cdv A outer s H vs Q E hr h => ?_)
  · obtain ⟨i, rfl, _⟩ := h
    rfl
  · obtain ⟨i, rfl, q⟩ := h
    refine ⟨_, pss_one (ps_ret (pe_and (pe_callB call_isi (by rfl) T.isi PyProof.Rows.boot_isinstance (pa_cons (pv 0) (pa_cons (pe_bltn (v := .ty "int") rfl T.int PyProof.Rows.boot_int rfl) pa_nil)))
      (pe_one (pe_not (pe_callB call_isi (by rfl) T.isi PyProof.Rows.boot_isinstance (pa_cons (pv 0) (pa_cons (pe_bltn (v := .ty "bool") rfl T.bool PyProof.Rows.boot_bool rfl) pa_nil))))))), ?_⟩
    refine ⟨_, rfl, _, _, _, _, true, rfl, .ty _, .base (.int _), kit_ty (by decide +kernel), true, rfl, iteT ?_⟩
    exact ⟨_, rfl, _, _, _, _, false, rfl, .ty _, .base (.int _), kit_ty (by decide +kernel), false, rfl, q⟩
def spSide : Sp := fun vs H Q _ => ∃ x : Str, vs = [.str x] ∧ x ≠ ("" : Str) ∧ Q (.bl true) H
theorem scSide : FnScope ["thing"] ["thing"] (defScope sSide) := ⟨rfl, rfl, rfl, by decide +kernel, rfl, by decide +kernel, by decide +kernel⟩
theorem ok_side {f : Addr} {fd : FuncData} (F : Fun K "is_side" "is_side" sSide f fd) (T : Blt mg) : FnOk P w K mg base CX0 1 f fd ["thing"] spSide := by
  refine F.ok scSide (fun vs H Q E h => ?_) (fun cdv A outer s H vs Q E hr h => ?_)
  · obtain ⟨i, rfl, _⟩ := h
    rfl
  · obtain ⟨x, rfl, hx, q⟩ := h
    refine ⟨_, pss_one (ps_ret (pe_and (pe_callB call_isi (by rfl) T.isi PyProof.Rows.boot_isinstance (pa_cons (pv 0) (pa_cons (pe_bltn (v := .ty "str") rfl T.str PyProof.Rows.boot_str rfl) pa_nil)))
      (pe_one (pe_cmpR op_ne (pv 0) pe_str (nomark _))))), ?_⟩
    refine ⟨_, rfl, _, _, _, _, true, rfl, .ty _, .base (.str _), kit_ty (by decide +kernel), true, rfl, iteT ?_⟩
    refine ⟨_, rfl, rfl, ?_⟩
    rw [decide_eq_false (fun e => hx (V.str.inj e))]
    exact q
def spDiff : Sp := fun vs H Q _ => ∃ (p : Addr) (r : SRow), vs = [.ref p] ∧ RowA H p r ∧ Good1 r ∧ ∀ H', Same H H' → Q (.bl true) H'
theorem scDiff : FnScope ["thing", "left", "right", "limit"] ["thing"] (defScope sDiff) := ⟨rfl, rfl, rfl, by decide +kernel, rfl, by decide +kernel, by decide +kernel⟩
/-- a, b, c = a tuple or a list -/
theorem pg_either {X : Cx} {pos : Pos} {es : List Expr} {k : Nat} {t : TGs} {n : Nat} (hc : X.calm = true) (h : PGs X es t)
    (hn : (assignEach es X.env).length = n := by rfl) (hst : (assignEach es X.env).findIdx? (·.1) = none := by rfl) :
    PG X (.Tuple es k pos) (fun v σ H Q => gTup X.K n t v σ H Q ∨ gUnl X.K n t v σ H Q) := by
  refine ⟨fun pins s σ H v u Q I r hw => ?_⟩
  rcases hw with hw | hw
  · exact (pg_tup hc h hn hst).run pins s σ H v u Q I r hw
  · exact (pg_unl hc h hn hst).run pins s σ H v u Q I r hw
theorem ok_diff {f fS fW : Addr} {fd fdS fdW : FuncData} (F : Fun K "is_difference" "is_difference" sDiff f fd) (T : Blt mg) (FS : Fun K "is_side" "is_side" sSide fS fdS) (bS : Binds K fdS ["thing"] []) (gS : mg "is_side" = some (.ref fS))
    (FW : Fun K "is_whole" "is_whole" sWhole fW fdW) (bW : Binds K fdW ["thing"] []) (gW : mg "is_whole" = some (.ref fW)) : FnOk P w K mg base CX0 2 f fd ["thing"] spDiff := by
  have GS : FnOk P w K mg base CX0 1 fS fdS ["thing"] spSide := ok_side FS T
  have GW : FnOk P w K mg base CX0 1 fW fdW ["thing"] spWhole := ok_whole FW T
  refine F.ok scDiff (fun vs H Q E h => ?_) (fun cdv A outer s H vs Q E hr h => ?_)
  · obtain ⟨p, r, rfl, _⟩ := h
    rfl
  · obtain ⟨p, r, rfl, hR, ⟨g1, g2, g3⟩, q⟩ := h
    refine ⟨_, pss_cons (ps_if (PW.pt (pw_or (pt_not (pt_val (pe_callB call_isiT (by rfl) T.isi PyProof.Rows.boot_isinstance (pa_cons (pv 0)
            (pa_cons (pe_tup (pa_cons (pe_bltn (v := .ty "tuple") rfl T.tuple PyProof.Rows.boot_tuple rfl) (pa_cons (pe_bltn (v := .ty "list") rfl T.list PyProof.Rows.boot_list rfl) pa_nil))) pa_nil)))))
          (pw_or1 (pt_cmpR op_ne (pe_callB call_len_seq (by rfl) T.len PySem.boot_len (pa_cons (pv 0) pa_nil)) pe_int (nomark _)))))
        (pss_one (ps_ret pe_bl)) pss_nil)
      (pss_cons (ps_asg (pv 0) (pg_either rfl (pgs_cons (pg_name (i := 1) scDiff.nd rfl (.inl rfl)) (pgs_cons (pg_name (i := 2) scDiff.nd rfl (.inl rfl)) (pgs_cons (pg_name (i := 3) scDiff.nd rfl (.inl rfl)) pgs_nil)))))
      (pss_one (ps_ret (pe_and (pe_call GS hr (by rfl) gS FS.kp bS .nil pass0 (pa_cons (pv 1) pa_nil)) (pe_and (pe_call GS hr (by rfl) gS FS.kp bS .nil pass0 (pa_cons (pv 2) pa_nil))
        (pe_and (pe_cmpR op_ne (pv 1) (pv 2) (nomark _)) (pe_one (pe_call GW hr (by rfl) gW FW.kp bW .nil pass0 (pa_cons (pv 3) pa_nil))))))))), ?_⟩
    refine ⟨_, rfl, by show 2 ≤ sizeLine; decide, fun tp ntp => ?_⟩
    have s1 : Same H (upd H tp (.tup [.ty "tuple", .ty "list"])) := same_upd ntp
    have hR1 := hR.same s1
    rcases hR1 with hR1 | hR1
    · refine ⟨.ref p, tp, _, _, [.type "tuple", .type "list"], true, rfl, upd_same, .cons (.ty _) (.cons (.ty _) .nil), .base (.tup hR1), ?_, ?_⟩
      · exact kitAny_cons (b := true) (kit_ty (by decide +kernel)) (fun z => nomatch z) (fun _ => rfl)
      · refine ⟨true, rfl, iteF ⟨.ref p, rfl, p, rowV r, rfl, .inr (SqT.of hR1), rfl, false, rfl, iteF ?_⟩⟩
        refine ⟨.ref p, rfl, .inl ⟨p, rowV r, rfl, SqT.of hR1, rfl, ?_⟩⟩
        refine ⟨_, _, rfl, _, _, rfl, _, _, rfl, rfl, ?_⟩
        refine ⟨_, rfl, _, rfl, g2, true, rfl, iteT ?_⟩
        refine ⟨_, rfl, _, rfl, g3, true, rfl, iteT ?_⟩
        refine ⟨_, rfl, _, rfl, rfl, _, rfl, ?_⟩
        rw [decide_eq_false (fun e => g1 (V.str.inj e))]
        exact iteT ⟨_, rfl, _, rfl, q _ s1⟩
    · refine ⟨.ref p, tp, _, _, [.type "tuple", .type "list"], true, rfl, upd_same, .cons (.ty _) (.cons (.ty _) .nil), .base (.lst hR1), ?_, ?_⟩
      · exact kitAny_cons (b := false) (kit_ty (by decide +kernel)) (fun _ => kitAny_cons (b := true) (kit_ty (by decide +kernel)) (fun z => nomatch z) (fun _ => rfl)) (fun z => nomatch z)
      · refine ⟨true, rfl, iteF ⟨.ref p, rfl, p, rowV r, rfl, .inl (SqL.of hR1), rfl, false, rfl, iteF ?_⟩⟩
        refine ⟨.ref p, rfl, .inr ⟨p, rowV r, rfl, SqL.of hR1, rfl, ?_⟩⟩
        refine ⟨_, _, rfl, _, _, rfl, _, _, rfl, rfl, ?_⟩
        refine ⟨_, rfl, _, rfl, g2, true, rfl, iteT ?_⟩
        refine ⟨_, rfl, _, rfl, g3, true, rfl, iteT ?_⟩
        refine ⟨_, rfl, _, rfl, rfl, _, rfl, ?_⟩
        rw [decide_eq_false (fun e => g1 (V.str.inj e))]
        exact iteT ⟨_, rfl, _, rfl, q _ s1⟩
end
end Lo
namespace Lo
open PySem L2
section
variable {P : Program} {w : World} {K : PySem.W.Frag} {mg : Str → Option Value} {base : Heap}
/-! ### read_system -/
def spRead : Sp := fun vs H Q _ => ∃ (a : Addr) (rows : List SRow), vs = [.ref a] ∧ Sys RowA H a rows ∧ Good rows ∧ ∀ H' q, Same H H' → H q = none → Sys RowT H' q rows → Q (.ref q) H'
theorem scRead : FnScope ["system", "found", "place", "entry"] ["system"] (defScope sRead) := ⟨rfl, rfl, rfl, by decide +kernel, rfl, by decide +kernel, by decide +kernel⟩
theorem ok_read {f fD : Addr} {fd fdD : FuncData} (F : Fun K "read_system" "read_system" sRead f fd) (T : Blt mg) (GD : FnOk P w K mg base CX0 2 fD fdD ["thing"] spDiff) (kD : PySem.W.keepIn K (.ref fD) = true) (bD : Binds K fdD ["thing"] []) (gD : mg "is_difference" = some (.ref fD)) :
    FnOk P w K mg base CX0 3 f fd ["system"] spRead := by
  refine F.ok scRead (fun vs H Q E h => ?_) (fun cdv A outer s H vs Q E hr h => ?_)
  · obtain ⟨a, rows, rfl, _⟩ := h
    rfl
  · obtain ⟨a, rows, rfl, ⟨ps, hA, hl, hat⟩, g, q⟩ := h
    refine ⟨_, pss_cons (ps_set (i := 1) scRead.nd rfl (.inl rfl) (pe_lst pa_nil))
      (pss_cons (ps_for PassesOwn.never rfl (pi_enum (by rfl) T.enum (pa_cons (pv 0) pa_nil)) (pg_tup rfl (pgs_cons (pg_name (i := 2) scRead.nd rfl (.inl rfl)) (pgs_cons (pg_name (i := 3) scRead.nd rfl (.inl rfl)) pgs_nil)))
        (pss_cons (ps_if (pt_not (pt_val (pe_call GD hr (by rfl) gD kD bD .nil pass0 (pa_cons (pv 3) pa_nil)))) (pss_one ps_never) pss_nil)
        (pss_one (ps_expr (pe_bm PySem.F.plainAttrs_list PySem.F.slot_list_append PySem.F.type_list_append mt_append (pv 1)
          (pa_cons (pe_callTy call_tuple_of (by rfl) T.tuple PyProof.Rows.boot_tuple (pa_cons (pv 3) pa_nil)) pa_nil))))))
      (pss_one (ps_ret (pv 1)))), ?_⟩
    refine ⟨Nat.zero_le _, fun o no => ?_⟩
    have s1 : Same H (upd H o (.lst [])) := same_upd no
    refine ⟨.ref a, rfl, a, ps.map V.ref, rfl, SqL.of (s1 _ _ hA), for_it walk_enum (fun i σ H' => ∃ (y2 y3 : Option V) (qs : List Addr), σ = [some (.ref a), some (.ref o), y2, y3] ∧ Same H H' ∧ H' o = some (.lst (qs.map V.ref)) ∧ qs.length = i ∧
        ∀ (j : Nat) (p : Addr) (r : SRow), qs[j]? = some p → rows[j]? = some r → RowT H' p r) ⟨none, none, [], rfl, s1, upd_same, rfl, fun j p r e => nomatch e⟩ (fun i σ H' _ ⟨_, _, _, _, sm, _⟩ => SqL.of (sm _ _ hA)) ?_ ?_⟩
    · rintro i x σ H1 H2 hi ⟨y2, y3, qs, rfl, sm, ho, hq, hrow⟩ ⟨tp, x1, x2, rfl, ntp, rfl, e1, e2⟩
      obtain ⟨p, r, rfl, hp, hrr, hmem, hlt, hR⟩ := Sys.at hl hat e2
      have smT : Same H1 (upd H1 tp (.tup [x1, .ref p])) := same_upd ntp
      refine ⟨tp, _, rfl, SqT.of upd_same, rfl, _, _, rfl, _, _, rfl, rfl, ?_⟩
      refine ⟨.ref p, rfl, p, r, rfl, (hR.same sm).same smT, g.row r hmem, fun H3 s3 => ⟨true, rfl, iteF ?_⟩⟩
      have ho3 : H3 o = some (.lst (qs.map V.ref)) := s3 _ _ (smT _ _ ho)
      have sm3 : Same H1 H3 := smT.trans s3
      have fin : ∀ (H4 : Hp) (p' : Addr), Same H3 H4 → RowT H4 p' r → ∃ y2' y3' qs', [some (V.ref a), some (.ref o), some x1, some (.ref p)] = [some (.ref a), some (.ref o), y2', y3'] ∧ Same H (upd H4 o (.lst (qs.map V.ref ++ [.ref p']))) ∧
          upd H4 o (.lst (qs.map V.ref ++ [.ref p'])) o = some (.lst (List.map V.ref qs')) ∧ qs'.length = i + 1 ∧ ∀ (j : Nat) (p : Addr) (r : SRow), qs'[j]? = some p → rows[j]? = some r → RowT (upd H4 o (.lst (qs.map V.ref ++ [.ref p']))) p r := by
        intro H4 p' s4 hR4
        have out : ∀ (b : Addr) (r : SRow), RowT H4 b r → RowT (upd H4 o (.lst (qs.map V.ref ++ [.ref p']))) b r := fun b r hb => by
          have nb : b ≠ o := ne_of hb (s4 _ _ ho3) (by intro z; cases z)
          show upd H4 o _ b = _
          rw [upd_ne nb]
          exact hb
        refine ⟨_, _, qs ++ [p'], rfl, ((sm.trans sm3).trans s4).later no, ?_, by rw [List.length_append, hq]; rfl, fun j pj rj hj hr' => ?_⟩
        · rw [upd_same, List.map_append]
          rfl
        · by_cases k : j < i
          · rw [List.getElem?_append_left (by omega)] at hj
            exact out _ _ ((hrow j pj rj hj hr').same (sm3.trans s4))
          · have hj2 : j = i := by
              have := (List.getElem?_eq_some_iff.mp hj).1
              rw [List.length_append, List.length_singleton] at this
              omega
            subst hj2
            rw [List.getElem?_append_right (by omega), hq, Nat.sub_self] at hj
            have e : p' = pj := Option.some.inj hj
            rw [hrr] at hr'
            have e' : r = rj := Option.some.inj hr'
            subst e e'
            exact out _ _ hR4
      have hlen : (qs.map V.ref).length < sizeLine := by
        rw [List.length_map, hq]
        exact small1000 (by have := g.few; omega)
      have hR3 := ((hR.same sm).same sm3)
      refine ⟨.ref o, rfl, .inl ⟨rfl, _, SqL.of ho3⟩, .ref p, rfl, p, rowV r, rfl, ?_⟩
      rcases hR3 with hR3 | hR3
      · exact .inr ⟨SqT.of hR3, o, _, _, rfl, rfl, ho3, hlen, fin H3 p (Same.refl _) hR3⟩
      · refine .inl ⟨SqL.of hR3, fun l nl => ?_⟩
        have s4 : Same H3 (upd H3 l (.tup (rowV r))) := same_upd nl
        exact ⟨o, _, _, rfl, rfl, s4 _ _ ho3, hlen, fin _ l s4 upd_same⟩
    · rintro σ H1 ⟨y2, y3, qs, rfl, sm, ho, hq, hrow⟩
      rw [List.length_map] at hq
      exact ⟨.ref o, rfl, q H1 o sm no ⟨qs, ho, hq.trans hl, hrow⟩⟩
/-! ### names_of -/
def Named (rows : List SRow) (x : Str) : Prop := ∃ r ∈ rows, x = r.1 ∨ x = r.2.1
def spNames : Sp := fun vs H Q _ => ∃ (a : Addr) (rows : List SRow), vs = [.ref a] ∧ Sys RowT H a rows ∧ Good rows ∧
  ∀ H' q (ks : List Str), Same H H' → H q = none → H' q = some (.lst (ks.map V.str)) → ks.Nodup → ks.length ≤ 200 → (∀ x, x ∈ ks ↔ x ≠ "0" ∧ Named rows x) → Q (.ref q) H'
/-- the names of the first i rows -/
def namesTo (rows : List SRow) : Nat → List Str
  | 0 => []
  | i + 1 => match rows[i]? with
    | some r => addN (addN (namesTo rows i) r.1) r.2.1
    | none => namesTo rows i
theorem namesTo_succ {rows : List SRow} {i : Nat} {r : SRow} (h : rows[i]? = some r) : namesTo rows (i + 1) = addN (addN (namesTo rows i) r.1) r.2.1 := by
  show (match rows[i]? with
    | some r => addN (addN (namesTo rows i) r.1) r.2.1
    | none => namesTo rows i) = _
  rw [h]
theorem namesTo_len (rows : List SRow) : ∀ i, (namesTo rows i).length ≤ 2 * i
  | 0 => Nat.le_refl _
  | i + 1 => by
    have ih := namesTo_len rows i
    show (match rows[i]? with
      | some r => addN (addN (namesTo rows i) r.1) r.2.1
      | none => namesTo rows i).length ≤ _
    cases rows[i]? with
    | none => simp only; omega
    | some r =>
      have h1 := length_addN (l := namesTo rows i) (x := r.1)
      have h2 := length_addN (l := addN (namesTo rows i) r.1) (x := r.2.1)
      simp only
      omega
theorem namesTo_nd (rows : List SRow) : ∀ i, (namesTo rows i).Nodup
  | 0 => List.nodup_nil
  | i + 1 => by
    have ih := namesTo_nd rows i
    show (match rows[i]? with
      | some r => addN (addN (namesTo rows i) r.1) r.2.1
      | none => namesTo rows i).Nodup
    cases rows[i]? with
    | none => exact ih
    | some r => exact nodup_addN (nodup_addN ih)
theorem namesTo_mem (rows : List SRow) (x : Str) : ∀ i, i ≤ rows.length → (x ∈ namesTo rows i ↔ ∃ (j : Nat) (r : SRow), j < i ∧ rows[j]? = some r ∧ (x = r.1 ∨ x = r.2.1))
  | 0, _ => ⟨fun h => absurd h List.not_mem_nil, fun ⟨j, _, h, _⟩ => absurd h (Nat.not_lt_zero _)⟩
  | i + 1, hi => by
    have ih := namesTo_mem rows x i (by omega)
    have e : rows[i]? = some rows[i] := List.getElem?_eq_getElem (by omega)
    rw [namesTo_succ e, mem_addN, mem_addN, ih]
    constructor
    · rintro ((⟨j, r, h1, h2, h3⟩ | h) | h)
      · exact ⟨j, r, by omega, h2, h3⟩
      · exact ⟨i, _, by omega, e, .inl h⟩
      · exact ⟨i, _, by omega, e, .inr h⟩
    · rintro ⟨j, r, h1, h2, h3⟩
      by_cases k : j = i
      · subst k
        rw [e] at h2
        have := Option.some.inj h2
        subst this
        exact h3.elim (fun z => .inl (.inr z)) .inr
      · exact .inl (.inl ⟨j, r, by omega, h2, h3⟩)
theorem namesTo_all {rows : List SRow} {x : Str} : x ∈ namesTo rows rows.length ↔ Named rows x := by
  rw [namesTo_mem rows x _ (Nat.le_refl _)]
  constructor
  · rintro ⟨j, r, _, h2, h3⟩
    exact ⟨r, List.mem_of_getElem? h2, h3⟩
  · rintro ⟨r, h2, h3⟩
    obtain ⟨j, hj, e⟩ := List.getElem_of_mem h2
    exact ⟨j, r, hj, by rw [List.getElem?_eq_getElem hj, e], h3⟩
end
end Lo
namespace Lo
open PySem L2
abbrev sThrough : Stmt := top 26
abbrev sTurn : Stmt := top 25
theorem Ch.first {α : Type} [DecidableEq α] {g : Gr α} {x y : α} {l : List α} {s : Int} (h : Ch g x l y s) : ∃ l' s', Ch g x l' y s' ∧ ∀ a ∈ l', a ≠ y := by
  induction h with
  | nil x => exact ⟨[], 0, Ch.nil x, fun a ha => absurd ha List.not_mem_nil⟩
  | @cons x y z c s l e h ih =>
    by_cases j : x = z
    · subst j
      exact ⟨[], 0, Ch.nil x, fun a ha => absurd ha List.not_mem_nil⟩
    · obtain ⟨l'', s'', h1, h2⟩ := ih
      exact ⟨x :: l'', _, Ch.cons e h1, fun a ha => (List.mem_cons.mp ha).elim (fun q => q ▸ j) (h2 a)⟩
theorem Ch.distinct {α : Type} [DecidableEq α] {g : Gr α} {start name : α} {v l : List α} {s t : Int} (h : Ch g start (start :: v) name s) (hv : ∀ x ∈ v, x ≠ start) (h2 : Ch g name l start t) : (start :: v).Nodup := by
  obtain ⟨l3, s3, h3, hl3⟩ := h2.first
  cases h with
  | cons e h =>
    have h5 := (h.append h3).nodup (S := fun x => x = start) rfl fun x hx => (List.mem_append.mp hx).elim (hv x) (hl3 x)
    exact List.nodup_cons.mpr ⟨fun n => hv _ n rfl, (List.nodup_append.mp h5).1⟩
section
variable {P : Program} {w : World} {K : PySem.W.Frag} {mg : Str → Option Value} {base : Heap}
/-- causes: a dict of places at c -/
def Caus (H : Hp) (c : Addr) (cs : List Str) (cz : Str → Nat) : Prop := H c = some (.dK (dS cs fun x => .int (cz x : Nat)))
theorem Caus.same {H H' : Hp} {c : Addr} {cs : List Str} {cz : Str → Nat} (s : Same H H') (h : Caus H c cs cz) : Caus H' c cs cz := s _ _ h
/-- a ring that was found: a list of its places at q -/
def RingAt (H : Hp) (q : Addr) (rows : List SRow) : Prop := ∃ found : List Nat, H q = some (.lst (found.map fun i : Nat => V.int (i : Int))) ∧ RingOk rows found ∧ found.length ≤ 200
theorem RingAt.same {H H' : Hp} {q : Addr} {rows : List SRow} (s : Same H H') (h : RingAt H q rows) : RingAt H' q rows := by
  obtain ⟨f, h1, h2⟩ := h
  exact ⟨f, s _ _ h1, h2⟩
/-! ### _ring_through -/
def spThrough : Sp := fun vs H Q _ => ∃ (a c : Addr) (start : Str) (rows : List SRow) (cs : List Str) (cz : Str → Nat) (val : Str → Int) (l : List Str) (s : Int), vs = [.ref a, .ref c, .str start] ∧ Sys RowT H a rows ∧ Good rows ∧ Caus H c cs cz ∧ cs.length ≤ 200 ∧
  Lk rows cs cz ∧ Low rows val (gOf rows cs cz) ∧ l ≠ [] ∧ Ch (gOf rows cs cz) start l start s ∧ ∀ H' q, Same H H' → RingAt H' q rows → Q (.ref q) H'
theorem scThrough : FnScope ["differences", "causes", "start", "found", "name"] ["differences", "causes", "start"] (defScope sThrough) := ⟨rfl, rfl, rfl, by decide +kernel, rfl, by decide +kernel, by decide +kernel⟩
theorem ok_through {f : Addr} {fd : FuncData} (F : Fun K "_ring_through" "_ring_through" sThrough f fd) : FnOk P w K mg base CX0 1 f fd ["differences", "causes", "start"] spThrough := by
  refine F.ok scThrough (fun vs H Q E h => ?_) (fun cdv A outer s H vs Q E hr h => ?_)
  · obtain ⟨a, c, start, rows, cs, cz, val, l, s, rfl, _⟩ := h
    rfl
  · obtain ⟨a, c, start, rows, cs, cz, val, l, sm, rfl, ⟨ps, hA, hl, hat⟩, g, hC, hcs, lk, L, hne, hch, q⟩ := h
    have hu := hu_of hr
    refine ⟨_, pss_cons (ps_set (i := 3) scThrough.nd rfl (.inl rfl) (pe_lst (pa_cons (pe_dget hu (pv 1) (pv 2) (fun _ _ => rfl)) pa_nil)))
      (pss_cons (ps_set (i := 4) scThrough.nd rfl (.inl rfl) (pe_ix ix_tup (pe_ix ix_list (pv 0) (pe_dget hu (pv 1) (pv 2) (fun _ _ => rfl)) (fun _ _ => rfl)) pe_int (fun _ _ => rfl)))
      (pss_cons (ps_while PassesOwn.never (pt_cmpR op_ne (pv 4) (pv 2) (nomark _))
        (pss_cons (ps_expr (pe_bm PySem.F.plainAttrs_list PySem.F.slot_list_append PySem.F.type_list_append mt_append (pv 3) (pa_cons (pe_dget hu (pv 1) (pv 4) (fun _ _ => rfl)) pa_nil)))
        (pss_one (ps_set (i := 4) scThrough.nd rfl (.inl rfl) (pe_ix ix_tup (pe_ix ix_list (pv 0) (pe_dget hu (pv 1) (pv 4) (fun _ _ => rfl)) (fun _ _ => rfl)) pe_int (fun _ _ => rfl))))))
      (pss_one (ps_ret (pv 3))))), ?_⟩
    -- the row of a name with a cause
    have rowOf : ∀ {H' : Hp} {x y : Str} {k : Int}, Same H H' → gOf rows cs cz x = some (y, k) → x ∈ cs ∧ ∃ p, (ps.map V.ref)[cz x]? = some (.ref p) ∧ H' p = some (.tup (rowV (x, y, k))) := fun {H' x y k} s1 e => by
      obtain ⟨m, e2⟩ := gOf_some lk e
      have hi : cz x < ps.length := by
        rw [hl]
        exact (List.getElem?_eq_some_iff.mp e2).1
      refine ⟨m, ps[cz x], by rw [List.getElem?_map, List.getElem?_eq_getElem hi]; rfl, ?_⟩
      exact (hat (cz x) _ _ (List.getElem?_eq_getElem hi) e2).same s1
    obtain ⟨y0, k0, s0, l0, e0, h0, hl0⟩ : ∃ y k s' l', gOf rows cs cz start = some (y, k) ∧ Ch (gOf rows cs cz) y l' start s' ∧ l = start :: l' := by
      cases hch with
      | nil => exact absurd rfl hne
      | @cons _ y _ k s' l' e h => exact ⟨y, k, s', l', e, h, rfl⟩
    obtain ⟨m0, p0, hp0, hr0⟩ := rowOf (Same.refl H) e0
    refine ⟨.ref c, rfl, .str start, rfl, c, _, rfl, dget hC m0, by show 1 ≤ sizeLine; decide, fun o no => ?_⟩
    have s1 : Same H (upd H o (.lst [.int (cz start : Nat)])) := same_upd no
    have gC1 := hC.same s1
    refine ⟨.ref a, rfl, .ref c, rfl, .str start, rfl, c, _, rfl, dget gC1 m0, a, _, _, _, rfl, rfl, SqL.of (s1 _ _ hA), atI_nat hp0, p0, _, 1, _, rfl, rfl, SqT.of (s1 _ _ hr0), atI_nat (j := 1) rfl, ?_⟩
    refine ⟨fun m σ H' => ∃ (v2 : List Str) (name : Str) (l2 : List Str) (s1 s2 : Int), σ = [some (.ref a), some (.ref c), some (.str start), some (.ref o), some (.str name)] ∧ Same H H' ∧
      H' o = some (.lst ((start :: v2).map fun x => V.int (cz x : Nat))) ∧ Ch (gOf rows cs cz) start (start :: v2) name s1 ∧ (∀ x ∈ v2, x ≠ start) ∧ Ch (gOf rows cs cz) name l2 start s2 ∧ m = l2.length,
      ⟨l0.length, [], y0, l0, _, s0, rfl, s1, upd_same, Ch.cons e0 (Ch.nil y0), fun x hx => absurd hx List.not_mem_nil, h0, rfl⟩, ?_⟩
    rintro m σ H1 ⟨v2, name, l2, t1, t2, rfl, sm1, ho, hw, hv, hw2, rfl⟩
    have few : (start :: v2).length ≤ 200 := by
      refine Nat.le_trans (nodup_le (start :: v2) cs ?_ ?_) hcs
      · exact hw.distinct hv hw2
      · intro x hx
        cases e : gOf rows cs cz x with
        | none => exact absurd e (hw.mem_some x hx)
        | some yk => exact (gOf_some lk (y := yk.1) (c := yk.2) e).1
    refine ⟨_, rfl, _, rfl, rfl, _, rfl, ?_⟩
    by_cases z : name = start
    · subst z
      have ez : (!decide (V.str name = V.str name)) = false := by rw [decide_eq_true rfl]; rfl
      rw [ez]
      refine iteF ⟨.ref o, rfl, q H1 o sm1 ⟨(name :: v2).map cz, ?_, ring_read lk L (fun r hr => (g.row r hr).1) hw hv, ?_⟩⟩
      · rw [ho, List.map_map]
        rfl
      · rw [List.length_map]
        exact few
    · have ez : (!decide (V.str name = V.str start)) = true := by
        rw [decide_eq_false fun e => z (V.str.inj e)]
        rfl
      rw [ez]
      obtain ⟨y, k, s', l', e, h, rfl⟩ : ∃ y k s' l', gOf rows cs cz name = some (y, k) ∧ Ch (gOf rows cs cz) y l' start s' ∧ l2 = name :: l' := by
        cases hw2 with
        | nil => exact absurd rfl z
        | @cons _ y _ k s' l' e h => exact ⟨y, k, s', l', e, h, rfl⟩
      obtain ⟨mN, pN, hpN, hrN⟩ := rowOf sm1 e
      have gC2 := hC.same sm1
      refine iteT ⟨fun σ' H' => ∃ (v2 : List Str) (s1 s2 : Int), σ' = [some (.ref a), some (.ref c), some (.str start), some (.ref o), some (.str y)] ∧ Same H H' ∧
        H' o = some (.lst ((start :: v2).map fun x => V.int (cz x : Nat))) ∧ Ch (gOf rows cs cz) start (start :: v2) y s1 ∧ (∀ x ∈ v2, x ≠ start) ∧ Ch (gOf rows cs cz) y l' start s2,
        fun σ' H' hN => ?_, ?_⟩
      · obtain ⟨v3, s3, s4, r1, r2, r3, r4, r5, r6⟩ := hN
        exact ⟨l'.length, Nat.lt_succ_self _, v3, y, l', s3, s4, r1, r2, r3, r4, r5, r6, rfl⟩
      · refine ⟨.ref o, rfl, .inl ⟨rfl, _, SqL.of ho⟩, .ref c, rfl, .str name, rfl, c, _, rfl, dget gC2 mN, o, _, _, rfl, rfl, ho, by rw [List.length_map]; exact small1000 (by omega), ?_⟩
        have nco : c ≠ o := ne_of gC2 ho (by intro z; cases z)
        have sm2 : Same H (upd H1 o (.lst ((start :: v2).map (fun x => V.int (cz x : Nat)) ++ [.int (cz name : Nat)]))) := sm1.later no
        obtain ⟨mN2, pN2, hpN2, hrN2⟩ := rowOf sm2 e
        refine ⟨.ref a, rfl, .ref c, rfl, .str name, rfl, c, _, rfl, dget (hC.same sm2) mN, a, _, _, _, rfl, rfl, SqL.of (sm2 _ _ hA), atI_nat hpN2, pN2, _, 1, _, rfl, rfl, SqT.of hrN2, atI_nat (j := 1) rfl, ?_⟩
        refine ⟨v2 ++ [name], _, s', rfl, sm2, ?_, hw.snoc e, fun x hx => ?_, h⟩
        · rw [upd_same, ← List.cons_append, List.map_append]
          rfl
        · rcases List.mem_append.mp hx with r | r
          · exact hv x r
          · rw [List.mem_singleton] at r
            exact r ▸ z
end
end Lo
namespace Lo
open PySem L2
theorem put_map {α β γ : Type} [DecidableEq α] (F : β → γ) (f : α → β) (a : α) (b : β) : put (fun x => F (f x)) a (F b) = fun x => F (put f a b x) := by
  funext x
  unfold put
  split <;> rfl
section
variable {P : Program} {w : World} {K : PySem.W.Frag} {mg : Str → Option Value} {base : Heap}
def spTurn : Sp := fun vs H Q _ => ∃ (a c : Addr) (rows : List SRow) (cs : List Str) (cz : Str → Nat) (val : Str → Int), vs = [.ref a, .ref c] ∧ Sys RowT H a rows ∧ Good rows ∧ Caus H c cs cz ∧ cs.length ≤ 200 ∧
  Lk rows cs cz ∧ Low rows val (gOf rows cs cz) ∧ ∀ H' x, Same H H' → ((x = .non ∧ ∀ y, Ends (gOf rows cs cz) y) ∨ ∃ q, x = .ref q ∧ RingAt H' q rows) → Q x H'
theorem scTurn : FnScope ["differences", "causes", "rounds", "number", "start", "name"] ["differences", "causes"] (defScope sTurn) := ⟨rfl, rfl, rfl, by decide +kernel, rfl, by decide +kernel, by decide +kernel⟩
theorem ok_turn {f fR : Addr} {fd fdR : FuncData} (F : Fun K "_turn" "_turn" sTurn f fd) (T : Blt mg) (GR : FnOk P w K mg base CX0 1 fR fdR ["differences", "causes", "start"] spThrough) (kR : PySem.W.keepIn K (.ref fR) = true)
    (bR : Binds K fdR ["differences", "causes", "start"] []) (gR : mg "_ring_through" = some (.ref fR)) : FnOk P w K mg base CX0 2 f fd ["differences", "causes"] spTurn := by
  refine F.ok scTurn (fun vs H Q E h => ?_) (fun cdv A outer s H vs Q E hr h => ?_)
  · obtain ⟨a, c, rows, cs, cz, val, rfl, _⟩ := h
    rfl
  · obtain ⟨a, c, rows, cs, cz, val, rfl, hS, g, hC, hcs, lk, L, q⟩ := h
    have hS0 := hS
    obtain ⟨ps, hA, hl, hat⟩ := hS
    have hu := hu_of hr
    refine ⟨_, pss_cons (ps_set (i := 2) scTurn.nd rfl (.inl rfl) pe_dnewK)
      (pss_cons (ps_for PassesOwn.never rfl (pi_enum (by rfl) T.enum (pa_cons (pe_callTy (call_listD rfl) (by rfl) T.list PyProof.Rows.boot_list (pa_cons (pv 1) pa_nil)) pa_nil))
          (pg_tup rfl (pgs_cons (pg_name (i := 3) scTurn.nd rfl (.inl rfl)) (pgs_cons (pg_name (i := 4) scTurn.nd rfl (.inl rfl)) pgs_nil)))
        (pss_cons (ps_set (i := 5) scTurn.nd rfl (.inl rfl) (pv 4))
        (pss_cons (ps_while PassesOwn.never (PW.pt (pw_and (pt_cmp (pc_din hu (pv 5) (pv 1))) (pw_and1 (pt_cmp (pc_dnotin hu (pv 5) (pv 2))))))
          (pss_cons (ps_dput hu (pv 2) (pv 5) (pv 3) rfl)
          (pss_one (ps_set (i := 5) scTurn.nd rfl (.inl rfl) (pe_ix ix_tup (pe_ix ix_list (pv 0) (pe_dget hu (pv 1) (pv 5) (fun _ _ => rfl)) (fun _ _ => rfl)) pe_int (fun _ _ => rfl))))))
        (pss_one (ps_if (PW.pt (pw_and (pt_cmp (pc_din hu (pv 5) (pv 1))) (pw_and1 (pt_cmpR op_eq (pe_dget hu (pv 2) (pv 5) (fun _ _ => rfl)) (pv 3) (nomark _)))))
          (pss_one (ps_ret (pe_call GR hr (by rfl) gR kR bR .nil pass0 (pa_cons (pv 0) (pa_cons (pv 1) (pa_cons (pv 5) pa_nil)))))) pss_nil)))))
      (pss_one (ps_ret pe_non))), ?_⟩
    intro d nd
    have s1 : Same H (upd H d (.dK [])) := same_upd nd
    refine ⟨.ref c, rfl, c, _, rfl, Rd.of (hC.same s1), fun lc nlc => ?_⟩
    have s2 : Same (upd H d (.dK [])) (upd (upd H d (.dK [])) lc (.lst ((dS cs fun x => V.int (cz x : Nat)).map fun kv => kV kv.1))) := same_upd nlc
    have nld : lc ≠ d := fun e => by
      rw [e, upd_same] at nlc
      cases nlc
    rw [dS_keys] at s2 ⊢
    refine ⟨lc, cs.map V.str, rfl, SqL.of upd_same, for_it walk_enum (fun i σ H' => ∃ (y3 y4 y5 : Option V) (rs : List Str) (rn : Str → Nat), σ = [some (.ref a), some (.ref c), some (.ref d), y3, y4, y5] ∧ Same H H' ∧
        H' lc = some (.lst (cs.map V.str)) ∧ H' d = some (.dK (dS rs fun x => .int (rn x : Nat))) ∧ Met (gOf rows cs cz) cs rs rn i)
      ⟨none, none, none, [], fun _ => 0, rfl, s1.trans s2, upd_same, by rw [upd_ne nld.symm, upd_same]; rfl, Met.start _ _ _⟩ (fun i σ H' _ ⟨_, _, _, _, _, _, _, hlc, _⟩ => SqL.of hlc) ?_ ?_⟩
    · rintro i x σ H1 H2 hi ⟨y3, y4, y5, rs, rn, rfl, sm, hlc, hd, M⟩ ⟨tp, x1, x2, rfl, ntp, rfl, e1, e2⟩
      have hi' : i < cs.length := by
        rw [List.length_map] at hi
        exact hi
      obtain rfl : V.int ((i : Nat) : Int) = x1 := Option.some.inj e1
      obtain ⟨start, hst, rfl⟩ : ∃ start, cs[i]? = some start ∧ x2 = .str start := by
        have e2' : (cs.map V.str)[i]? = some x2 := e2
        rw [List.getElem?_map, List.getElem?_eq_getElem hi'] at e2'
        exact ⟨_, List.getElem?_eq_getElem hi', (Option.some.inj e2').symm⟩
      have smT : Same H1 (upd H1 tp (.tup [.int (i : Nat), .str start])) := same_upd ntp
      refine ⟨tp, _, rfl, SqT.of upd_same, rfl, _, _, rfl, _, _, rfl, rfl, ?_⟩
      refine ⟨.str start, rfl, ?_⟩
      refine ⟨fun m σ H' => ∃ (name : Str) (t : List Str) (rn : Str → Nat), σ = [some (.ref a), some (.ref c), some (.ref d), some (.int (i : Nat)), some (.str start), some (.str name)] ∧ Same H H' ∧
        H' lc = some (.lst (cs.map V.str)) ∧ H' d = some (.dK (dS (rs ++ t) fun x => .int (rn x : Nat))) ∧ MetIn (gOf rows cs cz) cs rs rn i start t name ∧ m = cs.length - (rs ++ t).length,
        ⟨cs.length - (rs ++ []).length, start, [], rn, rfl, sm.trans smT, smT _ _ hlc, by rw [List.append_nil]; exact smT _ _ hd, MetIn.start M start, rfl⟩, ?_⟩
      rintro m σ H3 ⟨name, t, rn3, rfl, sm3, hlc3, hd3, M3, rfl⟩
      have gC3 := hC.same sm3
      refine ⟨.str name, rfl, .ref c, rfl, c, _, rfl, dgetI name gC3, _, rfl, ?_⟩
      by_cases hc : name ∈ cs
      · rw [if_pos hc]
        refine iteT ⟨.str name, rfl, .ref d, rfl, d, _, rfl, dgetI name hd3, _, rfl, ?_⟩
        by_cases hn : name ∈ rs ++ t
        · rw [if_pos hn]
          -- met before: of this turn, or of an earlier one
          refine iteF ⟨.str name, rfl, .ref c, rfl, c, _, rfl, dget gC3 hc, _, rfl, iteT ?_⟩
          refine ⟨.ref d, rfl, .str name, rfl, d, _, rfl, dget hd3 hn, .int (i : Nat), rfl, rfl, _, rfl, ite2 (fun e => ?_) (fun e => ?_)⟩
          · have ei : ((rn3 name : Nat) : Int) = (i : Nat) := V.int.inj (of_decide_eq_true e)
            rcases List.mem_append.mp hn with k | k
            · have := (M3.ends name k).2
              omega
            · obtain ⟨_, l, s, hne, hch⟩ := M3.now name k
              refine ⟨.ref a, rfl, .ref c, rfl, .str name, rfl, a, c, name, rows, cs, cz, val, l, s, rfl, hS0.sameT sm3, g, gC3, hcs, lk, L, hne, hch, fun H' q' s' hR => ?_⟩
              exact q H' (.ref q') (sm3.trans s') (.inr ⟨q', rfl, hR⟩)
          · have hE : Ends (gOf rows cs cz) name := by
              rcases List.mem_append.mp hn with k | k
              · exact (M3.ends name k).1
              · have := (M3.now name k).1
                exact absurd (decide_eq_true (by rw [this])) e
            exact ⟨_, _, _, rs ++ t, rn3, rfl, sm3, hlc3, hd3, M3.close hst hE M.past⟩
        · rw [if_neg hn]
          obtain ⟨y, k, ey⟩ := lk name hc
          have eg := gOf_in hc ey
          have room := M3.room hc hn
          have eadd : addN (rs ++ t) name = rs ++ (t ++ [name]) := by
            unfold addN
            rw [if_neg hn, List.append_assoc]
          refine iteT ⟨fun σ' H' => ∃ (rn : Str → Nat), σ' = [some (.ref a), some (.ref c), some (.ref d), some (.int (i : Nat)), some (.str start), some (.str y)] ∧ Same H H' ∧
            H' lc = some (.lst (cs.map V.str)) ∧ H' d = some (.dK (dS (rs ++ (t ++ [name])) fun x => .int (rn x : Nat))) ∧ MetIn (gOf rows cs cz) cs rs rn i start (t ++ [name]) y, fun σ' H' hN => ?_, ?_⟩
          · obtain ⟨rn4, r1, r2, r3, r4, r5⟩ := hN
            refine ⟨cs.length - (rs ++ (t ++ [name])).length, ?_, y, t ++ [name], rn4, r1, r2, r3, r4, r5, rfl⟩
            rw [← List.append_assoc, List.length_append, List.length_singleton]
            omega
          · refine ⟨.int (i : Nat), rfl, .ref d, rfl, .str name, rfl, d, _, rfl, dput name (.int (i : Nat)) hd3 (by omega), ?_⟩
            have sm4 : ∀ o, Same H (upd H3 d o) := fun o => sm3.later nd
            have hi2 : cz name < ps.length := by
              rw [hl]
              exact (List.getElem?_eq_some_iff.mp ey).1
            have hp2 : (ps.map V.ref)[cz name]? = some (.ref ps[cz name]) := by
              rw [List.getElem?_map, List.getElem?_eq_getElem hi2]
              rfl
            have hr2 := hat (cz name) _ _ (List.getElem?_eq_getElem hi2) ey
            refine ⟨.ref a, rfl, .ref c, rfl, .str name, rfl, c, _, rfl, dget (hC.same (sm4 _)) hc, a, _, _, _, rfl, rfl, SqL.of (sm4 _ _ _ hA), atI_nat hp2, ps[cz name], _, 1, _, rfl, rfl, SqT.of (sm4 _ _ _ hr2), atI_nat (j := 1) rfl, ?_⟩
            refine ⟨put rn3 name i, rfl, sm4 _, by rw [upd_ne nld]; exact hlc3, ?_, M3.step hc hn eg⟩
            rw [upd_same, eadd, put_map (fun n : Nat => V.int (n : Int))]
      · rw [if_neg hc]
        -- a name without a cause
        refine iteF ?_
        refine iteF ⟨.str name, rfl, .ref c, rfl, c, _, rfl, dget0 gC3 hc, _, rfl, iteF (iteF ?_)⟩
        exact ⟨_, _, _, rs ++ t, rn3, rfl, sm3, hlc3, hd3, M3.close hst (ends_none (gOf_out hc)) M.past⟩
    · rintro σ H1 ⟨y3, y4, y5, rs, rn, rfl, sm, hlc, hd, M⟩
      rw [List.length_map] at M
      exact q H1 .non sm (.inl ⟨rfl, M.all fun x hx => gOf_out hx⟩)
end
end Lo
namespace Lo
open PySem L2
abbrev sSettled : Stmt := top 24
section
variable {P : Program} {w : World} {K : PySem.W.Frag} {mg : Str → Option Value} {base : Heap}
/-- what the pair at t tells of rows: a ring, or values at which all holds -/
def Settled (H : Hp) (t : Addr) (rows : List SRow) : Prop := (∃ q, H t = some (.tup [.ref q, .non]) ∧ RingAt H q rows) ∨
  ∃ (d : Addr) (ks : List Str) (val : Str → Int), H t = some (.tup [.non, .ref d]) ∧ H d = some (.dK (dS ks fun x => .int (val x))) ∧ (∀ x, x ∈ ks ↔ Named rows x) ∧ ks.length ≤ 200 ∧ Sat rows val
def spSettled : Sp := fun vs H Q _ => ∃ (a : Addr) (rows : List SRow), vs = [.ref a] ∧ Sys RowT H a rows ∧ Good rows ∧ ∀ H' t, Same H H' → Settled H' t rows → Q (.ref t) H'
abbrev nSettled : List Str := ["differences", "values", "left", "right", "_", "causes", "changed", "place", "limit", "found"]
theorem scSettled : FnScope nSettled ["differences"] (defScope sSettled) := ⟨rfl, rfl, rfl, by decide +kernel, rfl, by decide +kernel, by decide +kernel⟩
/-- what holds of the values and the causes, at the loops of _settled -/
structure Mid (H0 H : Hp) (d c : Addr) (rows : List SRow) (cs : List Str) (cz : Str → Nat) (val : Str → Int) : Prop where
  same : Same H0 H
  vals : H d = some (.dK (dS (namesTo rows rows.length) fun x => .int (val x)))
  caus : Caus H c cs cz
  nd : cs.Nodup
  sub : ∀ x ∈ cs, x ∈ namesTo rows rows.length
  lk : Lk rows cs cz
  low : Low rows val (gOf rows cs cz)
theorem ok_settled {f fT : Addr} {fd fdT : FuncData} (F : Fun K "_settled" "_settled" sSettled f fd) (T : Blt mg) (GT : FnOk P w K mg base CX0 2 fT fdT ["differences", "causes"] spTurn) (kT : PySem.W.keepIn K (.ref fT) = true)
    (bT : Binds K fdT ["differences", "causes"] []) (gT : mg "_turn" = some (.ref fT)) : FnOk P w K mg base CX0 3 f fd ["differences"] spSettled := by
  refine F.ok scSettled (fun vs H Q E h => ?_) (fun cdv A outer s H vs Q E hr h => ?_)
  · obtain ⟨a, rows, rfl, _⟩ := h
    rfl
  · obtain ⟨a, rows, rfl, hS, g, q⟩ := h
    have hS0 := hS
    obtain ⟨ps, hA, hl, hat⟩ := hS
    have hu := hu_of hr
    have nd := scSettled.nd
    refine ⟨_, pss_cons (ps_set (i := 1) nd rfl (.inl rfl) pe_dnewK)
      (pss_cons (ps_for PassesOwn.never rfl (pi_list (pv 0)) (pg_tup rfl (pgs_cons (pg_name (i := 2) nd rfl (.inl rfl)) (pgs_cons (pg_name (i := 3) nd rfl (.inl rfl)) (pgs_cons (pg_name (i := 4) nd rfl (.inl rfl)) pgs_nil))))
        (pss_cons (ps_dput hu (pv 1) (pv 2) pe_int rfl) (pss_one (ps_dput hu (pv 1) (pv 3) pe_int rfl))))
      (pss_cons (ps_set (i := 5) nd rfl (.inl rfl) pe_dnewK)
      (pss_cons (ps_set (i := 6) nd rfl (.inl rfl) pe_bl)
      (pss_cons (ps_while PassesOwn.never (pt_val (pv 6))
        (pss_cons (ps_set (i := 6) nd rfl (.inl rfl) pe_bl)
        (pss_cons (ps_for PassesOwn.never rfl (pi_enum (by rfl) T.enum (pa_cons (pv 0) pa_nil))
            (pg_tup rfl (pgs_cons (pg_name (i := 7) nd rfl (.inl rfl)) (pgs_cons (pg_tup rfl (pgs_cons (pg_name (i := 2) nd rfl (.inl rfl)) (pgs_cons (pg_name (i := 3) nd rfl (.inl rfl)) (pgs_cons (pg_name (i := 8) nd rfl (.inl rfl)) pgs_nil)))) pgs_nil)))
          (pss_one (ps_if (pt_cmpR op_lt (pe_op op_add (pe_dget hu (pv 1) (pv 3) (fun _ _ => rfl)) (pv 8)) (pe_dget hu (pv 1) (pv 2) (fun _ _ => rfl)) (nomark _))
            (pss_cons (ps_dput hu (pv 1) (pv 2) (pe_op op_add (pe_dget hu (pv 1) (pv 3) (fun _ _ => rfl)) (pv 8)) rfl)
            (pss_cons (ps_dput hu (pv 5) (pv 2) (pv 7) rfl)
            (pss_one (ps_set (i := 6) nd rfl (.inl rfl) pe_bl)))) pss_nil)))
        (pss_cons (ps_set (i := 9) nd rfl (.inl rfl) (pe_call GT hr (by rfl) gT kT bT .nil pass0 (pa_cons (pv 0) (pa_cons (pv 5) pa_nil))))
        (pss_one (ps_if (pt_cmpR op_notN (pv 9) pe_non (nomark _)) (pss_one (ps_ret (pe_tup (pa_cons (pv 9) (pa_cons pe_non pa_nil))))) pss_nil))))))
      (pss_one (ps_ret (pe_tup (pa_cons pe_non (pa_cons (pv 1) pa_nil))))))))), ?_⟩
    have few := g.few
    have hks : (namesTo rows rows.length).length ≤ 200 := by
      have := namesTo_len rows rows.length
      omega
    intro d ndd
    have s1 : Same H (upd H d (.dK [])) := same_upd ndd
    refine ⟨.ref a, rfl, a, rfl, ⟨_, SqL.of (s1 _ _ hA)⟩, for_list (K := K) (a := a) (xs := ps.map V.ref) (fun i σ H' => ∃ (y2 y3 y4 : Option V), σ = [some (.ref a), some (.ref d), y2, y3, y4, none, none, none, none, none] ∧ Same H H' ∧ H' d = some (.dK (dS (namesTo rows i) fun _ => .int 0)))
      ⟨none, none, none, rfl, s1, upd_same⟩ (fun i σ H' _ ⟨_, _, _, _, sm, _⟩ => SqL.of (sm _ _ hA)) ?_ ?_⟩
    · rintro i x σ H1 hi ⟨y2, y3, y4, rfl, sm, hd⟩
      obtain ⟨p, r, rfl, hp, hrr, hmem, hlt, hR⟩ := Sys.at hl hat hi
      have hR1 : RowT H1 p r := hR.same sm
      have l0 := namesTo_len rows i
      have l1 := length_addN (l := namesTo rows i) (x := r.1)
      refine ⟨p, rowV r, rfl, SqT.of hR1, rfl, _, _, rfl, _, _, rfl, _, _, rfl, rfl, ?_⟩
      have hput : ∀ (x : Str), (fun _ : Str => V.int 0) = put (fun _ : Str => V.int 0) x (.int 0) := fun x => by
        funext y
        unfold put
        split <;> rfl
      refine ⟨.ref d, rfl, .str r.1, rfl, d, _, rfl, dput r.1 (.int 0) hd (by omega), ?_⟩
      rw [← hput]
      refine ⟨.ref d, rfl, .str r.2.1, rfl, d, _, rfl, dput r.2.1 (.int 0) upd_same (by omega), ?_⟩
      rw [← hput]
      exact ⟨_, _, _, rfl, (sm.later ndd).later ndd, by rw [upd_same, namesTo_succ hrr]⟩
    · rintro σ H1 ⟨y2, y3, y4, rfl, sm, hd⟩
      rw [List.length_map, hl] at hd
      intro c nc
      have ndc : d ≠ c := ne_of_none hd nc
      have nc0 : H c = none := sm.free nc
      have g0 : gOf rows [] (fun _ => 0) = fun _ => none := funext fun x => gOf_out List.not_mem_nil
      have mid0 : Mid H (upd H1 c (.dK [])) d c rows [] (fun _ => 0) (fun _ => 0) := by
        refine ⟨sm.later nc0, ?_, upd_same, List.nodup_nil, fun x h => absurd h List.not_mem_nil, fun x h => absurd h List.not_mem_nil, ?_⟩
        · rw [upd_ne ndc]
          exact hd
        · rw [g0]
          exact Low.start rows
      refine ⟨fun m σ H' => ∃ (y2 y3 y4 y7 y8 y9 : Option V) (b : Bool) (cs : List Str) (cz : Str → Nat) (val : Str → Int), σ = [some (.ref a), some (.ref d), y2, y3, y4, some (.ref c), some (.bl b), y7, y8, y9] ∧
        Mid H H' d c rows cs cz val ∧ (∀ x, Ends (gOf rows cs cz) x) ∧ (b = false → Sat rows val) ∧ m = if b = true then (pot rows (namesTo rows rows.length) val).toNat + 1 else 0,
        ⟨_, y2, y3, y4, none, none, none, true, [], fun _ => 0, fun _ => 0, rfl, mid0, fun x => by rw [g0]; exact ends_none rfl, (fun h => nomatch h), rfl⟩, ?_⟩
      rintro m σ H2 ⟨y2, y3, y4, y7, y8, y9, b, cs, cz, val, rfl, M, hE, hsat, rfl⟩
      refine ⟨_, rfl, b, rfl, ?_⟩
      cases b with
      | false =>
        refine iteF ⟨.ref d, rfl, by show 2 ≤ sizeLine; decide, fun t nt => ?_⟩
        have s3 : Same H2 (upd H2 t (.tup [.non, .ref d])) := same_upd nt
        exact q _ t (M.same.trans s3) (.inr ⟨d, namesTo rows rows.length, val, upd_same, s3 _ _ M.vals, fun x => namesTo_all, hks, hsat rfl⟩)
      | true =>
        have p0 := pot_nonneg (namesTo rows rows.length) M.low hE
        refine iteT ⟨fun σ' H' => ∃ (y2 y3 y4 y7 y8 y9 : Option V) (b : Bool) (cs : List Str) (cz : Str → Nat) (val' : Str → Int), σ' = [some (.ref a), some (.ref d), y2, y3, y4, some (.ref c), some (.bl b), y7, y8, y9] ∧
          Mid H H' d c rows cs cz val' ∧ (∀ x, Ends (gOf rows cs cz) x) ∧ (b = false → Sat rows val') ∧ (b = true → pot rows (namesTo rows rows.length) val' < pot rows (namesTo rows rows.length) val), fun σ' H' hN => ?_, ?_⟩
        · obtain ⟨z2, z3, z4, z7, z8, z9, b, cs', cz', val', e1, M', hE', hs', hp'⟩ := hN
          refine ⟨_, ?_, z2, z3, z4, z7, z8, z9, b, cs', cz', val', e1, M', hE', hs', rfl⟩
          cases b with
          | false =>
            rw [if_neg Bool.false_ne_true, if_pos rfl]
            exact Nat.succ_pos _
          | true =>
            have p1 := pot_nonneg (namesTo rows rows.length) M'.low hE'
            have := hp' rfl
            rw [if_pos rfl, if_pos rfl]
            omega
        · refine ⟨.ref a, rfl, a, ps.map V.ref, rfl, SqL.of (M.same _ _ hA), for_it walk_enum (fun i σ H' => ∃ (y2 y3 y4 y7 y8 y9 : Option V) (b : Bool) (cs : List Str) (cz : Str → Nat) (val' : Str → Int), σ = [some (.ref a), some (.ref d), y2, y3, y4, some (.ref c), some (.bl b), y7, y8, y9] ∧
            Mid H H' d c rows cs cz val' ∧ (b = false → ∀ (j : Nat) (r : SRow), j < i → rows[j]? = some r → val' r.1 - val' r.2.1 ≤ r.2.2) ∧ (pot rows (namesTo rows rows.length) val' ≤ pot rows (namesTo rows rows.length) val ∧ (b = true → pot rows (namesTo rows rows.length) val' < pot rows (namesTo rows rows.length) val)))
            ⟨y2, y3, y4, y7, y8, y9, false, cs, cz, val, rfl, M, fun _ j r h => absurd h (Nat.not_lt_zero _), Int.le_refl _, fun h => nomatch h⟩ (fun i σ H' _ ⟨_, _, _, _, _, _, _, _, _, _, _, M, _⟩ => SqL.of (M.same _ _ hA)) ?_ ?_⟩
          · rintro i x σ H3 H4 hi ⟨y2, y3, y4, y7, y8, y9, b, cs, cz, val', rfl, M3, hb, hp⟩ ⟨tp, x1, x2, rfl, ntp, rfl, e1, e2⟩
            obtain ⟨p, ⟨x, y, k⟩, rfl, hpp, hrr, hmem, hlt, hR⟩ := Sys.at hl hat e2
            obtain rfl : V.int ((i : Nat) : Int) = x1 := Option.some.inj e1
            have smT : Same H3 (upd H3 tp (.tup [.int (i : Nat), .ref p])) := same_upd ntp
            have nxy : x ≠ y := (g.row _ hmem).1
            have hx : x ∈ namesTo rows rows.length := namesTo_all.mpr ⟨_, hmem, .inl rfl⟩
            have hy : y ∈ namesTo rows rows.length := namesTo_all.mpr ⟨_, hmem, .inr rfl⟩
            have hd4 := smT _ _ M3.vals
            have hc4 : Caus (upd H3 tp (.tup [.int (i : Nat), .ref p])) c cs cz := M3.caus.same smT
            have sm4 := M3.same.trans smT
            have hR4 := hR.same sm4
            refine ⟨tp, _, rfl, SqT.of upd_same, rfl, _, _, rfl, _, _, rfl, ⟨p, _, rfl, SqT.of hR4, rfl, _, _, rfl, _, _, rfl, _, _, rfl, rfl, rfl, ?_⟩⟩
            refine ⟨.ref d, rfl, .str y, rfl, d, _, rfl, dget hd4 hy, .int k, rfl, _, _, rfl, rfl, .ref d, rfl, .str x, rfl, d, _, rfl, dget hd4 hx, _, _, rfl, rfl, _, rfl, ite2 (fun e => ?_) (fun e => ?_)⟩
            · have hlt2 : val' y + k < val' x := of_decide_eq_true e
              refine ⟨.ref d, rfl, .str y, rfl, d, _, rfl, dget hd4 hy, .int k, rfl, _, _, rfl, rfl, .ref d, rfl, .str x, rfl, d, _, rfl, dput x (.int (val' y + k)) hd4 (by omega), ?_⟩
              have hcs : cs.length ≤ 200 := Nat.le_trans (nodup_le cs _ M3.nd M3.sub) hks
              have hc5 : Caus (upd (upd H3 tp (.tup [.int (i : Nat), .ref p])) d (.dK (dS (addN (namesTo rows rows.length) x) (put (fun x => V.int (val' x)) x (.int (val' y + k)))))) c cs cz := by
                show upd _ d _ c = _
                rw [upd_ne ndc.symm]
                exact hc4
              refine ⟨.int (i : Nat), rfl, .ref c, rfl, .str x, rfl, c, _, rfl, dput x (.int (i : Nat)) hc5 (by omega), ?_⟩
              have ead : addN (namesTo rows rows.length) x = namesTo rows rows.length := if_pos hx
              rw [ead, put_map (fun n : Int => V.int n), put_map (fun n : Nat => V.int (n : Int))]
              refine ⟨_, _, _, _, _, _, true, addN cs x, put cz x i, put val' x (val' y + k), rfl, ⟨(sm4.later ndd).later nc0, ?_, upd_same, nodup_addN M3.nd, fun z hz => ?_, lk_put M3.lk hrr, ?_⟩, (fun h => nomatch h), ?_⟩
              · rw [upd_ne ndc, upd_same]
              · exact (mem_addN.mp hz).elim (M3.sub z) fun z => z ▸ hx
              · rw [gOf_put hrr]
                exact M3.low.step hmem nxy hlt2
              · have h1 := pot_put (rows := rows) (val := val') hx hlt2
                exact ⟨Int.le_of_lt (Int.lt_of_lt_of_le h1 hp.1), fun _ => Int.lt_of_lt_of_le h1 hp.1⟩
            · have hge : ¬ val' y + k < val' x := fun z => e (decide_eq_true z)
              refine ⟨_, _, _, _, _, _, b, cs, cz, val', rfl, ⟨sm4, hd4, hc4, M3.nd, M3.sub, M3.lk, M3.low⟩, fun hbf j r hj hjr => ?_, hp⟩
              by_cases ji : j = i
              · subst ji
                rw [hrr] at hjr
                have := Option.some.inj hjr
                subst this
                show val' x - val' y ≤ k
                omega
              · exact hb hbf j r (by omega) hjr
          · rintro σ H3 ⟨y2, y3, y4, y7, y8, y9, b, cs, cz, val', rfl, M3, hb, hp⟩
            rw [List.length_map, hl] at hb
            have hcs : cs.length ≤ 200 := Nat.le_trans (nodup_le cs _ M3.nd M3.sub) hks
            refine ⟨.ref a, rfl, .ref c, rfl, a, c, rows, cs, cz, val', rfl, hS0.sameT M3.same, g, M3.caus, hcs, M3.lk, M3.low, fun H4 x s4 hx => ?_⟩
            rcases hx with ⟨rfl, hE4⟩ | ⟨t, rfl, hR⟩
            · refine ⟨_, rfl, rfl, _, rfl, iteF ?_⟩
              refine ⟨_, _, _, _, _, _, b, cs, cz, val', rfl, ⟨M3.same.trans s4, s4 _ _ M3.vals, M3.caus.same s4, M3.nd, M3.sub, M3.lk, M3.low⟩, hE4, fun h r hr => ?_, hp.2⟩
              obtain ⟨j, hj, e⟩ := List.getElem_of_mem hr
              exact hb h j r hj (by rw [List.getElem?_eq_getElem hj, e])
            · refine ⟨_, rfl, rfl, _, rfl, iteT ⟨.ref t, rfl, by show 2 ≤ sizeLine; decide, fun tt nt => ?_⟩⟩
              have s5 : Same H4 (upd H4 tt (.tup [.ref t, .non])) := same_upd nt
              exact q _ tt ((M3.same.trans s4).trans s5) (.inl ⟨t, upd_same, hR.same s5⟩)
end
end Lo
namespace Lo
open PySem L2
abbrev sReached : Stmt := top 27
/-- the item of a row: its place, its right side, its limit -/
def itemV (j : Nat) (y : Str) (c : Int) : List V := [.int (j : Nat), .str y, .int c]
/-- the rows below i, by their left sides -/
structure StepsTo (H0 H : Hp) (sd : Addr) (rows : List SRow) (i : Nat) (sk : List Str) (sa : Str → Addr) : Prop where
  dict : H sd = some (.dK (dS sk fun x => .ref (sa x)))
  few : sk.length ≤ i
  new : ∀ x ∈ sk, H0 (sa x) = none
  apart : ∀ x ∈ sk, ∀ y ∈ sk, sa x = sa y → x = y
  lists : ∀ x ∈ sk, ∃ qs : List Addr, H (sa x) = some (.lst (qs.map V.ref)) ∧ qs.length ≤ i ∧ (∀ q ∈ qs, ∃ (j : Nat) (y : Str) (c : Int), rows[j]? = some (x, y, c) ∧ H q = some (.tup (itemV j y c))) ∧
    ∀ (j : Nat) (y : Str) (c : Int), j < i → rows[j]? = some (x, y, c) → ∃ q ∈ qs, H q = some (.tup (itemV j y c))
  has : ∀ (j : Nat) (r : SRow), j < i → rows[j]? = some r → r.1 ∈ sk
theorem StepsTo.same {H0 H H' : Hp} {sd : Addr} {rows : List SRow} {i : Nat} {sk : List Str} {sa : Str → Addr} (s : Same H H') (h : StepsTo H0 H sd rows i sk sa) : StepsTo H0 H' sd rows i sk sa := by
  refine ⟨s _ _ h.dict, h.few, h.new, h.apart, fun x hx => ?_, h.has⟩
  obtain ⟨qs, h1, h2, h3, h4⟩ := h.lists x hx
  refine ⟨qs, s _ _ h1, h2, fun q hq => ?_, fun j y c hj hr => ?_⟩
  · obtain ⟨j, y, c, e1, e2⟩ := h3 q hq
    exact ⟨j, y, c, e1, s _ _ e2⟩
  · obtain ⟨q, hq, e⟩ := h4 j y c hj hr
    exact ⟨q, hq, s _ _ e⟩
/-- one more row: its item is put behind the list of its left side -/
theorem StepsTo.put {H0 H : Hp} {sd : Addr} {rows : List SRow} {i : Nat} {sk : List Str} {sa : Str → Addr} {x y : Str} {c : Int} {t l : Addr} {qs : List Addr} (hr : rows[i]? = some (x, y, c)) (hx : x ∈ sk) (hl : sa x = l)
    (dict : H sd = some (.dK (dS sk fun x => .ref (sa x)))) (few : sk.length ≤ i + 1) (new : ∀ x ∈ sk, H0 (sa x) = none) (apart : ∀ x ∈ sk, ∀ y ∈ sk, sa x = sa y → x = y) (nsd : sd ≠ l)
    (lists : ∀ z ∈ sk, z ≠ x → ∃ qs : List Addr, H (sa z) = some (.lst (qs.map V.ref)) ∧ qs.length ≤ i ∧ (∀ q ∈ qs, ∃ (j : Nat) (y : Str) (c : Int), rows[j]? = some (z, y, c) ∧ H q = some (.tup (itemV j y c))) ∧
      ∀ (j : Nat) (y : Str) (c : Int), j < i → rows[j]? = some (z, y, c) → ∃ q ∈ qs, H q = some (.tup (itemV j y c)))
    (h1 : H l = some (.lst (qs.map V.ref))) (h2 : qs.length ≤ i) (h3 : ∀ q ∈ qs, ∃ (j : Nat) (y : Str) (c : Int), rows[j]? = some (x, y, c) ∧ H q = some (.tup (itemV j y c)))
    (h4 : ∀ (j : Nat) (y : Str) (c : Int), j < i → rows[j]? = some (x, y, c) → ∃ q ∈ qs, H q = some (.tup (itemV j y c))) (ht : H t = some (.tup (itemV i y c)))
    (has : ∀ (j : Nat) (r : SRow), j < i → rows[j]? = some r → r.1 ∈ sk) : StepsTo H0 (upd H l (.lst (qs.map V.ref ++ [.ref t]))) sd rows (i + 1) sk sa := by
  have tup : ∀ (q : Addr) (xs : List V), H q = some (.tup xs) → upd H l (.lst (qs.map V.ref ++ [.ref t])) q = some (.tup xs) := fun q xs h => by
    rw [upd_ne (ne_of h h1 (by intro z; cases z))]
    exact h
  refine ⟨by rw [upd_ne nsd]; exact dict, few, new, apart, fun z hz => ?_, fun j r hj hjr => ?_⟩
  · by_cases k : z = x
    · subst k
      refine ⟨qs ++ [t], ?_, ?_, fun q hq => ?_, fun j y' c' hj hjr => ?_⟩
      · rw [hl, upd_same, List.map_append]
        rfl
      · rw [List.length_append, List.length_singleton]
        omega
      · rcases List.mem_append.mp hq with q1 | q1
        · obtain ⟨j, y', c', e1, e2⟩ := h3 q q1
          exact ⟨j, y', c', e1, tup _ _ e2⟩
        · rw [List.mem_singleton] at q1
          subst q1
          exact ⟨i, y, c, hr, tup _ _ ht⟩
      · by_cases ji : j = i
        · subst ji
          rw [hr] at hjr
          have e := Option.some.inj hjr
          injection e with _ e
          injection e with e1 e2
          subst e1 e2
          exact ⟨t, List.mem_append_right _ (List.mem_singleton.mpr rfl), tup _ _ ht⟩
        · obtain ⟨q, hq, e⟩ := h4 j y' c' (by omega) hjr
          exact ⟨q, List.mem_append_left _ hq, tup _ _ e⟩
    · obtain ⟨qs', e1, e2, e3, e4⟩ := lists z hz k
      have nz : sa z ≠ l := fun e => k (apart z hz x hx (e.trans hl.symm))
      refine ⟨qs', by rw [upd_ne nz]; exact e1, by omega, fun q hq => ?_, fun j y' c' hj hjr => ?_⟩
      · obtain ⟨j, y', c', f1, f2⟩ := e3 q hq
        exact ⟨j, y', c', f1, tup _ _ f2⟩
      · by_cases ji : j = i
        · subst ji
          rw [hr] at hjr
          have e := Option.some.inj hjr
          injection e with e _
          exact absurd e.symm k
        · obtain ⟨q, hq, e⟩ := e4 j y' c' (by omega) hjr
          exact ⟨q, hq, tup _ _ e⟩
  · by_cases ji : j = i
    · subst ji
      rw [hr] at hjr
      have e := Option.some.inj hjr
      subst e
      exact hx
    · exact has j r (by omega) hjr
/-- the state of the search at a heap -/
structure Ph (Hs H : Hp) (su ca : Addr) (rows : List SRow) (left : Str) (ss : List Str) (sv : Str → Int) (cs : List Str) (cz : Str → Nat) : Prop where
  same : Same Hs H
  sums : H su = some (.dK (dS ss fun x => .int (sv x)))
  caus : H ca = some (.dK (dS cs fun x => .int (cz x : Nat)))
  nd : cs.Nodup
  sub : ∀ x ∈ cs, x ∈ ss
  S : Sums rows left ss sv
def optV : Option Int → V
  | some k => .int k
  | none => .non
/-- one lowering: three dicts are changed -/
theorem Ph.step {Hs H : Hp} {su ca ch : Addr} {rows : List SRow} {left : Str} {ss : List Str} {sv : Str → Int} {cs : List Str} {cz : Str → Nat} {hs : List Str} {name y : Str} {c : Int} {j : Nat}
    (M : Ph Hs H su ca rows left ss sv cs cz) (n1 : su ≠ ca) (n2 : su ≠ ch) (n3 : ca ≠ ch) (f1 : Hs su = none) (f2 : Hs ca = none) (f3 : Hs ch = none) (hr : rows[j]? = some (name, y, c)) (hn : name ∈ ss) (h : y ∈ ss → sv name + c < sv y) :
    Ph Hs (upd (upd (upd H su (.dK (dS (addN ss y) (put (fun x => V.int (sv x)) y (.int (sv name + c)))))) ca (.dK (dS (addN cs y) (put (fun x => V.int (cz x : Nat)) y (.int (j : Nat)))))) ch (.dK (dS (addN hs y) (put (fun _ => V.bl true) y (.bl true)))))
      su ca rows left (addN ss y) (put sv y (sv name + c)) (addN cs y) (put cz y j) := by
  refine ⟨((M.same.later f1).later f2).later f3, ?_, ?_, nodup_addN M.nd, fun x hx => ?_, M.S.step (List.mem_of_getElem? hr) hn h⟩
  · rw [upd_ne n2, upd_ne n1, upd_same, put_map (fun n : Int => V.int n)]
  · rw [upd_ne n3, upd_same, put_map (fun n : Nat => V.int (n : Int))]
  · rcases mem_addN.mp hx with q | q
    · exact mem_addN.mpr (.inl (M.sub x q))
    · exact mem_addN.mpr (.inr q)
theorem put_true (hs : List Str) (y : Str) : dS (addN hs y) (put (fun _ => V.bl true) y (.bl true)) = dS (addN hs y) fun _ => V.bl true := by
  have e : put (fun _ : Str => V.bl true) y (.bl true) = fun _ => V.bl true := by
    funext z
    unfold put
    split <;> rfl
  rw [e]
/-- what is no dict stays where dicts are changed -/
theorem stays {H : Hp} {p b : Addr} {kvs kvs' : List (Key × V)} {o : HO} (hp : H p = some (.dK kvs)) (h : H b = some o) (no : ∀ k, o ≠ .dK k) : upd H p (.dK kvs') b = some o := by
  rw [upd_ne (ne_of h hp (no _))]
  exact h
section
variable {P : Program} {w : World} {K : PySem.W.Frag} {mg : Str → Option Value} {base : Heap}
def spReached : Sp := fun vs H Q _ => ∃ (a : Addr) (left right : Str) (rows : List SRow) (v : Str → Int), vs = [.ref a, .str left, .str right] ∧ Sys RowT H a rows ∧ Good rows ∧ Sat rows v ∧
  ∀ H' t ca b, Same H H' → H' t = some (.tup [optV b, .ref ca]) → Best rows left right b → Q (.ref t) H'
abbrev nReached : List Str := ["differences", "left", "right", "steps", "place", "one", "other", "limit", "sums", "causes", "waiting", "changed", "name"]
theorem scReached : FnScope nReached ["differences", "left", "right"] (defScope sReached) := ⟨rfl, rfl, rfl, by decide +kernel, rfl, by decide +kernel, by decide +kernel⟩
theorem ok_reached {f : Addr} {fd : FuncData} (F : Fun K "_reached" "_reached" sReached f fd) (T : Blt mg) : FnOk P w K mg base CX0 1 f fd ["differences", "left", "right"] spReached := by
  refine F.ok scReached (fun vs H Q E h => ?_) (fun cdv A outer s H vs Q E hr h => ?_)
  · obtain ⟨a, left, right, rows, v, rfl, _⟩ := h
    rfl
  · obtain ⟨a, left, right, rows, v, rfl, ⟨ps, hA, hl, hat⟩, g, hv, q⟩ := h
    have hu := hu_of hr
    have nd := scReached.nd
    have few := g.few
    refine ⟨_, pss_cons (ps_set (i := 3) nd rfl (.inl rfl) pe_dnewK)
      (pss_cons (ps_for PassesOwn.never rfl (pi_enum (by rfl) T.enum (pa_cons (pv 0) pa_nil))
          (pg_tup rfl (pgs_cons (pg_name (i := 4) nd rfl (.inl rfl)) (pgs_cons (pg_tup rfl (pgs_cons (pg_name (i := 5) nd rfl (.inl rfl)) (pgs_cons (pg_name (i := 6) nd rfl (.inl rfl)) (pgs_cons (pg_name (i := 7) nd rfl (.inl rfl)) pgs_nil)))) pgs_nil)))
        (pss_one (ps_expr (pe_bm PySem.F.plainAttrs_list PySem.F.slot_list_append PySem.F.type_list_append mt_append (pe_dsetd (pv 3) (pv 5) (pe_lst pa_nil) ⟨rfl, rfl, rfl, rfl⟩)
          (pa_cons (pe_tup (pa_cons (pv 4) (pa_cons (pv 6) (pa_cons (pv 7) pa_nil)))) pa_nil)))))
      (pss_cons (ps_set (i := 8) nd rfl (.inl rfl) (pe_disp (pps_cons (pv 1) pe_int pps_nil) rfl rfl (fun z => nomatch z) (by decide)))
      (pss_cons (ps_set (i := 9) nd rfl (.inl rfl) pe_dnewK)
      (pss_cons (ps_set (i := 10) nd rfl (.inl rfl) (pe_lst (pa_cons (pv 1) pa_nil)))
      (pss_cons (ps_while PassesOwn.never (pt_truth (pv 10) (by intro _; rfl))
        (pss_cons (ps_set (i := 11) nd rfl (.inl rfl) pe_dnewK)
        (pss_cons (ps_for PassesOwn.never rfl (pi_list (pv 10)) (pg_name (i := 12) nd rfl (.inl rfl))
          (pss_one (ps_for PassesOwn.never rfl (pi_list (pe_dget2 hu (pv 3) (pv 12) (pe_lst pa_nil) ⟨rfl, rfl, rfl, rfl⟩)) (pg_tup rfl (pgs_cons (pg_name (i := 4) nd rfl (.inl rfl)) (pgs_cons (pg_name (i := 6) nd rfl (.inl rfl)) (pgs_cons (pg_name (i := 7) nd rfl (.inl rfl)) pgs_nil))))
            (pss_one (ps_if (PW.pt (pw_or (pt_cmp (pc_dnotin hu (pv 6) (pv 8))) (pw_or1 (pt_cmpR op_lt (pe_op op_add (pe_dget hu (pv 8) (pv 12) (fun _ _ => rfl)) (pv 7)) (pe_dget hu (pv 8) (pv 6) (fun _ _ => rfl)) (nomark _)))))
              (pss_cons (ps_dput hu (pv 8) (pv 6) (pe_op op_add (pe_dget hu (pv 8) (pv 12) (fun _ _ => rfl)) (pv 7)) rfl)
              (pss_cons (ps_dput hu (pv 9) (pv 6) (pv 4) rfl)
              (pss_one (ps_dput hu (pv 11) (pv 6) pe_bl rfl)))) pss_nil)))))
        (pss_one (ps_set (i := 10) nd rfl (.inl rfl) (pe_callTy (call_listD rfl) (by rfl) T.list PyProof.Rows.boot_list (pa_cons (pv 11) pa_nil))))))
      )
      (pss_one (ps_ret (pe_tup (pa_cons (pe_dget1 hu (pv 8) (pv 2) ⟨rfl, rfl, rfl, rfl⟩) (pa_cons (pv 9) pa_nil)))))))))), ?_⟩
    intro sd nsd
    have s1 : Same H (upd H sd (.dK [])) := same_upd nsd
    -- the rows by their left sides
    refine ⟨.ref a, rfl, a, ps.map V.ref, rfl, SqL.of (s1 _ _ hA), for_it walk_enum (fun i σ H' => ∃ (y4 y5 y6 y7 : Option V) (sk : List Str) (sa : Str → Addr), σ = [some (.ref a), some (.str left), some (.str right), some (.ref sd), y4, y5, y6, y7, none, none, none, none, none] ∧ Same H H' ∧ StepsTo H H' sd rows i sk sa)
      ⟨none, none, none, none, [], fun _ => 0, rfl, s1, upd_same, Nat.le_refl _, fun x h => absurd h List.not_mem_nil, fun x h => absurd h List.not_mem_nil, fun x h => absurd h List.not_mem_nil, fun j r h => absurd h (Nat.not_lt_zero _)⟩
      (fun i σ H' _ ⟨_, _, _, _, _, _, _, sm, _⟩ => SqL.of (sm _ _ hA)) ?_ ?_⟩
    · rintro i x σ H1 H2 hi ⟨y4, y5, y6, y7, sk, sa, rfl, sm, St⟩ ⟨tp, x1, x2, rfl, ntp, rfl, e1, e2⟩
      obtain ⟨p, ⟨x, y, k⟩, rfl, hpp, hrr, hmem, hlt, hR⟩ := Sys.at hl hat e2
      obtain rfl : V.int ((i : Nat) : Int) = x1 := Option.some.inj e1
      have smT : Same H1 (upd H1 tp (.tup [.int (i : Nat), .ref p])) := same_upd ntp
      have hR4 := (hR.same sm).same smT
      refine ⟨tp, _, rfl, SqT.of upd_same, rfl, _, _, rfl, _, _, rfl, ⟨p, _, rfl, SqT.of hR4, rfl, _, _, rfl, _, _, rfl, _, _, rfl, rfl, rfl, ?_⟩⟩
      have St1 := St.same smT
      have sm1 := sm.trans smT
      generalize upd H1 tp (.tup [.int (i : Nat), .ref p]) = H3 at hR4 St1 sm1 ⊢
      refine ⟨.ref sd, rfl, sd, rfl, .inl ⟨_, Rd.of St1.dict⟩, .str x, rfl, Nat.zero_le _, fun z nz => ?_⟩
      have s4 : Same H3 (upd H3 z (.lst [])) := same_upd nz
      have St4 := St1.same s4
      have sm4 := sm1.trans s4
      have nz0 : H z = none := sm1.free nz
      have nsdz : sd ≠ z := ne_of_none St1.dict nz
      refine ⟨_, Sum.inr x, St4.dict, rfl, by rw [dS_len]; exact small1000 (by have := St4.few; omega), fun l hl' => ?_, fun hno => ?_⟩
      · -- there is a list of it
        have hx : x ∈ sk := by
          by_cases m : x ∈ sk
          · exact m
          · rw [dS_out m] at hl'
            cases hl'
        rw [dS_in hx] at hl'
        have := Option.some.inj hl'
        subst this
        obtain ⟨qs, h1, h2, h3, h4⟩ := St4.lists x hx
        refine ⟨.inl ⟨rfl, _, SqL.of h1⟩, .int (i : Nat), rfl, .str y, rfl, .int k, rfl, by show 3 ≤ sizeLine; decide, fun t nt => ?_⟩
        have s5 : Same (upd H3 z (.lst [])) (upd (upd H3 z (.lst [])) t (.tup [.int (i : Nat), .str y, .int k])) := same_upd nt
        have St5 := St4.same s5
        obtain ⟨qs, h1, h2, h3, h4⟩ := St5.lists x hx
        refine ⟨sa x, _, _, rfl, rfl, h1, by rw [List.length_map]; exact small1000 (by omega), ?_⟩
        have nsx : sd ≠ sa x := ne_of St5.dict h1 (by intro z; cases z)
        exact ⟨_, _, _, _, sk, sa, rfl, (sm4.trans s5).later (St5.new x hx), StepsTo.put hrr hx rfl St5.dict (Nat.le_succ_of_le St5.few) St5.new St5.apart nsx (fun z hz _ => St5.lists z hz) h1 h2 h3 h4 upd_same St5.has⟩
      · -- a new list
        have hx : x ∉ sk := fun m => by
          rw [dS_in m] at hno
          cases hno
        have nzsd : z ≠ sd := nsdz.symm
        have hz6 : upd (upd H3 z (.lst [])) sd (.dK (putK (dS sk fun x => .ref (sa x)) (Sum.inr x) (.ref z))) z = some (.lst []) := by
          rw [upd_ne nzsd, upd_same]
        refine ⟨.inl ⟨rfl, _, SqL.of hz6⟩, .int (i : Nat), rfl, .str y, rfl, .int k, rfl, by show 3 ≤ sizeLine; decide, fun t nt => ?_⟩
        have s5 := same_upd (o := HO.tup [.int (i : Nat), .str y, .int k]) nt
        have sm6 : Same H (upd (upd H3 z (.lst [])) sd (.dK (putK (dS sk fun x => .ref (sa x)) (Sum.inr x) (.ref z)))) := sm4.later nsd
        refine ⟨z, [], _, rfl, rfl, s5 _ _ hz6, by show 0 < sizeLine; decide, ?_⟩
        have ead : addN sk x = sk ++ [x] := if_neg hx
        have old : ∀ b o, H3 b = some o → b ≠ sd → upd (upd (upd H3 z (.lst [])) sd (.dK (putK (dS sk fun x => .ref (sa x)) (Sum.inr x) (.ref z)))) t (.tup [.int (i : Nat), .str y, .int k]) b = some o := fun b o e hb => s5 _ _ (by
          rw [upd_ne hb]
          exact s4 _ _ e)
        refine ⟨_, _, _, _, addN sk x, put sa x z, rfl, (sm6.trans s5).later nz0, StepsTo.put (qs := []) hrr (mem_addN.mpr (.inr rfl)) (put_at _ _ _) ?_ ?_ (fun u hu' => ?_) (fun u hu' u2 hu2 e => ?_) nsdz (fun u hu' hne => ?_) (s5 _ _ hz6) (Nat.zero_le _) (fun q h => absurd h List.not_mem_nil) (fun j y' c' hj hjr => ?_) upd_same (fun j r hj hjr => ?_)⟩
        · refine s5 _ _ ?_
          rw [upd_same, dS_put, put_map (fun n : Addr => V.ref n)]
        · rw [ead, List.length_append, List.length_singleton]
          have := St4.few
          omega
        · by_cases j : u = x
          · rw [j, put_at]
            exact nz0
          · rw [put_off j]
            exact St4.new u ((mem_addN.mp hu').resolve_right j)
        · have away : ∀ u ∈ sk, sa u ≠ z := fun u hu0 e => by
            obtain ⟨qs, h1, _⟩ := St1.lists u hu0
            rw [e, nz] at h1
            cases h1
          by_cases j : u = x
          · by_cases j2 : u2 = x
            · rw [j, j2]
            · rw [j, put_at, put_off j2] at e
              exact absurd e.symm (away u2 ((mem_addN.mp hu2).resolve_right j2))
          · by_cases j2 : u2 = x
            · rw [j2, put_at, put_off j] at e
              exact absurd e (away u ((mem_addN.mp hu').resolve_right j))
            · rw [put_off j, put_off j2] at e
              exact St4.apart u ((mem_addN.mp hu').resolve_right j) u2 ((mem_addN.mp hu2).resolve_right j2) e
        · have hu0 := (mem_addN.mp hu').resolve_right hne
          obtain ⟨qs, h1, h2, h3, h4⟩ := St1.lists u hu0
          rw [put_off hne]
          refine ⟨qs, old _ _ h1 (ne_of h1 St1.dict (by intro z; cases z)), h2, fun q hq => ?_, fun j y' c' hj hjr => ?_⟩
          · obtain ⟨j, y', c', f1, f2⟩ := h3 q hq
            exact ⟨j, y', c', f1, old _ _ f2 (ne_of f2 St1.dict (by intro z; cases z))⟩
          · obtain ⟨q, hq, f⟩ := h4 j y' c' hj hjr
            exact ⟨q, hq, old _ _ f (ne_of f St1.dict (by intro z; cases z))⟩
        · exact absurd (St4.has j _ hj hjr) hx
        · exact mem_addN.mpr (.inl (St4.has j r hj hjr))
    · rintro σ Hs ⟨y4, y5, y6, y7, sk, sa, rfl, smS, St⟩
      rw [List.length_map, hl] at St
      intro su nsu
      have s3 : Same Hs (upd Hs su (.dK [])) := same_upd nsu
      have em : mergeK [] [((Sum.inr left : Key), V.int 0)] = dS [left] fun _ => .int 0 := by
        show putK (dS [] fun _ => V.int 0) (Sum.inr left) (.int 0) = _
        rw [dS_put]
        have e : put (fun _ : Str => V.int 0) left (.int 0) = fun _ => V.int 0 := by
          funext z
          unfold put
          split <;> rfl
        rw [e]
        rfl
      refine ⟨.str left, rfl, upd_same, [((Sum.inr left : Key), V.int 0)], rfl, by show 1 ≤ 15; decide, ?_⟩
      rw [em, upd_upd]
      have sA : Same Hs (upd Hs su (.dK (dS [left] fun _ => .int 0))) := same_upd nsu
      intro ca nca
      have nsc : su ≠ ca := fun e => by
        rw [← e, upd_same] at nca
        cases nca
      have fca : Hs ca = none := sA.free nca
      have sB : Same (upd Hs su (.dK (dS [left] fun _ => .int 0))) (upd (upd Hs su (.dK (dS [left] fun _ => .int 0))) ca (.dK [])) := same_upd nca
      refine ⟨.str left, rfl, by show 1 ≤ sizeLine; decide, fun wl nwl => ?_⟩
      have sC := same_upd (o := HO.lst [V.str left]) nwl
      refine ⟨fun m σ H' => ∃ (y4 y5 y6 y7 y11 y12 : Option V) (ws ss : List Str) (sv : Str → Int) (cs : List Str) (cz : Str → Nat) (wl : Addr), σ = [some (.ref a), some (.str left), some (.str right), some (.ref sd), y4, y5, y6, y7, some (.ref su), some (.ref ca), some (.ref wl), y11, y12] ∧
        Ph Hs H' su ca rows left ss sv cs cz ∧ H' wl = some (.lst (ws.map V.str)) ∧ (∀ x ∈ ws, x ∈ ss) ∧ (∀ a ∈ ss, a ∈ ws ∨ Done rows ss sv a) ∧ m = 2 * (gap rows left v ss sv).toNat + if ws = [] then 0 else 1,
        ⟨_, y4, y5, y6, y7, none, none, [left], [left], fun _ => 0, [], fun _ => 0, wl, rfl, ⟨(sA.trans sB).trans sC, sC _ _ (sB _ _ upd_same), sC _ _ upd_same, List.nodup_nil, fun x h => absurd h List.not_mem_nil, Sums.start rows left _ rfl⟩, upd_same, fun x h => h, fun a h => .inl h, rfl⟩, ?_⟩
      rintro m σ H2 ⟨y4, y5, y6, y7, y11, y12, ws, ss, sv, cs, cz, wl, rfl, M, hwl, hws, hdone, rfl⟩
      refine ⟨.ref wl, rfl, _, .inl ⟨_, SqL.of hwl, rfl⟩, ?_⟩
      by_cases hne : ws = []
      · subst hne
        refine iteF ?_
        have St2 := St.same M.same
        refine ⟨.ref su, rfl, su, rfl, .inl ⟨_, Rd.of M.sums⟩, .str right, rfl, _, dgetI right M.sums, .ref ca, rfl, by show 2 ≤ sizeLine; decide, fun t nt => ?_⟩
        have sD := same_upd (o := HO.tup [(if right ∈ ss then some (V.int (sv right)) else none).getD .non, .ref ca]) nt
        have B := M.S.best (fun a ha => (hdone a ha).resolve_left List.not_mem_nil) hv right
        refine q _ t ca (if right ∈ ss then some (sv right) else none) ((smS.trans M.same).trans sD) ?_ B
        rw [upd_same]
        by_cases m : right ∈ ss
        · rw [if_pos m, if_pos m]
          rfl
        · rw [if_neg m, if_neg m]
          rfl
      · have ht : (!(ws.map V.str).isEmpty) = true := by
          cases ws with
          | nil => exact absurd rfl hne
          | cons _ _ => rfl
        rw [ht]
        rw [if_neg hne]
        refine iteT ⟨fun σ' H' => ∃ (y4 y5 y6 y7 y11 y12 : Option V) (ws ss' : List Str) (sv' : Str → Int) (cs : List Str) (cz : Str → Nat) (wl : Addr), σ' = [some (.ref a), some (.str left), some (.str right), some (.ref sd), y4, y5, y6, y7, some (.ref su), some (.ref ca), some (.ref wl), y11, y12] ∧
          Ph Hs H' su ca rows left ss' sv' cs cz ∧ H' wl = some (.lst (ws.map V.str)) ∧ (∀ x ∈ ws, x ∈ ss') ∧ (∀ a ∈ ss', a ∈ ws ∨ Done rows ss' sv' a) ∧ gap rows left v ss' sv' ≤ gap rows left v ss sv ∧ (ws ≠ [] → gap rows left v ss' sv' < gap rows left v ss sv), fun σ' H' hN => ?_, ?_⟩
        · obtain ⟨z4, z5, z6, z7, z11, z12, ws', ss', sv', cs', cz', wl', e1, M', hwl', hws', hd', g1, g2⟩ := hN
          refine ⟨_, ?_, z4, z5, z6, z7, z11, z12, ws', ss', sv', cs', cz', wl', e1, M', hwl', hws', hd', rfl⟩
          have p1 := M'.S.gap_nonneg hv
          by_cases k : ws' = []
          · rw [if_pos k]
            omega
          · rw [if_neg k]
            have := g2 k
            omega
        · intro ch nch
          have fch : Hs ch = none := M.same.free nch
          have nuh : su ≠ ch := ne_of_none M.sums nch
          have nah : ca ≠ ch := ne_of_none M.caus nch
          have sD := same_upd (o := HO.dK []) nch
          refine ⟨.ref wl, rfl, wl, rfl, ⟨_, SqL.of (sD _ _ hwl)⟩, for_list (K := K) (a := wl) (xs := ws.map V.str) (fun i σ H' => ∃ (y4 y5 y6 y7 y12 : Option V) (ss' : List Str) (sv' : Str → Int) (cs : List Str) (cz : Str → Nat) (hs : List Str),
              σ = [some (.ref a), some (.str left), some (.str right), some (.ref sd), y4, y5, y6, y7, some (.ref su), some (.ref ca), some (.ref wl), some (.ref ch), y12] ∧ Ph Hs H' su ca rows left ss' sv' cs cz ∧ H' wl = some (.lst (ws.map V.str)) ∧
              H' ch = some (.dK (dS hs fun _ => .bl true)) ∧ hs.Nodup ∧ (∀ x ∈ hs, x ∈ ss') ∧ (∀ x ∈ ws, x ∈ ss') ∧ (∀ a ∈ ss', a ∈ ws.drop i ∨ a ∈ hs ∨ Done rows ss' sv' a) ∧ gap rows left v ss' sv' ≤ gap rows left v ss sv ∧ (hs ≠ [] → gap rows left v ss' sv' < gap rows left v ss sv))
            ⟨y4, y5, y6, y7, y12, ss, sv, cs, cz, [], rfl, ⟨M.same.trans sD, sD _ _ M.sums, sD _ _ M.caus, M.nd, M.sub, M.S⟩, sD _ _ hwl, upd_same, List.nodup_nil, fun x h => absurd h List.not_mem_nil, hws, fun a ha => (hdone a ha).imp id .inr, Int.le_refl _, fun h => absurd rfl h⟩
            (fun i σ H' _ ⟨_, _, _, _, _, _, _, _, _, _, _, _, hwl', _⟩ => SqL.of hwl') ?_ ?_⟩
          · rintro i x σ H3 hi ⟨y4, y5, y6, y7, y12, ss1, sv1, cs1, cz1, hs1, rfl, M1, hwl1, hch1, hnd1, hsub1, hws1, hdone1, g1, g2⟩
            obtain ⟨name, hnm, rfl⟩ : ∃ name, ws[i]? = some name ∧ x = .str name := by
              rw [List.getElem?_map] at hi
              cases e : ws[i]? with
              | none =>
                rw [e] at hi
                cases hi
              | some n =>
                rw [e] at hi
                exact ⟨n, rfl, (Option.some.inj hi).symm⟩
            have hname : name ∈ ws := List.mem_of_getElem? hnm
            have edrop : ws.drop i = name :: ws.drop (i + 1) := by
              obtain ⟨hlt, e⟩ := List.getElem?_eq_some_iff.mp hnm
              rw [List.drop_eq_getElem_cons hlt, e]
            have St3 := St.same M1.same
            refine ⟨.ref sd, rfl, sd, rfl, .inl ⟨_, Rd.of St3.dict⟩, .str name, rfl, Nat.zero_le _, fun z nz => ?_⟩
            have sE := same_upd (o := HO.lst []) nz
            have St4 := St3.same sE
            refine ⟨_, dgetI name St4.dict, ?_⟩
            obtain ⟨l, qs, el, hl4, hitem, hall⟩ : ∃ (l : Addr) (qs : List Addr), (if name ∈ sk then some (V.ref (sa name)) else none).getD (.ref z) = .ref l ∧ upd H3 z (.lst []) l = some (.lst (qs.map V.ref)) ∧
                (∀ q ∈ qs, ∃ (j : Nat) (y : Str) (c : Int), rows[j]? = some (name, y, c) ∧ upd H3 z (.lst []) q = some (.tup (itemV j y c))) ∧
                ∀ (j : Nat) (y : Str) (c : Int), rows[j]? = some (name, y, c) → ∃ q ∈ qs, upd H3 z (.lst []) q = some (.tup (itemV j y c)) := by
              by_cases m : name ∈ sk
              · obtain ⟨qs, h1, h2, h3, h4⟩ := St4.lists name m
                exact ⟨sa name, qs, by rw [if_pos m]; rfl, h1, h3, fun j y c e => h4 j y c (List.getElem?_eq_some_iff.mp e).1 e⟩
              · refine ⟨z, [], by rw [if_neg m]; rfl, upd_same, fun q h => absurd h List.not_mem_nil, fun j y c e => absurd (St4.has j _ (List.getElem?_eq_some_iff.mp e).1 e) m⟩
            rw [el]
            have M4 : Ph Hs (upd H3 z (.lst [])) su ca rows left ss1 sv1 cs1 cz1 := ⟨M1.same.trans sE, sE _ _ M1.sums, sE _ _ M1.caus, M1.nd, M1.sub, M1.S⟩
            have hwl4 := sE _ _ hwl1
            have hch4 := sE _ _ hch1
            generalize upd H3 z (.lst []) = H4 at hl4 hitem hall M4 hwl4 hch4 ⊢
            refine ⟨l, rfl, ⟨_, SqL.of hl4⟩, for_list (K := K) (a := l) (xs := qs.map V.ref) (fun j σ H' => ∃ (y4 y5 y6 y7 : Option V) (ss' : List Str) (sv' : Str → Int) (cs : List Str) (cz : Str → Nat) (hs : List Str),
                σ = [some (.ref a), some (.str left), some (.str right), some (.ref sd), y4, y5, y6, y7, some (.ref su), some (.ref ca), some (.ref wl), some (.ref ch), some (.str name)] ∧ Ph Hs H' su ca rows left ss' sv' cs cz ∧ H' wl = some (.lst (ws.map V.str)) ∧
                H' ch = some (.dK (dS hs fun _ => .bl true)) ∧ hs.Nodup ∧ (∀ x ∈ hs, x ∈ ss') ∧ (∀ x ∈ ws, x ∈ ss') ∧ H' l = some (.lst (qs.map V.ref)) ∧ (∀ b xs, H4 b = some (.tup xs) → H' b = some (.tup xs)) ∧
                (∀ a ∈ ss', a ≠ name → a ∈ ws.drop (i + 1) ∨ a ∈ hs ∨ Done rows ss' sv' a) ∧ (∀ (j' : Nat) (q : Addr) (k : Nat) (y : Str) (c : Int), j' < j → qs[j']? = some q → H4 q = some (.tup (itemV k y c)) → y ∈ ss' ∧ sv' y ≤ sv' name + c) ∧
                gap rows left v ss' sv' ≤ gap rows left v ss sv ∧ (hs ≠ [] → gap rows left v ss' sv' < gap rows left v ss sv))
              ⟨y4, y5, y6, y7, ss1, sv1, cs1, cz1, hs1, rfl, M4, hwl4, hch4, hnd1, hsub1, hws1, hl4, fun b xs e => e, fun a ha hna => ?_, fun j' q k y c h => absurd h (Nat.not_lt_zero _), g1, g2⟩
              (fun j σ H' _ ⟨_, _, _, _, _, _, _, _, _, _, _, _, _, _, _, _, hl', _⟩ => SqL.of hl') ?_ ?_⟩
            · have := hdone1 a ha
              rw [edrop] at this
              exact this.imp (fun h => (List.mem_cons.mp h).resolve_left hna) id
            · rintro j x σ H5 hj ⟨y4, y5, y6, y7, ss2, sv2, cs2, cz2, hs2, rfl, M2, hwl2, hch2, hnd2, hsub2, hws2, hl2, htup, hdone2, hprev, g1, g2⟩
              obtain ⟨qa, hqa, rfl⟩ : ∃ qa, qs[j]? = some qa ∧ x = .ref qa := by
                rw [List.getElem?_map] at hj
                cases e : qs[j]? with
                | none =>
                  rw [e] at hj
                  cases hj
                | some n =>
                  rw [e] at hj
                  exact ⟨n, rfl, (Option.some.inj hj).symm⟩
              obtain ⟨k, y, c, hrow, hq4⟩ := hitem qa (List.mem_of_getElem? hqa)
              have hmem : (name, y, c) ∈ rows := List.mem_of_getElem? hrow
              have nny : name ≠ y := (g.row _ hmem).1
              have hn2 : name ∈ ss2 := hws2 name hname
              have hss : ss2.length ≤ 200 := by
                have := M2.S.few
                omega
              have hcs : cs2.length ≤ 200 := Nat.le_trans (nodup_le cs2 ss2 M2.nd M2.sub) hss
              have hhs : hs2.length ≤ 200 := Nat.le_trans (nodup_le hs2 ss2 hnd2 hsub2) hss
              refine ⟨qa, _, rfl, SqT.of (htup _ _ hq4), rfl, _, _, rfl, _, _, rfl, _, _, rfl, rfl, ?_⟩
              -- the three dicts, when the sum is set
              have hca2 : ∀ o, upd H5 su o ca = some (.dK (dS cs2 fun x => .int (cz2 x : Nat))) := fun o => by
                rw [upd_ne nsc.symm]
                exact M2.caus
              have hch3 : ∀ o o', upd (upd H5 su o) ca o' ch = some (.dK (dS hs2 fun _ => .bl true)) := fun o o' => by
                rw [upd_ne nah.symm, upd_ne nuh.symm]
                exact hch2
              have fin : (y ∈ ss2 → sv2 name + c < sv2 y) → ∀ (z4 z5 z6 z7 : Option V), ∃ (y4 y5 y6 y7 : Option V) (ss' : List Str) (sv' : Str → Int) (cs : List Str) (cz : Str → Nat) (hs : List Str),
                  [some (V.ref a), some (.str left), some (.str right), some (.ref sd), z4, z5, z6, z7, some (.ref su), some (.ref ca), some (.ref wl), some (.ref ch), some (.str name)] = [some (.ref a), some (.str left), some (.str right), some (.ref sd), y4, y5, y6, y7, some (.ref su), some (.ref ca), some (.ref wl), some (.ref ch), some (.str name)] ∧
                  Ph Hs (upd (upd (upd H5 su (.dK (dS (addN ss2 y) (put (fun x => V.int (sv2 x)) y (.int (sv2 name + c)))))) ca (.dK (dS (addN cs2 y) (put (fun x => V.int (cz2 x : Nat)) y (.int (k : Nat)))))) ch (.dK (dS (addN hs2 y) (put (fun _ => V.bl true) y (.bl true))))) su ca rows left ss' sv' cs cz ∧
                  upd (upd (upd H5 su (.dK (dS (addN ss2 y) (put (fun x => V.int (sv2 x)) y (.int (sv2 name + c)))))) ca (.dK (dS (addN cs2 y) (put (fun x => V.int (cz2 x : Nat)) y (.int (k : Nat)))))) ch (.dK (dS (addN hs2 y) (put (fun _ => V.bl true) y (.bl true)))) wl = some (.lst (ws.map V.str)) ∧
                  upd (upd (upd H5 su (.dK (dS (addN ss2 y) (put (fun x => V.int (sv2 x)) y (.int (sv2 name + c)))))) ca (.dK (dS (addN cs2 y) (put (fun x => V.int (cz2 x : Nat)) y (.int (k : Nat)))))) ch (.dK (dS (addN hs2 y) (put (fun _ => V.bl true) y (.bl true)))) ch = some (.dK (dS hs fun _ => .bl true)) ∧
                  hs.Nodup ∧ (∀ x ∈ hs, x ∈ ss') ∧ (∀ x ∈ ws, x ∈ ss') ∧
                  upd (upd (upd H5 su (.dK (dS (addN ss2 y) (put (fun x => V.int (sv2 x)) y (.int (sv2 name + c)))))) ca (.dK (dS (addN cs2 y) (put (fun x => V.int (cz2 x : Nat)) y (.int (k : Nat)))))) ch (.dK (dS (addN hs2 y) (put (fun _ => V.bl true) y (.bl true)))) l = some (.lst (qs.map V.ref)) ∧
                  (∀ b xs, H4 b = some (.tup xs) → upd (upd (upd H5 su (.dK (dS (addN ss2 y) (put (fun x => V.int (sv2 x)) y (.int (sv2 name + c)))))) ca (.dK (dS (addN cs2 y) (put (fun x => V.int (cz2 x : Nat)) y (.int (k : Nat)))))) ch (.dK (dS (addN hs2 y) (put (fun _ => V.bl true) y (.bl true)))) b = some (.tup xs)) ∧
                  (∀ a ∈ ss', a ≠ name → a ∈ ws.drop (i + 1) ∨ a ∈ hs ∨ Done rows ss' sv' a) ∧ (∀ (j' : Nat) (q : Addr) (k : Nat) (y : Str) (c : Int), j' < j + 1 → qs[j']? = some q → H4 q = some (.tup (itemV k y c)) → y ∈ ss' ∧ sv' y ≤ sv' name + c) ∧
                  gap rows left v ss' sv' ≤ gap rows left v ss sv ∧ (hs ≠ [] → gap rows left v ss' sv' < gap rows left v ss sv) := by
                intro h z4 z5 z6 z7
                have keep : ∀ b o, H5 b = some o → (∀ k, o ≠ .dK k) → upd (upd (upd H5 su (.dK (dS (addN ss2 y) (put (fun x => V.int (sv2 x)) y (.int (sv2 name + c)))))) ca (.dK (dS (addN cs2 y) (put (fun x => V.int (cz2 x : Nat)) y (.int (k : Nat)))))) ch (.dK (dS (addN hs2 y) (put (fun _ => V.bl true) y (.bl true)))) b = some o := fun b o e no =>
                  stays (hch3 _ _) (stays (hca2 _) (stays M2.sums e no) no) no
                have gs := M2.S.gap_step (v := v) hmem hn2 h
                refine ⟨z4, z5, z6, z7, addN ss2 y, put sv2 y (sv2 name + c), addN cs2 y, put cz2 y k, addN hs2 y, rfl, M2.step nsc nuh nah nsu fca fch hrow hn2 h, keep _ _ hwl2 (fun _ z => nomatch z), by rw [upd_same, put_true], nodup_addN hnd2, fun x hx => ?_, fun x hx => mem_addN.mpr (.inl (hws2 x hx)), keep _ _ hl2 (fun _ z => nomatch z),
                  fun b xs e => keep _ _ (htup b xs e) (fun _ z => nomatch z), fun x hx hnx => ?_, fun j' q k' y' c' hj' hq' e => ?_, by omega, fun _ => by omega⟩
                · exact (mem_addN.mp hx).elim (fun z => mem_addN.mpr (.inl (hsub2 x z))) fun z => mem_addN.mpr (.inr z)
                · by_cases xy : x = y
                  · exact .inr (.inl (mem_addN.mpr (.inr xy)))
                  · rcases hdone2 x ((mem_addN.mp hx).resolve_right xy) hnx with r | r | r
                    · exact .inl r
                    · exact .inr (.inl (mem_addN.mpr (.inl r)))
                    · exact .inr (.inr (r.step xy h))
                · by_cases ji : j' = j
                  · subst ji
                    rw [hqa] at hq'
                    have := Option.some.inj hq'
                    subst this
                    rw [hq4] at e
                    have e := HO.tup.inj (Option.some.inj e)
                    injection e with _ e
                    injection e with e1 e
                    injection e with e2 _
                    have e1 := V.str.inj e1
                    have e2 := V.int.inj e2
                    subst e1 e2
                    refine ⟨mem_addN.mpr (.inr rfl), ?_⟩
                    rw [put_at, put_off nny]
                    exact Int.le_refl _
                  · obtain ⟨p1, p2⟩ := hprev j' q k' y' c' (by omega) hq' e
                    refine ⟨mem_addN.mpr (.inl p1), ?_⟩
                    rw [put_off (x := name) nny]
                    by_cases yy : y' = y
                    · subst yy
                      rw [put_at]
                      have := h p1
                      omega
                    · rw [put_off yy]
                      exact p2
              by_cases hy : y ∈ ss2
              · refine ⟨.str y, rfl, .ref su, rfl, su, _, rfl, dget M2.sums hy, _, rfl, iteF ?_⟩
                refine ⟨.ref su, rfl, .str name, rfl, su, _, rfl, dget M2.sums hn2, .int c, rfl, _, _, rfl, rfl, .ref su, rfl, .str y, rfl, su, _, rfl, dget M2.sums hy, _, _, rfl, rfl, _, rfl, ite2 (fun e => ?_) (fun e => ?_)⟩
                · have hlt := of_decide_eq_true e
                  refine ⟨.ref su, rfl, .str name, rfl, su, _, rfl, dget M2.sums hn2, .int c, rfl, _, _, rfl, rfl, .ref su, rfl, .str y, rfl, su, _, rfl, dput y (.int (sv2 name + c)) M2.sums (by omega), ?_⟩
                  refine ⟨.int (k : Nat), rfl, .ref ca, rfl, .str y, rfl, ca, _, rfl, dput y (.int (k : Nat)) (hca2 _) (by omega), ?_⟩
                  refine ⟨.ref ch, rfl, .str y, rfl, ch, _, rfl, dput y (.bl true) (hch3 _ _) (by omega), ?_⟩
                  exact fin (fun _ => hlt) _ _ _ _
                · have hge : ¬ sv2 name + c < sv2 y := fun z => e (decide_eq_true z)
                  refine ⟨_, _, _, _, ss2, sv2, cs2, cz2, hs2, rfl, M2, hwl2, hch2, hnd2, hsub2, hws2, hl2, htup, hdone2, fun j' q k' y' c' hj' hq' e => ?_, g1, g2⟩
                  by_cases ji : j' = j
                  · subst ji
                    rw [hqa] at hq'
                    have := Option.some.inj hq'
                    subst this
                    rw [hq4] at e
                    have e := HO.tup.inj (Option.some.inj e)
                    injection e with _ e
                    injection e with e1 e
                    injection e with e2 _
                    have e1 := V.str.inj e1
                    have e2 := V.int.inj e2
                    subst e1 e2
                    exact ⟨hy, by omega⟩
                  · exact hprev j' q k' y' c' (by omega) hq' e
              · refine ⟨.str y, rfl, .ref su, rfl, su, _, rfl, dget0 M2.sums hy, _, rfl, iteT (iteT ?_)⟩
                refine ⟨.ref su, rfl, .str name, rfl, su, _, rfl, dget M2.sums hn2, .int c, rfl, _, _, rfl, rfl, .ref su, rfl, .str y, rfl, su, _, rfl, dput y (.int (sv2 name + c)) M2.sums (by omega), ?_⟩
                refine ⟨.int (k : Nat), rfl, .ref ca, rfl, .str y, rfl, ca, _, rfl, dput y (.int (k : Nat)) (hca2 _) (by omega), ?_⟩
                refine ⟨.ref ch, rfl, .str y, rfl, ch, _, rfl, dput y (.bl true) (hch3 _ _) (by omega), ?_⟩
                exact fin (fun z => absurd z hy) _ _ _ _
            · rintro σ H5 ⟨y4, y5, y6, y7, ss2, sv2, cs2, cz2, hs2, rfl, M2, hwl2, hch2, hnd2, hsub2, hws2, hl2, htup, hdone2, hprev, g1, g2⟩
              rw [List.length_map] at hprev
              refine ⟨_, _, _, _, _, ss2, sv2, cs2, cz2, hs2, rfl, M2, hwl2, hch2, hnd2, hsub2, hws2, fun x hx => ?_, g1, g2⟩
              by_cases xn : x = name
              · subst xn
                refine .inr (.inr fun r hr er => ?_)
                obtain ⟨x', y, c⟩ := r
                have er : x' = x := er
                subst er
                obtain ⟨j, hj, ej⟩ := List.getElem_of_mem hr
                obtain ⟨q1, hq1, eq1⟩ := hall j y c (by rw [List.getElem?_eq_getElem hj, ej])
                obtain ⟨j', hj', ej'⟩ := List.getElem_of_mem hq1
                exact hprev j' q1 j y c hj' (by rw [List.getElem?_eq_getElem hj', ej']) eq1
              · exact hdone2 x hx xn
          · rintro σ H3 ⟨y4, y5, y6, y7, y12, ss1, sv1, cs1, cz1, hs1, rfl, M1, hwl1, hch1, hnd1, hsub1, hws1, hdone1, g1, g2⟩
            rw [List.length_map, List.drop_length] at hdone1
            refine ⟨.ref ch, rfl, ch, _, rfl, Rd.of hch1, fun wl' nwl' => ?_⟩
            have sE := same_upd (o := HO.lst ((dS hs1 fun _ => V.bl true).map fun kv => kV kv.1)) nwl'
            refine ⟨_, _, _, _, _, _, hs1, ss1, sv1, cs1, cz1, wl', rfl, ⟨M1.same.trans sE, sE _ _ M1.sums, sE _ _ M1.caus, M1.nd, M1.sub, M1.S⟩, by rw [upd_same, dS_keys], hsub1, fun x hx => (hdone1 x hx).resolve_left List.not_mem_nil, g1, g2⟩
end
end Lo
namespace Lo
open PySem L2
abbrev sRing : Stmt := top 22

section
variable {P : Program} {w : World} {K : PySem.W.Frag} {mg : Str → Option Value} {base : Heap}
/-! ### ring -/
def spRing : Sp := fun vs H Q _ => ∃ (a : Addr) (rows : List SRow), vs = [.ref a] ∧ Sys RowA H a rows ∧ Good rows ∧
  ∀ H' x, Same H H' → ((x = .non ∧ ∃ v, Sat rows v) ∨ ∃ q, x = .ref q ∧ RingAt H' q rows) → Q x H'
theorem scRing : FnScope ["system"] ["system"] (defScope sRing) := ⟨rfl, rfl, rfl, by decide +kernel, rfl, by decide +kernel, by decide +kernel⟩
theorem ok_ring {f fS fR : Addr} {fd fdS fdR : FuncData} (F : Fun K "ring" "ring" sRing f fd) (GS : FnOk P w K mg base CX0 3 fS fdS ["differences"] spSettled) (kS : PySem.W.keepIn K (.ref fS) = true) (bS : Binds K fdS ["differences"] []) (gS : mg "_settled" = some (.ref fS))
    (GR : FnOk P w K mg base CX0 3 fR fdR ["system"] spRead) (kR : PySem.W.keepIn K (.ref fR) = true) (bR : Binds K fdR ["system"] []) (gR : mg "read_system" = some (.ref fR)) : FnOk P w K mg base CX0 4 f fd ["system"] spRing := by
  refine F.ok scRing (fun vs H Q E h => ?_) (fun cdv A outer s H vs Q E hr h => ?_)
  · obtain ⟨a, rows, rfl, _⟩ := h
    rfl
  · obtain ⟨a, rows, rfl, hS, g, q⟩ := h
    refine ⟨_, pss_one (ps_ret (pe_ix ix_tup (pe_call GS hr (by rfl) gS kS bS .nil pass0 (pa_cons (pe_call GR hr (by rfl) gR kR bR .nil pass0 (pa_cons (pv 0) pa_nil)) pa_nil)) pe_int (fun _ _ => rfl))), ?_⟩
    refine ⟨.ref a, rfl, a, rows, rfl, hS, g, fun H1 r s1 _ hr1 => ?_⟩
    refine ⟨r, rows, rfl, hr1, g, fun H2 t s2 hT => ?_⟩
    rcases hT with ⟨u, ht, hR⟩ | ⟨d, ks, val, ht, _, _, _, hs⟩
    · exact ⟨t, _, 0, _, rfl, rfl, SqT.of ht, atI_nat (j := 0) rfl, q _ _ (s1.trans s2) (.inr ⟨u, rfl, hR⟩)⟩
    · exact ⟨t, _, 0, _, rfl, rfl, SqT.of ht, atI_nat (j := 0) rfl, q _ _ (s1.trans s2) (.inl ⟨rfl, val, hs⟩)⟩
end
end Lo
namespace Lo
open PySem L2

abbrev sImplied : Stmt := top 23

section
variable {P : Program} {w : World} {K : PySem.W.Frag} {mg : Str → Option Value} {base : Heap}
/-! ### implied -/
def spImplied : Sp := fun vs H Q _ => ∃ (a p : Addr) (rows : List SRow) (r : SRow), vs = [.ref a, .ref p] ∧ Sys RowA H a rows ∧ Good rows ∧ RowA H p r ∧ Good1 r ∧
  ∀ H' b, Same H H' → (b = true ↔ Told rows r.1 r.2.1 r.2.2) → Q (.bl b) H'
abbrev nImplied : List Str := ["system", "difference", "differences", "left", "right", "limit", "reach"]
theorem scImplied : FnScope nImplied ["system", "difference"] (defScope sImplied) := ⟨rfl, rfl, rfl, by decide +kernel, rfl, by decide +kernel, by decide +kernel⟩
theorem ok_implied {f fS fR fD fX : Addr} {fd fdS fdR fdD fdX : FuncData} (F : Fun K "implied" "implied" sImplied f fd) (GS : FnOk P w K mg base CX0 3 fS fdS ["differences"] spSettled) (kS : PySem.W.keepIn K (.ref fS) = true) (bS : Binds K fdS ["differences"] []) (gS : mg "_settled" = some (.ref fS))
    (GR : FnOk P w K mg base CX0 3 fR fdR ["system"] spRead) (kR : PySem.W.keepIn K (.ref fR) = true) (bR : Binds K fdR ["system"] []) (gR : mg "read_system" = some (.ref fR))
    (GD : FnOk P w K mg base CX0 2 fD fdD ["thing"] spDiff) (kD : PySem.W.keepIn K (.ref fD) = true) (bD : Binds K fdD ["thing"] []) (gD : mg "is_difference" = some (.ref fD))
    (GX : FnOk P w K mg base CX0 1 fX fdX ["differences", "left", "right"] spReached) (kX : PySem.W.keepIn K (.ref fX) = true) (bX : Binds K fdX ["differences", "left", "right"] []) (gX : mg "_reached" = some (.ref fX)) : FnOk P w K mg base CX0 4 f fd ["system", "difference"] spImplied := by
  refine F.ok scImplied (fun vs H Q E h => ?_) (fun cdv A outer s H vs Q E hr h => ?_)
  · obtain ⟨a, p, rows, r, rfl, _⟩ := h
    rfl
  · obtain ⟨a, p, rows, r, rfl, hS, g, hR, g1, q⟩ := h
    have nd := scImplied.nd
    refine ⟨_, pss_cons (ps_set (i := 2) nd rfl (.inl rfl) (pe_call GR hr (by rfl) gR kR bR .nil pass0 (pa_cons (pv 0) pa_nil)))
      (pss_cons (ps_if (pt_not (pt_val (pe_call GD (hr.mono (by decide)) (by rfl) gD kD bD .nil pass0 (pa_cons (pv 1) pa_nil)))) (pss_one ps_never) pss_nil)
      (pss_cons (ps_if (pt_cmpR op_notN (pe_ix ix_tup (pe_call GS hr (by rfl) gS kS bS .nil pass0 (pa_cons (pv 2) pa_nil)) pe_int (fun _ _ => rfl)) pe_non (nomark _)) (pss_one (ps_ret pe_bl)) pss_nil)
      (pss_cons (ps_asg (pv 1) (pg_either rfl (pgs_cons (pg_name (i := 3) nd rfl (.inl rfl)) (pgs_cons (pg_name (i := 4) nd rfl (.inl rfl)) (pgs_cons (pg_name (i := 5) nd rfl (.inl rfl)) pgs_nil)))))
      (pss_cons (ps_set (i := 6) nd rfl (.inl rfl) (pe_ix ix_tup (pe_call GX (hr.mono (by decide)) (by rfl) gX kX bX .nil pass0 (pa_cons (pv 2) (pa_cons (pv 3) (pa_cons (pv 4) pa_nil)))) pe_int (fun _ _ => rfl)))
      (pss_one (ps_ret (pe_and (pe_cmpR op_notN (pv 6) pe_non (nomark _)) (pe_one (pe_cmpR op_le (pv 6) (pv 5) (nomark _)))))))))), ?_⟩
    refine ⟨.ref a, rfl, a, rows, rfl, hS, g, fun H1 d s1 _ hd => ?_⟩
    refine ⟨.ref p, rfl, p, r, rfl, hR.same s1, g1, fun H2 s2 => ⟨true, rfl, iteF ?_⟩⟩
    have hd2 := hd.sameT s2
    refine ⟨.ref d, rfl, d, rows, rfl, hd2, g, fun H3 t s3 hT => ?_⟩
    have s03 := (s1.trans s2).trans s3
    rcases hT with ⟨u, ht, hf⟩ | ⟨dd, ks, val, ht, _, _, _, hs⟩
    · obtain ⟨found, _, hf, _⟩ := hf
      exact ⟨t, _, 0, _, rfl, rfl, SqT.of ht, atI_nat (j := 0) rfl, rfl, _, rfl, iteT (q H3 true s03 ⟨fun _ v hv => absurd hv (ringOk_not_sat hf v), fun _ => rfl⟩)⟩
    · refine ⟨t, _, 0, _, rfl, rfl, SqT.of ht, atI_nat (j := 0) rfl, rfl, _, rfl, iteF ?_⟩
      have hd3 := hd2.sameT s3
      have fin : ∀ (H4 : Hp) (t : Addr) (ca : Addr) (b : Option Int), Same H3 H4 → H4 t = some (.tup [optV b, .ref ca]) → Best rows r.1 r.2.1 b →
          ∃ p xs i v, V.ref t = .ref p ∧ V.int 0 = .int i ∧ SqT K H4 p xs ∧ atI xs i = some v ∧ (fun (v : V) (H5 : Hp) => ∃ c, (V.bl (!decide (v = V.non))) = .bl c ∧ if c = true then (∃ i j, v = .int i ∧ V.int r.2.2 = .int j ∧ Q (.bl (decide (i ≤ j))) H5) else Q (.bl false) H5) v H4 := by
        intro H4 t ca b s4 ht B
        refine ⟨t, _, 0, _, rfl, rfl, SqT.of ht, atI_nat (j := 0) rfl, ?_⟩
        cases b with
        | none => exact ⟨_, rfl, iteF (q H4 false (s03.trans s4) ⟨(fun z => nomatch z), fun hT => absurd hT (B.2 _ fun k e => nomatch e)⟩)⟩
        | some k =>
          refine ⟨_, rfl, iteT ⟨k, r.2.2, rfl, rfl, q H4 _ (s03.trans s4) ⟨fun e => ?_, fun hT => ?_⟩⟩⟩
          · have := of_decide_eq_true e
            exact fun u hu => Int.le_trans (B.1 k rfl u hu) this
          · refine decide_eq_true (Classical.byContradiction fun n => B.2 r.2.2 (fun k' e => ?_) hT)
            have := Option.some.inj e
            omega
      rcases (hR.same s03) with h3 | h3
      · refine ⟨.ref p, rfl, .inl ⟨p, rowV r, rfl, SqT.of h3, rfl, _, _, rfl, _, _, rfl, _, _, rfl, rfl, ?_⟩⟩
        refine ⟨.ref d, rfl, .str r.1, rfl, .str r.2.1, rfl, d, r.1, r.2.1, rows, val, rfl, hd3, g, hs, fun H4 t ca b s4 ht B => ?_⟩
        obtain ⟨p', xs, i, v, e1, e2, e3, e4, c, e5, e6⟩ := fin H4 t ca b s4 ht B
        refine ⟨p', xs, i, v, e1, e2, e3, e4, v, rfl, rfl, c, e5, ?_⟩
        cases c with
        | false => exact iteF e6
        | true =>
          obtain ⟨i, j, f1, f2, f3⟩ := e6
          exact iteT ⟨v, rfl, _, rfl, i, j, f1, f2, f3⟩
      · refine ⟨.ref p, rfl, .inr ⟨p, rowV r, rfl, SqL.of h3, rfl, _, _, rfl, _, _, rfl, _, _, rfl, rfl, ?_⟩⟩
        refine ⟨.ref d, rfl, .str r.1, rfl, .str r.2.1, rfl, d, r.1, r.2.1, rows, val, rfl, hd3, g, hs, fun H4 t ca b s4 ht B => ?_⟩
        obtain ⟨p', xs, i, v, e1, e2, e3, e4, c, e5, e6⟩ := fin H4 t ca b s4 ht B
        refine ⟨p', xs, i, v, e1, e2, e3, e4, v, rfl, rfl, c, e5, ?_⟩
        cases c with
        | false => exact iteF e6
        | true =>
          obtain ⟨i, j, f1, f2, f3⟩ := e6
          exact iteT ⟨v, rfl, _, rfl, i, j, f1, f2, f3⟩
end
end Lo
namespace Lo
open PySem L2
abbrev sDraw : Stmt := top 29
abbrev sPool : Stmt := top 31
theorem fmod_in {i j : Int} (h : 0 < j) : 0 ≤ i.fmod j ∧ i.fmod j < j := by
  rw [Int.fmod_eq_emod_of_nonneg _ (Int.le_of_lt h)]
  exact ⟨Int.emod_nonneg _ (by omega), Int.emod_lt_of_pos _ h⟩
theorem other_ne {o d n : Int} (h0 : 0 ≤ o) (h1 : o < n) (h2 : 0 ≤ d) (h3 : d < n - 1) : 0 ≤ (o + 1 + d).fmod n ∧ (o + 1 + d).fmod n < n ∧ (o + 1 + d).fmod n ≠ o := by
  have hn : 0 < n := by omega
  obtain ⟨a, b⟩ := fmod_in (i := o + 1 + d) hn
  refine ⟨a, b, ?_⟩
  rw [Int.fmod_eq_emod_of_nonneg _ (Int.le_of_lt hn)]
  by_cases k : o + 1 + d < n
  · rw [Int.emod_eq_of_lt (by omega) k]
    omega
  · have e : o + 1 + d = (o + 1 + d - n) + n := by omega
    rw [e, Int.add_emod_right, Int.emod_eq_of_lt (by omega) (by omega)]
    omega
theorem dpInts {K : PySem.W.Frag} {H : Hp} : ∀ ns : List Int, DpAll K H (ns.map V.int) (ns.map PyData.int)
  | [] => .nil
  | n :: ns => .cons (.int n) (dpInts ns)
theorem eqv_nil (ns : List Int) : PyData.eqv (.list (ns.map PyData.int)) (.list []) = decide (ns = []) := by
  cases ns with
  | nil => rfl
  | cons n ns => exact (decide_eq_false (fun z => nomatch z)).symm
/-- int(e), e an int -/
theorem call_intI {X : Cx} : CallR X (.type "int") (fun xs H Q => ∃ i, xs = [.int i] ∧ Q (.int i) H) := fun pins s σ H xs us Q I r ⟨i, e, q⟩ => call_int1 pins s σ H xs us Q I r (.inl ⟨i, e, q⟩)
section
variable {P : Program} {w : World} {K : PySem.W.Frag} {mg : Str → Option Value} {base : Heap}
/-- the script at s -/
def Scr (K : PySem.W.Frag) (H : Hp) (s : Addr) : Prop := ∃ ns : List Int, SqL K H s (ns.map V.int) ∧ ns.length ≤ 63
theorem Scr.same {H H' : Hp} {s : Addr} (e : Same H H') (h : Scr K H s) : Scr K H' s := by
  obtain ⟨ns, h1, h2⟩ := h
  exact ⟨ns, e.seq h1, h2⟩
/-! ### _law_draw -/
def spDraw (K : PySem.W.Frag) : Sp := fun vs H Q _ => ∃ (s : Addr) (at_ many : Int), vs = [.ref s, .int at_, .int many] ∧ Scr K H s ∧ 1 ≤ many ∧ ∀ H' k, Same H H' → 0 ≤ k → k < many → Q (.int k) H'
abbrev nDraw : List Str := ["script", "at", "many", "row", "cell", "turn", "step", "mixed"]
theorem scDraw : FnScope nDraw ["script", "at", "many"] (defScope sDraw) := ⟨rfl, rfl, rfl, by decide +kernel, rfl, by decide +kernel, by decide +kernel⟩
theorem ok_draw {f : Addr} {fd : FuncData} (F : Fun K "_law_draw" "_law_draw" sDraw f fd) (T : Blt mg) : FnOk P w K mg base CX0 1 f fd ["script", "at", "many"] (spDraw K) := by
  refine F.ok scDraw (fun vs H Q E h => ?_) (fun cdv A outer s H vs Q E hr h => ?_)
  · obtain ⟨s, a, m, rfl, _⟩ := h
    rfl
  · obtain ⟨s, a, m, rfl, ⟨ns, hS, hlen⟩, hm, q⟩ := h
    have nd := scDraw.nd
    refine ⟨_, pss_cons (ps_set (i := 3) nd rfl (.inl rfl) (pe_ifExp (pt_cmpR (op_neD hr.units) (pv 0) (pe_lst pa_nil) (nomark _)) (pe_slice sl_list (pv 0) po_none (po_some pe_int)) (pe_lst (pa_cons pe_int pa_nil))))
      (pss_cons (ps_par (i := 4) (j := 5) rfl nd rfl rfl (by decide) rfl rfl (pa_cons (pe_ix ix_list (pv 3) (pe_op op_modN (pv 1) (pe_callB call_len_seq (by rfl) T.len PySem.boot_len (pa_cons (pv 3) pa_nil))) (fun _ _ => rfl))
          (pa_cons (pe_op op_fdivN (pv 1) (pe_callB call_len_seq (by rfl) T.len PySem.boot_len (pa_cons (pv 3) pa_nil))) pa_nil)) (by rfl))
      (pss_cons (ps_if (pt_cmpR op_ge (pv 4) (pe_op op_pow pe_int pe_int) (nomark _))
        (pss_cons (ps_set (i := 4) nd rfl (.inl rfl) (pe_op op_modN (pe_callTy call_intI (by rfl) T.int PyProof.Rows.boot_int (pa_cons (pv 4) pa_nil)) (pe_op op_pow pe_int pe_int)))
        (pss_cons (ps_for PassesOwn.never rfl (pi_range1 (by rfl) T.range (pa_cons (pe_op op_modN (pv 5) pe_int) pa_nil)) (pg_name (i := 6) nd rfl (.inl rfl)) (pss_one (ps_set (i := 4) nd rfl (.inl rfl) (pe_op op_fdivN (pv 4) pe_int))))
        (pss_one (ps_ret (pe_op op_modN (pe_op op_modN (pe_callTy call_intI (by rfl) T.int PyProof.Rows.boot_int (pa_cons (pv 4) pa_nil)) pe_int) (pv 2)))))) pss_nil)
      (pss_cons (ps_set (i := 7) nd rfl (.inl rfl) (pe_op op_add (pe_op op_mul (pe_op op_add (pe_op op_add (pe_op op_modN (pe_callTy call_intI (by rfl) T.int PyProof.Rows.boot_int (pa_cons (pe_op op_add (pv 4) (pe_op op_mul pe_int (pv 5))) pa_nil)) pe_int) (pe_op op_mul pe_int (pv 1))) pe_int) pe_int)
          (pe_op op_modN (pe_callTy call_intI (by rfl) T.int PyProof.Rows.boot_int (pa_cons (pe_op op_fdivN (pv 4) pe_int) pa_nil)) pe_int)))
      (pss_one (ps_ret (pe_op op_modN (pe_callTy call_intI (by rfl) T.int PyProof.Rows.boot_int (pa_cons (pe_op op_modN (pe_op op_mul (pe_op op_modN (pv 7) pe_int) pe_int) pe_int) pa_nil)) (pv 2))))))), ?_⟩
    -- the row: a list of ints, not empty
    have rowR : ∀ Q : V → Hp → Prop, (∀ (H2 : Hp) (rw_ : Addr) (rs : List Int), Same H H2 → H2 rw_ = some (.lst (rs.map V.int)) → rs ≠ [] → rs.length ≤ 63 → Q (.ref rw_) H2) →
        (tIf (tTest (tOp (rNeD K) (tVar 0) (tLst tNil))) (tSl (rSlL K) (tVar 0) tNoPart (tPart (tC (.int 60)))) (tLst (tCons (tC (.int 7)) tNil))) (L2.start nDraw [.ref s, .int a, .int m]) H Q := by
      intro Q hQ
      refine ⟨.ref s, rfl, Nat.zero_le _, fun e0 ne0 => ?_⟩
      have s1 : Same H (upd H e0 (.lst [])) := same_upd ne0
      refine ⟨_, _, .lst (s1.seq hS) (dpInts ns), .lst (SqL.of upd_same) .nil, PySem.W.ke_shaped_ints ns, PySem.W.ke_shaped_ints [], _, rfl, ?_⟩
      rw [eqv_nil]
      by_cases hn : ns = []
      · rw [decide_eq_true hn]
        refine iteF ⟨by show 1 ≤ sizeLine; decide, fun p np => ?_⟩
        exact hQ _ p [7] (s1.trans (same_upd np)) upd_same (List.cons_ne_nil _ _) (by decide)
      · rw [decide_eq_false hn]
        refine iteT ⟨.ref s, rfl, 60, rfl, s, _, rfl, s1.seq hS, fun p np => ?_⟩
        have ec : cutV (ns.map V.int) none (some 60) = (ns.take 60).map V.int := by
          unfold cutV
          rw [HT.sIx_none, show HT.sIx (ns.map V.int).length (ns.map V.int).length (some 60) = min 60 (ns.map V.int).length from HT.sIx_nat _ _ 60, List.drop_zero, Nat.sub_zero, List.map_take]
          rw [List.length_map]
          by_cases k : 60 ≤ ns.length
          · rw [Nat.min_eq_left k]
          · rw [Nat.min_eq_right (by omega), List.take_of_length_le (by rw [List.length_map]; exact Nat.le_refl _), List.take_of_length_le (by rw [List.length_map]; omega)]
        rw [ec]
        refine hQ _ p (ns.take 60) (s1.trans (same_upd np)) upd_same (fun z => hn ?_) (by rw [List.length_take]; omega)
        cases ns with
        | nil => rfl
        | cons x r => exact nomatch z
    refine rowR _ fun H2 rw_ rs s2 hrw hne hl => ?_
    have hpos : (0 : Int) < (rs.length : Nat) := by
      have := List.length_pos_iff.mpr hne
      omega
    obtain ⟨j, ej, hj⟩ : ∃ j : Nat, a.fmod (rs.length : Nat) = (j : Nat) ∧ j < rs.length := by
      obtain ⟨h0, h1⟩ := fmod_in (i := a) hpos
      exact ⟨(a.fmod (rs.length : Nat)).toNat, by omega, by omega⟩
    have elen : (((rs.map V.int).length : Nat) : Int) = (rs.length : Nat) := by rw [List.length_map]
    have hcell : (rs.map V.int)[j]? = some (.int rs[j]) := by
      rw [List.getElem?_map, List.getElem?_eq_getElem hj]
      rfl
    refine ⟨.ref rw_, rfl, .int a, rfl, .ref rw_, rfl, rw_, _, rfl, .inl (SqL.of hrw), _, _, rfl, rfl, ?_, rw_, _, (j : Nat), .int rs[j], rfl, ?_, SqL.of hrw, atI_nat hcell, ?_⟩
    · rw [elen]
      omega
    · rw [elen]
      show V.int (a.fmod (rs.length : Nat)) = _
      rw [ej]
    refine ⟨.int a, rfl, .ref rw_, rfl, rw_, _, rfl, .inl (SqL.of hrw), _, _, rfl, rfl, ?_, _, _, rfl, ?_⟩
    · rw [elen]
      exact ⟨by omega, by show (rs.length : Int).natAbs < 1073741824; omega⟩
    have fin : ∀ (H' : Hp) (i : Int), Same H H' → Q (.int (i.fmod m)) H' := fun H' i s' => by
      obtain ⟨h0, h1⟩ := fmod_in (i := i) (show 0 < m by omega)
      exact q H' _ s' h0 h1
    have nz : ∀ {i j : Int}, j ≠ 0 → (fun (_ j : Int) => j ≠ 0) i j := fun h => h
    have p40 : (97 : Int) ^ Int.toNat 40 ≠ 0 := by decide
    refine ⟨_, rfl, _, _, rfl, rfl, ⟨by decide, by decide, by decide⟩, _, _, rfl, rfl, _, rfl, ite2 (fun _ => ?_) (fun _ => ?_)⟩
    · refine ⟨_, rfl, _, rfl, _, _, rfl, rfl, ⟨by decide, by decide, by decide⟩, _, _, rfl, rfl, p40, ?_⟩
      refine ⟨_, rfl, _, _, rfl, rfl, (by decide : (40 : Int) ≠ 0), _, rfl, ?_, ?_, ?_⟩
      · obtain ⟨h0, h1⟩ := fmod_in (i := a.fdiv (((rs.map V.int).length : Nat) : Int)) (show (0 : Int) < 40 by decide)
        omega
      · obtain ⟨h0, h1⟩ := fmod_in (i := a.fdiv (((rs.map V.int).length : Nat) : Int)) (show (0 : Int) < 40 by decide)
        omega
      refine for_range (lo := 0) (fun i σ H' => ∃ (c : Int) (y : Option V), σ = [some (.ref s), some (.int a), some (.int m), some (.ref rw_), some (.int c), some (.int (a.fdiv (((rs.map V.int).length : Nat) : Int))), y, none] ∧ H' = H2) ⟨_, _, rfl, rfl⟩ ?_ ?_
      · rintro i σ H' hi ⟨c, y, rfl, rfl⟩
        exact ⟨_, rfl, _, _, rfl, rfl, ⟨by decide, by decide⟩, _, _, rfl, rfl⟩
      · rintro σ H' ⟨c, y, rfl, rfl⟩
        exact ⟨_, rfl, _, rfl, _, _, rfl, rfl, (by decide : (97 : Int) ≠ 0), _, rfl, _, _, rfl, rfl, (by omega : m ≠ 0), fin _ _ s2⟩
    · refine ⟨_, rfl, _, rfl, _, _, rfl, rfl, .inl ⟨by decide, by decide⟩, _, _, rfl, rfl, _, rfl, _, _, rfl, rfl, (by decide : (1000003 : Int) ≠ 0), ?_⟩
      refine ⟨_, rfl, _, _, rfl, rfl, .inl ⟨by decide, by decide⟩, _, _, rfl, rfl, _, _, rfl, rfl, _, _, rfl, rfl, .inr ⟨by decide, by decide⟩, ?_⟩
      refine ⟨_, rfl, _, _, rfl, rfl, ⟨by decide, by decide⟩, _, rfl, _, _, rfl, rfl, (by decide : (999983 : Int) ≠ 0), _, _, rfl, rfl, ?_⟩
      refine ⟨_, rfl, _, _, rfl, rfl, (by decide : (2147483647 : Int) ≠ 0), _, _, rfl, rfl, .inr ⟨by decide, by decide⟩, _, _, rfl, rfl, (by decide : (4294967291 : Int) ≠ 0), _, rfl, _, rfl, _, _, rfl, rfl, (by omega : m ≠ 0), fin _ _ s2⟩
end
end Lo
namespace Lo
open PySem L2
abbrev sSystem : Stmt := top 32


def pools : List (List Str) := [["a", "b", "c", "d"], ["z", "Z9", "00", " "], ["n", "n1", "m", "long name"], ["x", "xx", "xxx", "y"]]
theorem pools_len : ∀ xs ∈ pools, xs.length = 4 := by decide +kernel
theorem pools_nd : ∀ xs ∈ pools, xs.Nodup := by decide +kernel
theorem pools_ok : ∀ xs ∈ pools, ∀ x ∈ xs, x ≠ ("" : Str) ∧ x ≠ ("0" : Str) ∧ x ≠ ("new" : Str) ∧ x ≠ ("old" : Str) ∧ PyData.strOk x = true := by decide +kernel
section
variable {P : Program} {w : World} {K : PySem.W.Frag} {mg : Str → Option Value} {base : Heap}
/-! ### _law_pool -/
def spPool (K : PySem.W.Frag) : Sp := fun vs H Q _ => ∃ (s : Addr) (at_ : Int), vs = [.ref s, .int at_] ∧ Scr K H s ∧ ∀ H' p xs, Same H H' → H' p = some (.tup (xs.map V.str)) → xs ∈ pools → Q (.ref p) H'
theorem scPool : FnScope ["script", "at"] ["script", "at"] (defScope sPool) := ⟨rfl, rfl, rfl, by decide +kernel, rfl, by decide +kernel, by decide +kernel⟩
theorem ok_pool {f fD : Addr} {fd fdD : FuncData} (F : Fun K "_law_pool" "_law_pool" sPool f fd) (GD : FnOk P w K mg base CX0 1 fD fdD ["script", "at", "many"] (spDraw K)) (kD : PySem.W.keepIn K (.ref fD) = true) (bD : Binds K fdD ["script", "at", "many"] []) (gD : mg "_law_draw" = some (.ref fD)) :
    FnOk P w K mg base CX0 2 f fd ["script", "at"] (spPool K) := by
  refine F.ok scPool (fun vs H Q E h => ?_) (fun cdv A outer s H vs Q E hr h => ?_)
  · obtain ⟨s, a, rfl, _⟩ := h
    rfl
  · obtain ⟨s, a, rfl, hS, q⟩ := h
    refine ⟨_, pss_one (ps_ret (pe_ix ix_tup (pe_tup (pa_cons (pe_tup (pa_cons pe_str (pa_cons pe_str (pa_cons pe_str (pa_cons pe_str pa_nil))))) (pa_cons (pe_tup (pa_cons pe_str (pa_cons pe_str (pa_cons pe_str (pa_cons pe_str pa_nil)))))
      (pa_cons (pe_tup (pa_cons pe_str (pa_cons pe_str (pa_cons pe_str (pa_cons pe_str pa_nil))))) (pa_cons (pe_tup (pa_cons pe_str (pa_cons pe_str (pa_cons pe_str (pa_cons pe_str pa_nil))))) pa_nil)))))
      (pe_call GD hr (by rfl) gD kD bD .nil pass0 (pa_cons (pv 0) (pa_cons (pv 1) (pa_cons pe_int pa_nil)))) (fun _ _ => rfl))), ?_⟩
    refine ⟨by show 4 ≤ sizeLine; decide, fun t0 n0 => ⟨by show 4 ≤ sizeLine; decide, fun t1 n1 => ⟨by show 4 ≤ sizeLine; decide, fun t2 n2 => ⟨by show 4 ≤ sizeLine; decide, fun t3 n3 => ⟨by show 4 ≤ sizeLine; decide, fun tt nt => ?_⟩⟩⟩⟩⟩
    have s0 := same_upd (o := HO.tup ((["a", "b", "c", "d"] : List Str).map V.str)) n0
    have s1 := same_upd (o := HO.tup ((["z", "Z9", "00", " "] : List Str).map V.str)) n1
    have s2 := same_upd (o := HO.tup ((["n", "n1", "m", "long name"] : List Str).map V.str)) n2
    have s3 := same_upd (o := HO.tup ((["x", "xx", "xxx", "y"] : List Str).map V.str)) n3
    have s4 := same_upd (o := HO.tup [V.ref t0, V.ref t1, V.ref t2, V.ref t3]) nt
    have e0 := s4 _ _ (s3 _ _ (s2 _ _ (s1 _ _ (upd_same (H := H) (a := t0) (o := HO.tup ((["a", "b", "c", "d"] : List Str).map V.str))))))
    have e1 := s4 _ _ (s3 _ _ (s2 _ _ (upd_same (a := t1) (o := HO.tup ((["z", "Z9", "00", " "] : List Str).map V.str)))))
    have e2 := s4 _ _ (s3 _ _ (upd_same (a := t2) (o := HO.tup ((["n", "n1", "m", "long name"] : List Str).map V.str))))
    have e3 := s4 _ _ (upd_same (a := t3) (o := HO.tup ((["x", "xx", "xxx", "y"] : List Str).map V.str)))
    have sAll := (((s0.trans s1).trans s2).trans s3).trans s4
    refine ⟨.ref s, rfl, .int a, rfl, s, a, 4, rfl, hS.same sAll, by decide, fun H' k s' h0 h1 => ?_⟩
    have et := s' _ _ (upd_same (a := tt) (o := HO.tup [V.ref t0, V.ref t1, V.ref t2, V.ref t3]))
    have hk : k = ((0 : Nat) : Int) ∨ k = ((1 : Nat) : Int) ∨ k = ((2 : Nat) : Int) ∨ k = ((3 : Nat) : Int) := by omega
    rcases hk with rfl | rfl | rfl | rfl
    · exact ⟨tt, _, _, _, rfl, rfl, SqT.of et, atI_nat rfl, q H' t0 _ (sAll.trans s') (s' _ _ e0) (by decide +kernel)⟩
    · exact ⟨tt, _, _, _, rfl, rfl, SqT.of et, atI_nat rfl, q H' t1 _ (sAll.trans s') (s' _ _ e1) (by decide +kernel)⟩
    · exact ⟨tt, _, _, _, rfl, rfl, SqT.of et, atI_nat rfl, q H' t2 _ (sAll.trans s') (s' _ _ e2) (by decide +kernel)⟩
    · exact ⟨tt, _, _, _, rfl, rfl, SqT.of et, atI_nat rfl, q H' t3 _ (sAll.trans s') (s' _ _ e3) (by decide +kernel)⟩
/-! ### _law_system -/
/-- names that a law draws -/
structure Names (ns : List Str) : Prop where
  two : 2 ≤ ns.length
  few : ns.length ≤ 4
  nd : ns.Nodup
  ok : ∀ x ∈ ns, x ≠ ("" : Str) ∧ x ≠ ("0" : Str) ∧ x ≠ ("new" : Str) ∧ x ≠ ("old" : Str) ∧ PyData.strOk x = true
theorem Names.ends (N : Names ns) : (("0" : Str) :: ns).Nodup ∧ ∀ x ∈ (("0" : Str) :: ns), x ≠ ("" : Str) ∧ x ≠ ("new" : Str) ∧ x ≠ ("old" : Str) ∧ PyData.strOk x = true := by
  refine ⟨List.nodup_cons.mpr ⟨fun h => (N.ok _ h).2.1 rfl, N.nd⟩, fun x hx => ?_⟩
  rcases List.mem_cons.mp hx with h | h
  · subst h
    decide +kernel
  · obtain ⟨a, b, c, d, e⟩ := N.ok x h
    exact ⟨a, c, d, e⟩
/-- its two sides are ends -/
def In2 (ns : List Str) (r : SRow) : Prop := r.1 ∈ (("0" : Str) :: ns) ∧ r.2.1 ∈ (("0" : Str) :: ns)
def spSystem (K : PySem.W.Frag) : Sp := fun vs H Q _ => ∃ (s np : Addr) (at_ most : Int) (ns : List Str), vs = [.ref s, .int at_, .ref np, .int most] ∧ Scr K H s ∧ H np = some (.tup (ns.map V.str)) ∧ Names ns ∧ 0 ≤ most ∧ most ≤ 10 ∧
  ∀ H' p rows, Same H H' → H p = none → Sys RowT H' p rows → Good rows → rows.length ≤ 10 → (∀ r ∈ rows, OkR r ∧ In2 ns r) → Q (.ref p) H'
abbrev nSystem : List Str := ["script", "at", "names", "most", "found", "ends", "scale", "turn", "spot", "one", "other", "limit"]
theorem scSystem : FnScope nSystem ["script", "at", "names", "most"] (defScope sSystem) := ⟨rfl, rfl, rfl, by decide +kernel, rfl, by decide +kernel, by decide +kernel⟩
theorem ok_system {f fD : Addr} {fd fdD : FuncData} (F : Fun K "_law_system" "_law_system" sSystem f fd) (T : Blt mg) (GD : FnOk P w K mg base CX0 1 fD fdD ["script", "at", "many"] (spDraw K)) (kD : PySem.W.keepIn K (.ref fD) = true) (bD : Binds K fdD ["script", "at", "many"] []) (gD : mg "_law_draw" = some (.ref fD)) :
    FnOk P w K mg base CX0 2 f fd ["script", "at", "names", "most"] (spSystem K) := by
  refine F.ok scSystem (fun vs H Q E h => ?_) (fun cdv A outer s H vs Q E hr h => ?_)
  · obtain ⟨s, np, a, m, ns, rfl, _⟩ := h
    rfl
  · obtain ⟨s, np, a, most, ns, rfl, hS, hN, N, hm0, hm1, q⟩ := h
    have nd := scSystem.nd
    refine ⟨_, pss_cons (ps_par (i := 4) (j := 5) rfl nd rfl rfl (by decide) rfl rfl (pa_cons (pe_lst pa_nil) (pa_cons (pe_op op_catT (pe_tup (pa_cons pe_str pa_nil)) (pe_callTy call_tuple_of (by rfl) T.tuple PyProof.Rows.boot_tuple (pa_cons (pv 2) pa_nil))) pa_nil)) (by rfl))
      (pss_cons (ps_set (i := 6) nd rfl (.inl rfl) (pe_ix ix_tup (pe_tup (pa_cons pe_int (pa_cons pe_int (pa_cons pe_int (pa_cons pe_int (pa_cons (pe_op op_pow pe_int pe_int) pa_nil))))))
        (pe_call GD hr (by rfl) gD kD bD .nil pass0 (pa_cons (pv 0) (pa_cons (pv 1) (pa_cons pe_int pa_nil)))) (fun _ _ => rfl)))
      (pss_cons (ps_for PassesOwn.never rfl (pi_range1 (by rfl) T.range (pa_cons (pe_call GD hr (by rfl) gD kD bD .nil pass0 (pa_cons (pv 0) (pa_cons (pe_op op_add (pv 1) pe_int) (pa_cons (pe_op op_add (pv 3) pe_int) pa_nil)))) pa_nil)) (pg_name (i := 7) nd rfl (.inl rfl))
        (pss_cons (ps_set (i := 8) nd rfl (.inl rfl) (pe_op op_add (pe_op op_add (pv 1) pe_int) (pe_op op_mul pe_int (pv 7))))
        (pss_cons (ps_set (i := 9) nd rfl (.inl rfl) (pe_call GD hr (by rfl) gD kD bD .nil pass0 (pa_cons (pv 0) (pa_cons (pv 8) (pa_cons (pe_callB call_len_seq (by rfl) T.len PySem.boot_len (pa_cons (pv 5) pa_nil)) pa_nil)))))
        (pss_cons (ps_set (i := 10) nd rfl (.inl rfl) (pe_op op_modN (pe_callTy call_intI (by rfl) T.int PyProof.Rows.boot_int (pa_cons (pe_op op_add (pe_op op_add (pv 9) pe_int)
            (pe_call GD hr (by rfl) gD kD bD .nil pass0 (pa_cons (pv 0) (pa_cons (pe_op op_add (pv 8) pe_int) (pa_cons (pe_op op_sub (pe_callB call_len_seq (by rfl) T.len PySem.boot_len (pa_cons (pv 5) pa_nil)) pe_int) pa_nil))))) pa_nil))
            (pe_callB call_len_seq (by rfl) T.len PySem.boot_len (pa_cons (pv 5) pa_nil))))
        (pss_cons (ps_set (i := 11) nd rfl (.inl rfl) (pe_op op_sub (pe_call GD hr (by rfl) gD kD bD .nil pass0 (pa_cons (pv 0) (pa_cons (pe_op op_add (pv 8) pe_int) (pa_cons pe_int pa_nil)))) pe_int))
        (pss_cons (ps_if (PW.pt (pw_and (pt_cmpR op_gt (pv 6) pe_int (nomark _)) (pw_and1 (pt_cmpR op_eq (pe_call GD hr (by rfl) gD kD bD .nil pass0 (pa_cons (pv 0) (pa_cons (pe_op op_add (pv 8) pe_int) (pa_cons pe_int pa_nil)))) pe_int (nomark _)))))
          (pss_one (ps_set (i := 11) nd rfl (.inl rfl) (pe_op op_add (pe_op op_mul (pe_op op_sub (pv 11) pe_int) (pv 6)) (pv 11)))) pss_nil)
        (pss_one (ps_expr (pe_bm PySem.F.plainAttrs_list PySem.F.slot_list_append PySem.F.type_list_append mt_append (pv 4)
          (pa_cons (pe_tup (pa_cons (pe_ix ix_tup (pv 5) (pv 9) (fun _ _ => rfl)) (pa_cons (pe_ix ix_tup (pv 5) (pv 10) (fun _ _ => rfl)) (pa_cons (pv 11) pa_nil)))) pa_nil))))))))))
      (pss_one (ps_ret (pv 4))))), ?_⟩
    refine ⟨Nat.zero_le _, fun o no => ⟨by show 1 ≤ sizeLine; decide, fun z nz => ?_⟩⟩
    have sA := same_upd (o := HO.lst []) no
    have sB := same_upd (o := HO.tup [V.str "0"]) nz
    have s2 := sA.trans sB
    have nsne : ns.map V.str ≠ [] := fun e => by
      have := N.two
      cases ns with
      | nil => exact absurd this (by decide)
      | cons x r => exact nomatch e
    refine ⟨.ref np, rfl, np, _, rfl, .inr ⟨SqT.of (s2 _ _ hN), z, np, _, _, rfl, rfl, SqT.of upd_same, SqT.of (s2 _ _ hN), List.cons_ne_nil _ _, ?_, fun e => absurd e nsne, fun _ en nen => ?_⟩⟩
    · rw [List.length_map]
      have := N.few
      exact Nat.le_of_lt (small1000 (by show 1 + ns.length ≤ 1000; omega))
    have sC := same_upd (o := HO.tup ([V.str "0"] ++ ns.map V.str)) nen
    have s3 := s2.trans sC
    obtain ⟨end_nd, end_ok⟩ := N.ends
    have eE : [V.str "0"] ++ ns.map V.str = (("0" : Str) :: ns).map V.str := rfl
    have ho3 := sC _ _ (sB _ _ (upd_same (H := H) (a := o) (o := HO.lst [])))
    have he3 := upd_same (H := upd (upd H o (.lst [])) z (.tup [V.str "0"])) (a := en) (o := HO.tup ([V.str "0"] ++ ns.map V.str))
    generalize upd (upd (upd H o (.lst [])) z (.tup [V.str "0"])) en (.tup ([V.str "0"] ++ ns.map V.str)) = H3 at s3 ho3 he3 ⊢
    rw [eE] at he3
    -- the scale
    refine ⟨_, _, rfl, _, _, rfl, rfl, ⟨by decide, by decide, by decide⟩, by show 5 ≤ sizeLine; decide, fun sc nsc => ?_⟩
    have sD := same_upd (o := HO.tup [V.int 1, V.int 1, V.int 1, V.int 1000, V.int (10 ^ Int.toNat 15)]) nsc
    refine ⟨.ref s, rfl, .int a, rfl, s, a, 5, rfl, hS.same (s3.trans sD), by decide, fun H4 k s4 h0 h1 => ?_⟩
    have et := s4 _ _ (upd_same (H := H3) (a := sc) (o := HO.tup [V.int 1, V.int 1, V.int 1, V.int 1000, V.int (10 ^ Int.toNat 15)]))
    obtain ⟨scale, hat, hs0, hs1⟩ : ∃ scale : Int, atI [V.int 1, V.int 1, V.int 1, V.int 1000, V.int (10 ^ Int.toNat 15)] k = some (.int scale) ∧ -(2 ^ 64) < scale ∧ scale < 2 ^ 64 := by
      have hk : k = ((0 : Nat) : Int) ∨ k = ((1 : Nat) : Int) ∨ k = ((2 : Nat) : Int) ∨ k = ((3 : Nat) : Int) ∨ k = ((4 : Nat) : Int) := by omega
      rcases hk with rfl | rfl | rfl | rfl | rfl
      · exact ⟨1, atI_nat rfl, by decide, by decide⟩
      · exact ⟨1, atI_nat rfl, by decide, by decide⟩
      · exact ⟨1, atI_nat rfl, by decide, by decide⟩
      · exact ⟨1000, atI_nat rfl, by decide, by decide⟩
      · exact ⟨10 ^ Int.toNat 15, atI_nat rfl, by decide, by decide⟩
    refine ⟨sc, _, _, _, rfl, rfl, SqT.of et, hat, ?_⟩
    have s14 := (s3.trans sD).trans s4
    have ho4 := s4 _ _ (sD _ _ ho3)
    have he4 := s4 _ _ (sD _ _ he3)
    refine ⟨.ref s, rfl, .int a, rfl, _, _, rfl, rfl, .int most, rfl, _, _, rfl, rfl, s, _, _, rfl, hS.same s14, by omega, fun H5 turns s5 t0 t1 => ?_⟩
    refine ⟨_, rfl, by omega, by omega, for_range (lo := 0) (fun i σ H' => ∃ (y7 y8 y9 y10 y11 : Option V) (rows : List SRow) (qs : List Addr), σ = [some (.ref s), some (.int a), some (.ref np), some (.int most), some (.ref o), some (.ref en), some (.int scale), y7, y8, y9, y10, y11] ∧ Same H H' ∧
        H' en = some (.tup ((("0" : Str) :: ns).map V.str)) ∧ H' o = some (.lst (qs.map V.ref)) ∧ qs.length = i ∧ rows.length = i ∧ (∀ (j : Nat) (p : Addr) (r : SRow), qs[j]? = some p → rows[j]? = some r → RowT H' p r) ∧ ∀ r ∈ rows, Good1 r ∧ OkR r ∧ In2 ns r)
      ⟨none, none, none, none, none, [], [], rfl, s14.trans s5, s5 _ _ he4, s5 _ _ ho4, rfl, rfl, fun j p r e => (nomatch e), fun r h => absurd h List.not_mem_nil⟩ ?_ ?_⟩
    · rintro i σ H6 hi ⟨y7, y8, y9, y10, y11, rows, qs, rfl, s6, he6, ho6, hq, hrl, hrow, hgood⟩
      have elen : (((("0" : Str) :: ns).map V.str).length : Int) = (ns.length : Int) + 1 := by
        rw [List.length_map]
        rfl
      have l2 := N.two
      have l4 := N.few
      -- spot, one
      refine ⟨.int a, rfl, _, _, rfl, rfl, _, rfl, _, _, rfl, rfl, .inl ⟨by decide, by decide⟩, _, _, rfl, rfl, ?_⟩
      refine ⟨.ref s, rfl, _, rfl, .ref en, rfl, en, _, rfl, .inr (SqT.of he6), s, _, _, rfl, hS.same s6, by rw [elen]; omega, fun H7 one s7 o0 o1 => ?_⟩
      rw [elen] at o1
      have he7 := s7 _ _ he6
      -- other
      refine ⟨.int one, rfl, _, _, rfl, rfl, .ref s, rfl, _, rfl, _, _, rfl, rfl, .ref en, rfl, en, _, rfl, .inr (SqT.of he7), _, _, rfl, rfl, s, _, _, rfl, hS.same (s6.trans s7), by rw [elen]; omega, fun H8 d s8 d0 d1 => ?_⟩
      rw [elen] at d1
      have he8 := s8 _ _ he7
      refine ⟨_, _, rfl, rfl, _, rfl, .ref en, rfl, en, _, rfl, .inr (SqT.of he8), _, _, rfl, rfl, (by rw [elen]; omega), ?_⟩
      rw [elen]
      obtain ⟨z0, z1, z2⟩ := other_ne (o := one) (d := d) (n := (ns.length : Int) + 1) o0 o1 d0 (by omega)
      -- limit
      refine ⟨.ref s, rfl, _, rfl, _, _, rfl, rfl, s, _, 9, rfl, hS.same ((s6.trans s7).trans s8), by decide, fun H9 lim s9 l0 l1 => ?_⟩
      refine ⟨_, _, rfl, rfl, ?_⟩
      have s69 := ((s6.trans s7).trans s8).trans s9
      -- the two ends
      obtain ⟨j1, rfl, hj1⟩ : ∃ j : Nat, one = (j : Nat) ∧ j < (("0" : Str) :: ns).length := ⟨one.toNat, by omega, by rw [List.length_cons]; omega⟩
      obtain ⟨j2, ej2, hj2⟩ : ∃ j : Nat, ((j1 : Int) + 1 + d).fmod ((ns.length : Int) + 1) = (j : Nat) ∧ j < (("0" : Str) :: ns).length :=
        ⟨(((j1 : Int) + 1 + d).fmod ((ns.length : Int) + 1)).toNat, by omega, by rw [List.length_cons]; omega⟩
      rw [ej2] at z2
      dsimp only
      rw [ej2]
      have at1 : atI ((("0" : Str) :: ns).map V.str) (j1 : Nat) = some (.str (("0" : Str) :: ns)[j1]) := atI_nat (by rw [List.getElem?_map, List.getElem?_eq_getElem hj1]; rfl)
      have at2 : atI ((("0" : Str) :: ns).map V.str) (j2 : Nat) = some (.str (("0" : Str) :: ns)[j2]) := atI_nat (by rw [List.getElem?_map, List.getElem?_eq_getElem hj2]; rfl)
      have hne : (("0" : Str) :: ns)[j1] ≠ (("0" : Str) :: ns)[j2] := fun e => z2 (by rw [(List.getElem_inj end_nd).mp e])
      have g1 : ∀ c : Int, Good1 ((("0" : Str) :: ns)[j1], (("0" : Str) :: ns)[j2], c) ∧ OkR ((("0" : Str) :: ns)[j1], (("0" : Str) :: ns)[j2], c) ∧ In2 ns ((("0" : Str) :: ns)[j1], (("0" : Str) :: ns)[j2], c) := fun c => ⟨⟨hne, (end_ok _ (List.getElem_mem hj1)).1, (end_ok _ (List.getElem_mem hj2)).1⟩, ⟨(end_ok _ (List.getElem_mem hj1)).2.2.2, (end_ok _ (List.getElem_mem hj2)).2.2.2⟩, List.getElem_mem hj1, List.getElem_mem hj2⟩
      have fin : ∀ (H' : Hp) (t : Addr) (c : Int) (y : Option V), Same H6 H' → H' t = none → ∃ (y7 y8 y9 y10 y11 : Option V) (rows : List SRow) (qs' : List Addr),
          [some (V.ref s), some (.int a), some (.ref np), some (.int most), some (.ref o), some (.ref en), some (.int scale), some (.int (0 + (i : Int))), some (.int (a + 2 + 4 * (0 + (i : Int)))), some (.int (j1 : Nat)), some (.int (j2 : Nat)), y] = [some (.ref s), some (.int a), some (.ref np), some (.int most), some (.ref o), some (.ref en), some (.int scale), y7, y8, y9, y10, y11] ∧
          Same H (upd (upd H' t (.tup [.str (("0" : Str) :: ns)[j1], .str (("0" : Str) :: ns)[j2], .int c])) o (.lst (qs.map V.ref ++ [.ref t]))) ∧
          upd (upd H' t (.tup [.str (("0" : Str) :: ns)[j1], .str (("0" : Str) :: ns)[j2], .int c])) o (.lst (qs.map V.ref ++ [.ref t])) en = some (.tup ((("0" : Str) :: ns).map V.str)) ∧
          upd (upd H' t (.tup [.str (("0" : Str) :: ns)[j1], .str (("0" : Str) :: ns)[j2], .int c])) o (.lst (qs.map V.ref ++ [.ref t])) o = some (.lst (qs'.map V.ref)) ∧ qs'.length = i + 1 ∧ rows.length = i + 1 ∧
          (∀ (j : Nat) (p : Addr) (r : SRow), qs'[j]? = some p → rows[j]? = some r → RowT (upd (upd H' t (.tup [.str (("0" : Str) :: ns)[j1], .str (("0" : Str) :: ns)[j2], .int c])) o (.lst (qs.map V.ref ++ [.ref t]))) p r) ∧ ∀ r ∈ rows, Good1 r ∧ OkR r ∧ In2 ns r := by
        intro H' t c y s' nt
        have sT := same_upd (o := HO.tup [.str (("0" : Str) :: ns)[j1], .str (("0" : Str) :: ns)[j2], .int c]) nt
        have ho' := sT _ _ (s' _ _ ho6)
        have keep : ∀ (b : Addr) (xs : List V), upd H' t (.tup [.str (("0" : Str) :: ns)[j1], .str (("0" : Str) :: ns)[j2], .int c]) b = some (.tup xs) → upd (upd H' t (.tup [.str (("0" : Str) :: ns)[j1], .str (("0" : Str) :: ns)[j2], .int c])) o (.lst (qs.map V.ref ++ [.ref t])) b = some (.tup xs) := fun b xs e => by
          rw [upd_ne (ne_of e ho' (by intro z; cases z))]
          exact e
        refine ⟨_, _, _, _, _, rows ++ [((("0" : Str) :: ns)[j1], (("0" : Str) :: ns)[j2], c)], qs ++ [t], rfl, ((s6.trans s').trans sT).later no, keep _ _ (sT _ _ (s' _ _ he6)), by rw [upd_same, List.map_append]; rfl, by rw [List.length_append, hq]; rfl, by rw [List.length_append, hrl]; rfl, fun j p r hp hr' => ?_, fun r hr' => ?_⟩
        · by_cases k : j < i
          · rw [List.getElem?_append_left (by omega)] at hp hr'
            exact keep _ _ (sT _ _ (s' _ _ (hrow j p r hp hr')))
          · have hj2 : j = i := by
              have := (List.getElem?_eq_some_iff.mp hp).1
              rw [List.length_append, List.length_singleton] at this
              omega
            subst hj2
            rw [List.getElem?_append_right (by omega), hq, Nat.sub_self] at hp
            rw [List.getElem?_append_right (by omega), hrl, Nat.sub_self] at hr'
            have e1 : t = p := Option.some.inj hp
            have e2 := Option.some.inj hr'
            subst e1 e2
            exact keep _ _ upd_same
        · rcases List.mem_append.mp hr' with h | h
          · exact hgood r h
          · rw [List.mem_singleton] at h
            subst h
            exact g1 c
      have hsz : (qs.map V.ref).length < sizeLine := by
        rw [List.length_map, hq]
        exact small1000 (by omega)
      have ho9 := s9 _ _ (s8 _ _ (s7 _ _ ho6))
      have he9 := s9 _ _ he8
      have s39 := (s7.trans s8).trans s9
      refine ⟨_, rfl, _, _, rfl, rfl, _, rfl, ite2 (fun _ => ?_) (fun _ => ?_)⟩
      · refine ⟨.ref s, rfl, _, rfl, _, _, rfl, rfl, s, _, 2, rfl, hS.same s69, by decide, fun H10 k2 s10 _ _ => ?_⟩
        have ho10 := s10 _ _ ho9
        have he10 := s10 _ _ he9
        refine ⟨rfl, _, rfl, ite2 (fun _ => ?_) (fun _ => ?_)⟩
        · refine ⟨_, rfl, _, _, rfl, rfl, _, rfl, _, _, rfl, rfl, .inr ⟨hs0, hs1⟩, _, rfl, _, _, rfl, rfl, ?_⟩
          refine ⟨.ref o, rfl, .inl ⟨rfl, _, SqL.of ho10⟩, .ref en, rfl, _, rfl, en, _, _, _, rfl, rfl, SqT.of he10, at1, .ref en, rfl, _, rfl, en, _, _, _, rfl, rfl, SqT.of he10, at2, _, rfl, by show 3 ≤ sizeLine; decide, fun t nt => ?_⟩
          exact ⟨o, _, _, rfl, rfl, same_upd nt _ _ ho10, hsz, fin H10 t _ _ (s39.trans s10) nt⟩
        · refine ⟨.ref o, rfl, .inl ⟨rfl, _, SqL.of ho10⟩, .ref en, rfl, _, rfl, en, _, _, _, rfl, rfl, SqT.of he10, at1, .ref en, rfl, _, rfl, en, _, _, _, rfl, rfl, SqT.of he10, at2, _, rfl, by show 3 ≤ sizeLine; decide, fun t nt => ?_⟩
          exact ⟨o, _, _, rfl, rfl, same_upd nt _ _ ho10, hsz, fin H10 t _ _ (s39.trans s10) nt⟩
      · refine iteF ?_
        refine ⟨.ref o, rfl, .inl ⟨rfl, _, SqL.of ho9⟩, .ref en, rfl, _, rfl, en, _, _, _, rfl, rfl, SqT.of he9, at1, .ref en, rfl, _, rfl, en, _, _, _, rfl, rfl, SqT.of he9, at2, _, rfl, by show 3 ≤ sizeLine; decide, fun t nt => ?_⟩
        exact ⟨o, _, _, rfl, rfl, same_upd nt _ _ ho9, hsz, fin H9 t _ _ s39 nt⟩
    · rintro σ H6 ⟨y7, y8, y9, y10, y11, rows, qs, rfl, s6, he6, ho6, hq, hrl, hrow, hgood⟩
      refine ⟨.ref o, rfl, q H6 o rows s6 no ⟨qs, ho6, by omega, hrow⟩ ⟨fun r h => (hgood r h).1, by omega⟩ (by omega) fun r h => (hgood r h).2⟩
end
end Lo
namespace Lo
open PySem L2
abbrev sLNames : Stmt := top 30
structure Blt2 (mg : Str → Option Value) : Prop where
  sorted : mg "sorted" = none
  set : mg "set" = none
  sum : mg "sum" = none
  dict : mg "dict" = none
/-! ### _law_names_of -/
/-- names without the number -/
def noZ (ks : List Str) : List Str := ks.filter fun x => decide (x ≠ ("0" : Str))
theorem noZ_add (ks : List Str) (x : Str) : noZ (addN ks x) = if x = ("0" : Str) then noZ ks else addN (noZ ks) x := by
  unfold addN noZ
  by_cases z : x = ("0" : Str)
  · rw [if_pos z]
    split
    · rfl
    · rw [List.filter_append, List.filter_cons, if_neg (by rw [decide_eq_true_eq]; exact fun n => n z), List.filter_nil, List.append_nil]
  · rw [if_neg z]
    by_cases m : x ∈ ks
    · rw [if_pos m, if_pos (List.mem_filter.mpr ⟨m, decide_eq_true z⟩)]
    · rw [if_neg m, if_neg (fun h => m (List.mem_filter.mp h).1), List.filter_append, List.filter_cons, if_pos (decide_eq_true z), List.filter_nil]
theorem inV_strs (x : Str) : ∀ zs : List Str, inV (.str x) (zs.map V.str) = decide (x ∈ zs)
  | [] => by simp [inV]
  | z :: zs => by
    have ih := inV_strs x zs
    unfold inV at ih ⊢
    rw [List.map_cons, List.any_cons, ih]
    show ((z == x) || decide (x ∈ zs)) = decide (x ∈ z :: zs)
    by_cases e : z = x
    · subst e
      simp
    · have e' : ¬ x = z := fun q => e q.symm
      simp [e, e']
theorem flat_all (zs : List Str) : (zs.map V.str).all flatV = true := by
  rw [List.all_eq_true]
  intro v hv
  obtain ⟨z, _, rfl⟩ := List.mem_map.mp hv
  rfl
theorem ne_dec (x y : Str) : (!decide (V.str x = V.str y)) = decide (x ≠ y) := by
  by_cases e : x = y
  · subst e
    simp
  · rw [decide_eq_false fun q => e (V.str.inj q), decide_eq_true e]
    rfl
section
variable {P : Program} {w : World} {K : PySem.W.Frag} {mg : Str → Option Value} {base : Heap}
def spLNames : Sp := fun vs H Q _ => ∃ (a : Addr) (rows : List SRow), vs = [.ref a] ∧ Sys RowT H a rows ∧ Good rows ∧
  ∀ H' q (ks : List Str), Same H H' → H' q = some (.lst (ks.map V.str)) → ks.Nodup → ks.length ≤ 2 * rows.length → (∀ x, x ∈ ks ↔ x ≠ "0" ∧ Named rows x) → Q (.ref q) H'
abbrev nLNames : List Str := ["system", "found", "left", "right", "limit", "name"]
theorem scLNames : FnScope nLNames ["system"] (defScope sLNames) := ⟨rfl, rfl, rfl, by decide +kernel, rfl, by decide +kernel, by decide +kernel⟩
theorem ok_lnames {f : Addr} {fd : FuncData} (F : Fun K "_law_names_of" "_law_names_of" sLNames f fd) : FnOk P w K mg base CX0 1 f fd ["system"] spLNames := by
  refine F.ok scLNames (fun vs H Q E h => ?_) (fun cdv A outer s H vs Q E hr h => ?_)
  · obtain ⟨a, rows, rfl, _⟩ := h
    rfl
  · obtain ⟨a, rows, rfl, ⟨ps, hA, hl, hat⟩, g, q⟩ := h
    have nd := scLNames.nd
    have few := g.few
    refine ⟨_, pss_cons (ps_set (i := 1) nd rfl (.inl rfl) (pe_lst pa_nil))
      (pss_cons (ps_for PassesOwn.never rfl (pi_list (pv 0)) (pg_tup rfl (pgs_cons (pg_name (i := 2) nd rfl (.inl rfl)) (pgs_cons (pg_name (i := 3) nd rfl (.inl rfl)) (pgs_cons (pg_name (i := 4) nd rfl (.inl rfl)) pgs_nil))))
        (pss_one (ps_for PassesOwn.never rfl (pi_tup (pe_tup (pa_cons (pv 2) (pa_cons (pv 3) pa_nil)))) (pg_name (i := 5) nd rfl (.inl rfl))
          (pss_one (ps_if (PW.pt (pw_and (pt_cmpR op_ne (pv 5) pe_str (nomark _)) (pw_and1 (pt_cmpR op_notIn_seq (pv 5) (pv 1) (by rfl)))))
            (pss_one (ps_expr (pe_bm PySem.F.plainAttrs_list PySem.F.slot_list_append PySem.F.type_list_append mt_append (pv 1) (pa_cons (pv 5) pa_nil)))) pss_nil)))))
      (pss_one (ps_ret (pv 1)))), ?_⟩
    refine ⟨Nat.zero_le _, fun o no => ?_⟩
    have s1 := same_upd (o := HO.lst []) no
    refine ⟨.ref a, rfl, a, rfl, ⟨_, SqL.of (s1 _ _ hA)⟩, for_list (K := K) (a := a) (xs := ps.map V.ref) (fun i σ H' => ∃ (y2 y3 y4 y5 : Option V), σ = [some (.ref a), some (.ref o), y2, y3, y4, y5] ∧ Same H H' ∧ H' o = some (.lst ((noZ (namesTo rows i)).map V.str)))
      ⟨_, _, _, _, rfl, s1, upd_same⟩ (fun i σ H' _ ⟨_, _, _, _, _, sm, _⟩ => SqL.of (sm _ _ hA)) ?_ ?_⟩
    · rintro i x σ H1 hi ⟨y2, y3, y4, y5, rfl, sm, ho⟩
      obtain ⟨p, ⟨x, y, c⟩, rfl, hp, hrr, hmem, hlt, hR⟩ := Sys.at hl hat hi
      refine ⟨p, _, rfl, SqT.of (hR.same sm), rfl, _, _, rfl, _, _, rfl, _, _, rfl, rfl, ?_⟩
      refine ⟨.str x, rfl, .str y, rfl, by show 2 ≤ sizeLine; decide, fun t nt => ?_⟩
      have sT := same_upd (o := HO.tup [V.str x, V.str y]) nt
      refine ⟨t, rfl, ⟨_, SqT.of upd_same⟩, for_tup (K := K) (a := t) (xs := [V.str x, V.str y]) (fun j σ' H' => ∃ (y5 : Option V) (ks : List Str), σ' = [some (.ref a), some (.ref o), some (.str x), some (.str y), some (.int c), y5] ∧ Same H H' ∧ H' t = some (.tup [V.str x, V.str y]) ∧
          H' o = some (.lst ((noZ ks).map V.str)) ∧ (j = 0 → ks = namesTo rows i) ∧ (j = 1 → ks = addN (namesTo rows i) x) ∧ (j = 2 → ks = namesTo rows (i + 1)) ∧ ks.length ≤ 2 * i + j)
        ⟨_, namesTo rows i, rfl, sm.trans sT, upd_same, sT _ _ ho, fun _ => rfl, fun h => (nomatch h), fun h => (nomatch h), namesTo_len rows i⟩ (fun j σ' H' _ ⟨_, _, _, _, ht, _⟩ => SqT.of ht) ?_ ?_⟩
      · rintro j v σ' H2 hj ⟨y5, ks, rfl, s2, ht, ho2, e0, e1, e2, hlen⟩
        obtain ⟨z, rfl, n0, n1, n2⟩ : ∃ z : Str, v = .str z ∧ (j + 1 = 0 → addN ks z = namesTo rows i) ∧ (j + 1 = 1 → addN ks z = addN (namesTo rows i) x) ∧ (j + 1 = 2 → addN ks z = namesTo rows (i + 1)) := by
          match j, hj with
          | 0, hj => exact ⟨x, (Option.some.inj hj).symm, fun h => (nomatch h), fun _ => by rw [e0 rfl], fun h => (nomatch h)⟩
          | 1, hj => exact ⟨y, (Option.some.inj hj).symm, fun h => (nomatch h), fun h => (nomatch h), fun _ => by rw [e1 rfl, namesTo_succ hrr]⟩
        have hlen' : (addN ks z).length ≤ 2 * i + (j + 1) := by
          have := length_addN (l := ks) (x := z)
          omega
        have hj2 : j < 2 := (List.getElem?_eq_some_iff.mp hj).1
        refine ⟨_, rfl, rfl, _, rfl, ?_⟩
        rw [ne_dec]
        refine ite2 (fun e => ?_) (fun e => ?_)
        · have hz : z ≠ ("0" : Str) := of_decide_eq_true e
          refine ⟨_, rfl, _, rfl, o, _, rfl, .inl (SqL.of ho2), rfl, flat_all _, _, rfl, ?_⟩
          rw [inV_strs]
          by_cases m : z ∈ noZ ks
          · rw [decide_eq_true m]
            have ea : noZ (addN ks z) = noZ ks := by
              rw [noZ_add, if_neg hz]
              exact if_pos m
            exact iteF ⟨_, addN ks z, rfl, s2, ht, by rw [ea]; exact ho2, n0, n1, n2, hlen'⟩
          · rw [decide_eq_false m]
            have ea : noZ (addN ks z) = noZ ks ++ [z] := by
              rw [noZ_add, if_neg hz]
              exact if_neg m
            have hsz : ((noZ ks).map V.str).length < sizeLine := by
              rw [List.length_map]
              have := List.length_filter_le (fun x => decide (x ≠ ("0" : Str))) ks
              exact small1000 (by unfold noZ; omega)
            refine iteT ⟨.ref o, rfl, .inl ⟨rfl, _, SqL.of ho2⟩, _, rfl, o, _, _, rfl, rfl, ho2, hsz, ?_⟩
            have nto : t ≠ o := ne_of ht ho2 (by intro q; cases q)
            exact ⟨_, addN ks z, rfl, s2.later no, by rw [upd_ne nto]; exact ht, by rw [upd_same, ea, List.map_append]; rfl, n0, n1, n2, hlen'⟩
        · have hz : z = ("0" : Str) := Classical.byContradiction fun n => e (decide_eq_true n)
          have ea : noZ (addN ks z) = noZ ks := by rw [noZ_add, if_pos hz]
          refine iteF ⟨_, addN ks z, rfl, s2, ht, by rw [ea]; exact ho2, n0, n1, n2, hlen'⟩
      · rintro σ' H2 ⟨y5, ks, rfl, s2, ht, ho2, e0, e1, e2, hlen⟩
        have ek : ks = namesTo rows (i + 1) := e2 rfl
        exact ⟨_, _, _, _, rfl, s2, by rw [← ek]; exact ho2⟩
    · rintro σ H1 ⟨y2, y3, y4, y5, rfl, sm, ho⟩
      rw [List.length_map, hl] at ho
      refine ⟨.ref o, rfl, q H1 o (noZ (namesTo rows rows.length)) sm ho ((namesTo_nd rows _).filter _) (Nat.le_trans (List.length_filter_le _ _) (namesTo_len rows _)) fun x => ?_⟩
      unfold noZ
      rw [List.mem_filter, namesTo_all, decide_eq_true_eq]
      exact And.comm
end
end Lo
namespace Lo
open PySem L2
abbrev sTightened : Stmt := top 10
abbrev sWithRows : Stmt := top 11
abbrev sLowered : Stmt := top 12
abbrev sTableOf : Stmt := top 13
/-! ### _lowered -/
/-- keys and values as one function -/
def opt (ks : List Str) (f : Str → Int) (y : Str) : Option Int := if y ∈ ks then some (f y) else none
theorem opt_in {ks : List Str} {f : Str → Int} {y : Str} (h : y ∈ ks) : opt ks f y = some (f y) := if_pos h
theorem opt_out {ks : List Str} {f : Str → Int} {y : Str} (h : y ∉ ks) : opt ks f y = none := if_neg h
theorem opt_some {ks : List Str} {f : Str → Int} {y : Str} {k : Int} (h : opt ks f y = some k) : y ∈ ks ∧ f y = k := by
  by_cases m : y ∈ ks
  · rw [opt_in m] at h
    exact ⟨m, Option.some.inj h⟩
  · rw [opt_out m] at h
    cases h
/-- one entry is lowered -/
def lowS (base : Int) (kf : List Str × (Str → Int)) (q : Str × Int) : List Str × (Str → Int) :=
  if q.1 ∉ kf.1 ∨ base + q.2 < kf.2 q.1 then (addN kf.1 q.1, put kf.2 q.1 (base + q.2)) else kf
def low (base : Int) (kf : List Str × (Str → Int)) (fs : List (Str × Int)) : List Str × (Str → Int) := fs.foldl (lowS base) kf
theorem lowS_opt (base : Int) (kf : List Str × (Str → Int)) (q : Str × Int) (y : Str) : opt (lowS base kf q).1 (lowS base kf q).2 y = if y = q.1 then minO (opt kf.1 kf.2 y) (some (base + q.2)) else opt kf.1 kf.2 y := by
  unfold lowS
  by_cases c : q.1 ∉ kf.1 ∨ base + q.2 < kf.2 q.1
  · rw [if_pos c]
    dsimp only
    by_cases e : y = q.1
    · rw [if_pos e, opt_in (mem_addN.mpr (.inr e)), e, put_at]
      by_cases m : q.1 ∈ kf.1
      · rw [opt_in m]
        have := c.resolve_left fun z => z m
        show _ = some (if base + q.2 < kf.2 q.1 then base + q.2 else kf.2 q.1)
        rw [if_pos this]
      · rw [opt_out m]
        rfl
    · rw [if_neg e]
      by_cases m : y ∈ kf.1
      · rw [opt_in (mem_addN.mpr (.inl m)), opt_in m, put_off e]
      · rw [opt_out (fun z => (mem_addN.mp z).elim m e), opt_out m]
  · rw [if_neg c]
    by_cases e : y = q.1
    · rw [if_pos e]
      have m : q.1 ∈ kf.1 := Classical.byContradiction fun z => c (.inl z)
      have l : ¬ base + q.2 < kf.2 q.1 := fun z => c (.inr z)
      rw [e, opt_in m]
      show _ = some (if base + q.2 < kf.2 q.1 then base + q.2 else kf.2 q.1)
      rw [if_neg l]
    · rw [if_neg e]
theorem lowS_nd {base : Int} {kf : List Str × (Str → Int)} {q : Str × Int} (h : kf.1.Nodup) : (lowS base kf q).1.Nodup := by
  unfold lowS
  split
  · exact nodup_addN h
  · exact h
theorem low_nd {base : Int} : ∀ (fs : List (Str × Int)) (kf : List Str × (Str → Int)), kf.1.Nodup → (low base kf fs).1.Nodup
  | [], kf, h => h
  | q :: fs, kf, h => low_nd fs _ (lowS_nd h)
theorem low_len {base : Int} : ∀ (fs : List (Str × Int)) (kf : List Str × (Str → Int)), (low base kf fs).1.length ≤ kf.1.length + fs.length
  | [], kf => Nat.le_refl _
  | q :: fs, kf => by
    have ih := low_len (base := base) fs (lowS base kf q)
    have : (lowS base kf q).1.length ≤ kf.1.length + 1 := by
      unfold lowS
      split
      · exact length_addN
      · omega
    rw [List.length_cons]
    show (low base (lowS base kf q) fs).1.length ≤ _
    omega
theorem low_opt {base : Int} : ∀ (fs : List (Str × Int)) (kf : List Str × (Str → Int)), (fs.map (·.1)).Nodup → ∀ y,
    (∀ m, (y, m) ∈ fs → opt (low base kf fs).1 (low base kf fs).2 y = minO (opt kf.1 kf.2 y) (some (base + m))) ∧ (y ∉ fs.map (·.1) → opt (low base kf fs).1 (low base kf fs).2 y = opt kf.1 kf.2 y)
  | [], kf, _, y => ⟨fun m h => absurd h List.not_mem_nil, fun _ => rfl⟩
  | q :: fs, kf, h, y => by
    rw [List.map_cons] at h
    obtain ⟨h1, h2⟩ := List.nodup_cons.mp h
    obtain ⟨i1, i2⟩ := low_opt (base := base) fs (lowS base kf q) h2 y
    refine ⟨fun m hm => ?_, fun hn => ?_⟩
    · rcases List.mem_cons.mp hm with e | e
      · have e1 : q.1 = y := by rw [← e]
        have e2 : q.2 = m := by rw [← e]
        have := i2 (e1 ▸ h1)
        show opt (low base (lowS base kf q) fs).1 (low base (lowS base kf q) fs).2 y = _
        rw [this, lowS_opt, if_pos e1.symm, e2]
      · have ny : y ≠ q.1 := fun z => h1 (z ▸ List.mem_map.mpr ⟨_, e, rfl⟩)
        have := i1 m e
        show opt (low base (lowS base kf q) fs).1 (low base (lowS base kf q) fs).2 y = _
        rw [this, lowS_opt, if_neg ny]
    · rw [List.map_cons] at hn
      have := i2 fun z => hn (List.mem_cons_of_mem _ z)
      show opt (low base (lowS base kf q) fs).1 (low base (lowS base kf q) fs).2 y = _
      rw [this, lowS_opt, if_neg (fun z : y = q.1 => hn (z ▸ List.mem_cons_self))]
theorem low_snoc (base : Int) (kf : List Str × (Str → Int)) (fs : List (Str × Int)) (q : Str × Int) : low base kf (fs ++ [q]) = lowS base (low base kf fs) q := by
  unfold low
  rw [List.foldl_append]
  rfl
/-- pairs of a name and a number, in a list -/
def Prs (H : Hp) (l : Addr) (fs : List (Str × Int)) : Prop := ∃ qs : List Addr, H l = some (.lst (qs.map V.ref)) ∧ qs.length = fs.length ∧ ∀ (i : Nat) (q : Addr) (r : Str × Int), qs[i]? = some q → fs[i]? = some r → H q = some (.tup [.str r.1, .int r.2])
theorem Prs.same {H H' : Hp} {l : Addr} {fs : List (Str × Int)} (s : Same H H') (h : Prs H l fs) : Prs H' l fs := by
  obtain ⟨qs, h1, h2, h3⟩ := h
  exact ⟨qs, s _ _ h1, h2, fun i q r hq hr => s _ _ (h3 i q r hq hr)⟩
section
variable {P : Program} {w : World} {K : PySem.W.Frag} {mg : Str → Option Value} {base : Heap}
def spLowered : Sp := fun vs H Q _ => ∃ (r l : Addr) (b : Int) (ks : List Str) (f : Str → Int) (fs : List (Str × Int)), vs = [.ref r, .int b, .ref l] ∧ H r = some (.dK (dS ks fun x => .int (f x))) ∧ Prs H l fs ∧ ks.length ≤ 300 ∧ fs.length ≤ 300 ∧
  ∀ H' d, Same H H' → H d = none → H' d = some (.dK (dS (low b (ks, f) fs).1 fun x => .int ((low b (ks, f) fs).2 x))) → Q (.ref d) H'
abbrev nLowered : List Str := ["row", "base", "further", "found", "name", "more"]
theorem scLowered : FnScope nLowered ["row", "base", "further"] (defScope sLowered) := ⟨rfl, rfl, rfl, by decide +kernel, rfl, by decide +kernel, by decide +kernel⟩
theorem ok_lowered {f : Addr} {fd : FuncData} (F : Fun K "_lowered" "_lowered" sLowered f fd) (U : Blt2 mg) : FnOk P w K mg base CX0 1 f fd ["row", "base", "further"] spLowered := by
  refine F.ok scLowered (fun vs H Q E h => ?_) (fun cdv A outer s H vs Q E hr h => ?_)
  · obtain ⟨r, l, b, ks, f, fs, rfl, _⟩ := h
    rfl
  · obtain ⟨r, l, b, ks, f, fs, rfl, hr0, ⟨qs, hl, hql, hqs⟩, k3, f3, q⟩ := h
    have nd := scLowered.nd
    have hu := hu_of hr
    refine ⟨_, pss_cons (ps_set (i := 3) nd rfl (.inl rfl) (pe_callTy call_dictD (by rfl) U.dict PyProof.Rows.boot_dict (pa_cons (pv 0) pa_nil)))
      (pss_cons (ps_for PassesOwn.never rfl (pi_list (pv 2)) (pg_tup rfl (pgs_cons (pg_name (i := 4) nd rfl (.inl rfl)) (pgs_cons (pg_name (i := 5) nd rfl (.inl rfl)) pgs_nil)))
        (pss_one (ps_if (PW.pt (pw_or (pt_cmp (pc_dnotin hu (pv 4) (pv 3))) (pw_or1 (pt_cmpR op_lt (pe_op op_add (pv 1) (pv 5)) (pe_dget hu (pv 3) (pv 4) (fun _ _ => rfl)) (nomark _)))))
          (pss_one (ps_dput hu (pv 3) (pv 4) (pe_op op_add (pv 1) (pv 5)) rfl)) pss_nil)))
      (pss_one (ps_ret (pv 3)))), ?_⟩
    refine ⟨.ref r, rfl, r, _, rfl, Rd.of hr0, fun d nd' => ?_⟩
    have s1 := same_upd (o := HO.dK (dS ks fun x => .int (f x))) nd'
    refine ⟨.ref l, rfl, l, rfl, ⟨_, SqL.of (s1 _ _ hl)⟩, for_list (K := K) (a := l) (xs := qs.map V.ref) (fun i σ H' => ∃ (y4 y5 : Option V), σ = [some (.ref r), some (.int b), some (.ref l), some (.ref d), y4, y5] ∧ Same H H' ∧ H' d = some (.dK (dS (low b (ks, f) (fs.take i)).1 fun x => .int ((low b (ks, f) (fs.take i)).2 x))))
      ⟨none, none, rfl, s1, upd_same⟩ (fun i σ H' _ ⟨_, _, _, e, _⟩ => SqL.of (e _ _ hl)) ?_ ?_⟩
    · rintro i x σ H1 hi ⟨y4, y5, rfl, s2, hd⟩
      have hi1 : i < qs.length := by
        have := (List.getElem?_eq_some_iff.mp hi).1
        rw [List.length_map] at this
        exact this
      obtain rfl : x = .ref qs[i] := by
        rw [List.getElem?_map, List.getElem?_eq_getElem hi1] at hi
        exact (Option.some.inj hi).symm
      have hi2 : i < fs.length := hql ▸ hi1
      have hq := s2 _ _ (hqs i _ _ (List.getElem?_eq_getElem hi1) (List.getElem?_eq_getElem hi2))
      have etake : fs.take (i + 1) = fs.take i ++ [fs[i]] := by rw [List.take_add_one, List.getElem?_eq_getElem hi2]; rfl
      generalize hkf : low b (ks, f) (fs.take i) = kf at hd
      have hlen : kf.1.length ≤ 600 := by
        have := low_len (base := b) (fs.take i) (ks, f)
        rw [hkf, List.length_take] at this
        simp only at this
        omega
      obtain ⟨y, m, hym⟩ : ∃ y m, fs[i] = (y, m) := ⟨_, _, rfl⟩
      rw [hym] at hq etake
      refine ⟨qs[i], _, rfl, SqT.of hq, rfl, _, _, rfl, _, _, rfl, rfl, ?_⟩
      have fin : ∀ (z4 z5 : Option V), (y ∉ kf.1 ∨ b + m < kf.2 y) → ∃ (y4 y5 : Option V), [some (V.ref r), some (.int b), some (.ref l), some (.ref d), z4, z5] = [some (V.ref r), some (.int b), some (.ref l), some (.ref d), y4, y5] ∧ Same H (upd H1 d (.dK (dS (addN kf.1 y) (put (fun x => V.int (kf.2 x)) y (.int (b + m)))))) ∧
          upd H1 d (.dK (dS (addN kf.1 y) (put (fun x => V.int (kf.2 x)) y (.int (b + m))))) d = some (.dK (dS (low b (ks, f) (fs.take i ++ [(y, m)])).1 fun x => .int ((low b (ks, f) (fs.take i ++ [(y, m)])).2 x))) := fun z4 z5 c => by
        refine ⟨z4, z5, rfl, s2.later nd', ?_⟩
        have : lowS b kf (y, m) = (addN kf.1 y, put kf.2 y (b + m)) := if_pos c
        rw [upd_same, low_snoc, hkf, this, put_map (fun n : Int => V.int n)]
      rw [etake]
      by_cases hy : y ∈ kf.1
      · refine ⟨.str y, rfl, .ref d, rfl, d, _, rfl, dget hd hy, _, rfl, iteF ?_⟩
        refine ⟨.int b, rfl, .int m, rfl, _, _, rfl, rfl, .ref d, rfl, .str y, rfl, d, _, rfl, dget hd hy, _, _, rfl, rfl, _, rfl, ite2 (fun e => ?_) (fun e => ?_)⟩
        · have hlt := of_decide_eq_true e
          exact ⟨.int b, rfl, .int m, rfl, _, _, rfl, rfl, .ref d, rfl, .str y, rfl, d, _, rfl, dput y (.int (b + m)) hd (by omega), fin _ _ (.inr hlt)⟩
        · have hge : ¬ b + m < kf.2 y := fun z => e (decide_eq_true z)
          refine ⟨_, _, rfl, s2, ?_⟩
          have : lowS b kf (y, m) = kf := if_neg fun c => c.elim (fun z => z hy) hge
          rw [low_snoc, hkf, this]
          exact hd
      · refine ⟨.str y, rfl, .ref d, rfl, d, _, rfl, dget0 hd hy, _, rfl, iteT (iteT ?_)⟩
        exact ⟨.int b, rfl, .int m, rfl, _, _, rfl, rfl, .ref d, rfl, .str y, rfl, d, _, rfl, dput y (.int (b + m)) hd (by omega), fin _ _ (.inl hy)⟩
    · rintro σ H1 ⟨y4, y5, rfl, s2, hd⟩
      rw [List.length_map, hql, List.take_length] at hd
      exact ⟨.ref d, rfl, q H1 d s2 nd' hd⟩
end
end Lo
namespace Lo
open PySem L2
/-- a table of rows of numbers, each row a dict of its own -/
structure TabG (H : Hp) (d : Addr) (ns : List Str) (ra : Str → Addr) (rk : Str → List Str) (rv : Str → Str → Int) : Prop where
  dict : H d = some (.dK (dS ns fun x => .ref (ra x)))
  nd : ns.Nodup
  row : ∀ x ∈ ns, H (ra x) = some (.dK (dS (rk x) fun y => .int (rv x y)))
  off : ∀ x ∈ ns, ra x ≠ d
  rnd : ∀ x ∈ ns, (rk x).Nodup
def Tells (ns : List Str) (rk : Str → List Str) (rv : Str → Str → Int) (G : Str → Str → Option Int) : Prop := ∀ x ∈ ns, ∀ y, opt (rk x) (rv x) y = G x y
theorem TabG.same {H H' : Hp} {d : Addr} {ns : List Str} {ra : Str → Addr} {rk : Str → List Str} {rv : Str → Str → Int} (s : Same H H') (T : TabG H d ns ra rk rv) : TabG H' d ns ra rk rv :=
  ⟨s _ _ T.dict, T.nd, fun x hx => s _ _ (T.row x hx), T.off, T.rnd⟩
theorem TabG.put {H : Hp} {d : Addr} {ns : List Str} {ra : Str → Addr} {rk : Str → List Str} {rv : Str → Str → Int} (T : TabG H d ns ra rk rv) {x : Str} {z : Addr} {ks : List Str} {f : Str → Int} (hz : H z = some (.dK (dS ks fun y => .int (f y)))) (nz : z ≠ d) (hk : ks.Nodup) :
    TabG (upd H d (.dK (dS (addN ns x) (put (fun x => V.ref (ra x)) x (.ref z))))) d (addN ns x) (put ra x z) (put rk x ks) (put rv x f) := by
  refine ⟨by rw [upd_same, put_map (fun n : Addr => V.ref n)], nodup_addN T.nd, fun w hw => ?_, fun w hw => ?_, fun w hw => ?_⟩
  · by_cases e : w = x
    · rw [e, put_at, put_at, put_at, upd_ne nz]
      exact hz
    · have m := (mem_addN.mp hw).resolve_right e
      rw [put_off e, put_off e, put_off e, upd_ne (T.off w m)]
      exact T.row w m
  · by_cases e : w = x
    · rw [e, put_at]
      exact nz
    · rw [put_off e]
      exact T.off w ((mem_addN.mp hw).resolve_right e)
  · by_cases e : w = x
    · rw [e, put_at]
      exact hk
    · rw [put_off e]
      exact T.rnd w ((mem_addN.mp hw).resolve_right e)
theorem Tells.put {ns : List Str} {rk : Str → List Str} {rv : Str → Str → Int} {G : Str → Str → Option Int} (T : Tells ns rk rv G) {x : Str} {ks : List Str} {f : Str → Int} (h : ∀ y, opt ks f y = G x y) : Tells (addN ns x) (Lo.put rk x ks) (Lo.put rv x f) G := fun w hw y => by
  by_cases e : w = x
  · rw [e, put_at, put_at]
    exact h y
  · rw [put_off e, put_off e]
    exact T w ((mem_addN.mp hw).resolve_right e) y
/-- a side that is reached is the first or has a row -/
theorem d_named {rows : List SRow} {v : Str → Int} (hv : Sat rows v) {x y : Str} {k : Int} (h : D rows x y = some k) : y = x ∨ Named rows y := by
  refine Classical.byContradiction fun n => ?_
  have nx : y ≠ x := fun e => n (.inl e)
  have ny : ¬ Named rows y := fun e => n (.inr e)
  have B := closed_best (rows := rows) (a := x) (f := fun z => if z = y then none else D rows x z) (by show (if x = y then none else D rows x x) = some 0; rw [if_neg (fun e => nx e.symm), d_self hv]) (fun z k e => by
    by_cases q : z = y
    · simp only [if_pos q] at e
      cases e
    · simp only [if_neg q] at e
      exact d_told hv e) (fun r hr k e => by
    have q1 : r.1 ≠ y := fun e => ny ⟨r, hr, .inl e.symm⟩
    have q2 : r.2.1 ≠ y := fun e => ny ⟨r, hr, .inr e.symm⟩
    simp only [if_neg q1] at e
    simp only [if_neg q2]
    obtain ⟨c, ec, lc⟩ := d_row hv (show (r.1, r.2.1, r.2.2) ∈ rows from hr)
    obtain ⟨z, ez, lz⟩ := d_tri hv e ec
    exact ⟨z, ez, by omega⟩) hv y
  have := d_of hv B
  rw [h, if_pos rfl] at this
  cases this
theorem keys_few {rows : List SRow} {v : Str → Int} (hv : Sat rows v) {ns : List Str} {rk : Str → List Str} {rv : Str → Str → Int} (T : Tells ns rk rv (D rows)) (hn : ∀ x, Named rows x → x ∈ ns) {x : Str} (hx : x ∈ ns) (hd : (rk x).Nodup) : (rk x).length ≤ ns.length := by
  refine nodup_le _ _ hd fun y hy => ?_
  have := T x hx y
  rw [opt_in hy] at this
  rcases d_named hv this.symm with e | e
  · exact e ▸ hx
  · exact hn y e
section
variable {P : Program} {w : World} {K : PySem.W.Frag} {mg : Str → Option Value} {base : Heap}
/-! ### _with_rows -/
def spWithRows : Sp := fun vs H Q _ => ∃ (t : Addr) (l r : Str) (rows : List SRow) (v : Str → Int) (ns : List Str) (ra : Str → Addr) (rk : Str → List Str) (rv : Str → Str → Int), vs = [.ref t, .str l, .str r] ∧ TabG H t ns ra rk rv ∧ Tells ns rk rv (D rows) ∧ Sat rows v ∧ l ≠ r ∧ ns.length ≤ 250 ∧ (∀ x, Named rows x → x ∈ ns) ∧
  ∀ H' d ns' ra' rk' rv', Same H H' → H d = none → TabG H' d ns' ra' rk' rv' → Tells ns' rk' rv' (D rows) → (∀ x ∈ ns, x ∈ ns') → l ∈ ns' → r ∈ ns' → (∀ x ∈ ns', x ∈ ns ∨ x = l ∨ x = r) → Q (.ref d) H'
abbrev nWithRows : List Str := ["table", "left", "right", "found", "name"]
theorem scWithRows : FnScope nWithRows ["table", "left", "right"] (defScope sWithRows) := ⟨rfl, rfl, rfl, by decide +kernel, rfl, by decide +kernel, by decide +kernel⟩
theorem ok_withrows {f : Addr} {fd : FuncData} (F : Fun K "_with_rows" "_with_rows" sWithRows f fd) (U : Blt2 mg) : FnOk P w K mg base CX0 1 f fd ["table", "left", "right"] spWithRows := by
  refine F.ok scWithRows (fun vs H Q E h => ?_) (fun cdv A outer s H vs Q E hr h => ?_)
  · obtain ⟨t, l, r, rows, v, ns, ra, rk, rv, rfl, _⟩ := h
    rfl
  · obtain ⟨t, l, r, rows, v, ns, ra, rk, rv, rfl, TG, Te, hv, nlr, few, hn, q⟩ := h
    have nd := scWithRows.nd
    have hu := hu_of hr
    refine ⟨_, pss_cons (ps_set (i := 3) nd rfl (.inl rfl) (pe_callTy call_dictD (by rfl) U.dict PyProof.Rows.boot_dict (pa_cons (pv 0) pa_nil)))
      (pss_cons (ps_for PassesOwn.never rfl (pi_tup (pe_tup (pa_cons (pv 1) (pa_cons (pv 2) pa_nil)))) (pg_name (i := 4) nd rfl (.inl rfl))
        (pss_one (ps_if (pt_cmp (pc_dnotin hu (pv 4) (pv 0))) (pss_one (ps_dput hu (pv 3) (pv 4) (pe_disp (pps_cons (pv 4) pe_int pps_nil) rfl rfl (fun z => nomatch z) (by decide)) rfl)) pss_nil)))
      (pss_one (ps_ret (pv 3)))), ?_⟩
    refine ⟨.ref t, rfl, t, _, rfl, Rd.of TG.dict, fun d nd' => ?_⟩
    have s1 := same_upd (o := HO.dK (dS ns fun x => V.ref (ra x))) nd'
    have T1 : TabG (upd H d (.dK (dS ns fun x => .ref (ra x)))) d ns ra rk rv := ⟨upd_same, TG.nd, fun x hx => s1 _ _ (TG.row x hx), fun x hx e => (by
      have z := TG.row x hx
      rw [e, nd'] at z
      exact nomatch z), TG.rnd⟩
    refine ⟨.str l, rfl, .str r, rfl, by show 2 ≤ sizeLine; decide, fun tp ntp => ?_⟩
    have s2 := same_upd (o := HO.tup [V.str l, V.str r]) ntp
    refine ⟨tp, rfl, ⟨_, SqT.of upd_same⟩, for_tup (K := K) (a := tp) (xs := [.str l, .str r]) (fun i σ H' => ∃ (y4 : Option V) (ns' : List Str) (ra' : Str → Addr) (rk' : Str → List Str) (rv' : Str → Str → Int), σ = [some (.ref t), some (.str l), some (.str r), some (.ref d), y4] ∧ Same H H' ∧ H' tp = some (.tup [.str l, .str r]) ∧
        TabG H' d ns' ra' rk' rv' ∧ Tells ns' rk' rv' (D rows) ∧ (∀ x ∈ ns, x ∈ ns') ∧ (1 ≤ i → l ∈ ns') ∧ (2 ≤ i → r ∈ ns') ∧ (∀ x ∈ ns', x ∈ ns ∨ x = l ∨ x = r) ∧ ns'.length ≤ ns.length + i)
      ⟨none, ns, ra, rk, rv, rfl, s1.trans s2, upd_same, T1.same s2, Te, fun x h => h, fun h => (nomatch h), fun h => (nomatch h), fun x h => .inl h, Nat.le_refl _⟩ (fun i σ H' _ ⟨_, _, _, _, _, _, _, e, _⟩ => SqT.of e) ?_ ?_⟩
    · rintro i x σ H1 hi ⟨y4, ns', ra', rk', rv', rfl, s3, htp, T3, Te3, sub, hl, hr', only, len⟩
      obtain ⟨z, rfl, zl, zr, zo⟩ : ∃ z : Str, x = .str z ∧ (i = 0 → z = l) ∧ (i = 1 → z = r) ∧ (z = l ∨ z = r) := by
        match i, hi with
        | 0, hi => exact ⟨l, (Option.some.inj hi).symm, fun _ => rfl, fun e => (nomatch e), .inl rfl⟩
        | 1, hi => exact ⟨r, (Option.some.inj hi).symm, fun e => (nomatch e), fun _ => rfl, .inr rfl⟩
      have hi2 : i < 2 := (List.getElem?_eq_some_iff.mp hi).1
      have ht3 := s3 _ _ TG.dict
      have fin1 : ∀ {ns2 : List Str}, (∀ x ∈ ns', x ∈ ns2) → z ∈ ns2 → (1 ≤ i + 1 → l ∈ ns2) ∧ (2 ≤ i + 1 → r ∈ ns2) := fun {ns2} h hz => by
        refine ⟨fun _ => ?_, fun k => ?_⟩
        · by_cases e : i = 0
          · exact zl e ▸ hz
          · exact h l (hl (by omega))
        · exact zr (by omega) ▸ hz
      by_cases m : z ∈ ns
      · refine ⟨.str z, rfl, .ref t, rfl, t, _, rfl, dget ht3 m, _, rfl, iteF ?_⟩
        obtain ⟨f1, f2⟩ := fin1 (fun x h => h) (sub z m)
        exact ⟨_, ns', ra', rk', rv', rfl, s3, htp, T3, Te3, sub, f1, f2, only, by omega⟩
      · refine ⟨.str z, rfl, .ref t, rfl, t, _, rfl, dget0 ht3 m, _, rfl, iteT ?_⟩
        intro n0 nn0
        have s4 := same_upd (o := HO.dK []) nn0
        have em : mergeK [] [((Sum.inr z : Key), V.int 0)] = dS [z] fun _ => .int 0 := by
          show putK (dS [] fun _ => V.int 0) (Sum.inr z) (.int 0) = _
          rw [dS_put]
          have e : put (fun _ : Str => V.int 0) z (.int 0) = fun _ => V.int 0 := by
            funext q
            unfold put
            split <;> rfl
          rw [e]
          rfl
        refine ⟨.str z, rfl, upd_same, [((Sum.inr z : Key), V.int 0)], rfl, by show 1 ≤ 15; decide, ?_⟩
        rw [em, upd_upd]
        have s5 : Same H1 (upd H1 n0 (.dK (dS [z] fun _ => .int 0))) := same_upd nn0
        have T5 := T3.same s5
        have hd5 := T5.dict
        have nz : n0 ≠ d := fun e => by
          rw [e, T3.dict] at nn0
          cases nn0
        refine ⟨.ref d, rfl, .str z, rfl, d, _, rfl, dput z (.ref n0) hd5 (by omega), ?_⟩
        have T6 := T5.put (x := z) (z := n0) (ks := [z]) (f := fun _ => 0) upd_same nz (nd_one z)
        have nalone : ∀ q ∈ rows, q.1 ≠ z := fun q hq e => m (hn z ⟨q, hq, .inl e.symm⟩)
        have Te6 := Te3.put (x := z) (ks := [z]) (f := fun _ => 0) fun y => by
          rw [d_alone hv nalone y]
          unfold opt
          simp only [List.mem_singleton]
        obtain ⟨f1, f2⟩ := fin1 (ns2 := addN ns' z) (fun x h => mem_addN.mpr (.inl h)) (mem_addN.mpr (.inr rfl))
        have ntp' : tp ≠ d := ne_of htp T3.dict (by intro q; cases q)
        refine ⟨_, _, _, _, _, rfl, (s3.trans s5).later nd', ?_, T6, Te6, fun x h => mem_addN.mpr (.inl (sub x h)), f1, f2, fun x h => ?_, ?_⟩
        · rw [upd_ne ntp']
          exact s5 _ _ htp
        · rcases mem_addN.mp h with h | h
          · exact only x h
          · exact .inr (h ▸ zo)
        · have := length_addN (l := ns') (x := z)
          omega
    · rintro σ H1 ⟨y4, ns', ra', rk', rv', rfl, s3, htp, T3, Te3, sub, hl, hr', only, len⟩
      exact ⟨.ref d, rfl, q H1 d ns' ra' rk' rv' s3 nd' T3 Te3 sub (hl (by show 1 ≤ 2; decide)) (hr' (by show 2 ≤ 2; decide)) only⟩
end
end Lo
namespace Lo
open PySem L2
/-- all but one thing is as it was -/
def SameX (t : Addr) (H H' : Hp) : Prop := ∀ b o, b ≠ t → H b = some o → H' b = some o
theorem SameX.trans {t : Addr} {H H' H'' : Hp} (h : SameX t H H') (k : SameX t H' H'') : SameX t H H'' := fun b o n e => k b o n (h b o n e)
theorem same_x {t : Addr} {H H' : Hp} (h : Same H H') : SameX t H H' := fun b o _ e => h b o e
theorem sameX_back {t : Addr} {H H' : Hp} {o : HO} (e : H t = some o) (h : SameX t H H') : Same H (upd H' t o) := fun b x q => by
  by_cases z : b = t
  · rw [z, upd_same]
    rw [z] at q
    exact e.symm.trans q
  · rw [upd_ne z]
    exact h b x z q
theorem rget {H : Hp} {a : Addr} {ks : List Str} {f : Str → V} {x : Str} (e : Rd H a (.dK (dS ks f))) (h : x ∈ ks) : DGet H a (.str x) (some (f x)) := .inl ⟨_, Sum.inr x, e, rfl, by rw [dS_in h]⟩
theorem rget0 {H : Hp} {a : Addr} {ks : List Str} {f : Str → V} {x : Str} (e : Rd H a (.dK (dS ks f))) (h : x ∉ ks) : DGet H a (.str x) none := .inl ⟨_, Sum.inr x, e, rfl, by rw [dS_out h]⟩
theorem dS_at {ks : List Str} {f : Str → V} {i : Nat} (hi : i < ks.length) : (dS ks f)[i]? = some (Sum.inr ks[i], f ks[i]) := by
  unfold dS
  rw [List.getElem?_map, List.getElem?_eq_getElem hi]
  rfl
theorem Prs.unfrz {H : Hp} {L t : Addr} {fs : List (Str × Int)} {od : Obj} {u o : HO} (h : Prs H L fs) (ht : H t = some (.frz od u)) : Prs (upd H t o) L fs := by
  obtain ⟨qs, h1, h2, h3⟩ := h
  refine ⟨qs, by rw [upd_ne (ne_of h1 ht (by intro z; cases z))]; exact h1, h2, fun i q r hq hr => ?_⟩
  have z := h3 i q r hq hr
  rw [upd_ne (ne_of z ht (by intro z; cases z))]
  exact z
theorem TabG.aside {H : Hp} {d t : Addr} {ns : List Str} {ra : Str → Addr} {rk : Str → List Str} {rv : Str → Str → Int} {o : HO} (T : TabG H d ns ra rk rv) (h : d ≠ t) (k : ∀ x ∈ ns, ra x ≠ t) : TabG (upd H t o) d ns ra rk rv :=
  ⟨by rw [upd_ne h]; exact T.dict, T.nd, fun x hx => by rw [upd_ne (k x hx)]; exact T.row x hx, T.off, T.rnd⟩
/-- what tightened answers -/
def TightAns (H : Hp) (x : V) (rows : List SRow) (l r : Str) (c : Int) (ns : List Str) : Prop :=
  (x = .non ∧ ∀ u, ¬ Sat (rows ++ [(l, r, c)]) u) ∨ ∃ d ra rk rv, x = .ref d ∧ TabG H d ns ra rk rv ∧ Tells ns rk rv (D (rows ++ [(l, r, c)])) ∧ ∃ u, Sat (rows ++ [(l, r, c)]) u
theorem or_fn {P : Program} {w : World} {K : PySem.W.Frag} {mg : Str → Option Value} {base : Heap} {CX : CXT} {k j : Nat} {f : Addr} {fd : FuncData} {ps : List Str} {sp1 sp2 : Sp} (h1 : FnOk P w K mg base CX k f fd ps sp1) (h2 : FnOk P w K mg base CX j f fd ps sp2) (hk : k ≤ j) :
    FnOk P w K mg base CX j f fd ps (fun vs H Q E => sp1 vs H Q E ∨ sp2 vs H Q E) := by
  constructor
  · rintro vs H Q E (h | h)
    · exact h1.len vs H Q E h
    · exact h2.len vs H Q E h
  · rintro A o s H as us vs Q E room env bd vl (h | h)
    · exact h1.run A o s H as us vs Q E (room.mono hk) env bd vl h
    · exact h2.run A o s H as us vs Q E room env bd vl h
section
variable {P : Program} {w : World} {K : PySem.W.Frag} {mg : Str → Option Value} {base : Heap}
/-! ### tightened, both sides in the table -/
def spTight1 : Sp := fun vs H Q _ => ∃ (t : Addr) (l r : Str) (c : Int) (rows : List SRow) (v : Str → Int) (ns : List Str) (ra : Str → Addr) (rk : Str → List Str) (rv : Str → Str → Int), vs = [.ref t, .str l, .str r, .int c] ∧ TabG H t ns ra rk rv ∧ Tells ns rk rv (D rows) ∧ Sat rows v ∧ l ≠ r ∧ ns.length ≤ 250 ∧ (∀ x, Named rows x → x ∈ ns) ∧
  l ∈ ns ∧ r ∈ ns ∧ ∀ H' x, Same H H' → TightAns H' x rows l r c ns → Q x H'
abbrev nTightened : List Str := ["table", "left", "right", "limit", "ahead", "behind", "name", "further", "found", "row", "more"]
theorem scTightened : FnScope nTightened ["table", "left", "right", "limit"] (defScope sTightened) := ⟨rfl, rfl, rfl, by decide +kernel, rfl, by decide +kernel, by decide +kernel⟩
/-- the names that go on from right better -/
def frth (rk : Str → List Str) (rv : Str → Str → Int) (l r : Str) (c : Int) (ys : List Str) : List (Str × Int) := (ys.filter fun y => decide (y ∉ rk l ∨ c + rv r y < rv l y)).map fun y => (y, c + rv r y)
theorem frth_snoc (rk : Str → List Str) (rv : Str → Str → Int) (l r : Str) (c : Int) (ys : List Str) (y : Str) : frth rk rv l r c (ys ++ [y]) = if y ∉ rk l ∨ c + rv r y < rv l y then frth rk rv l r c ys ++ [(y, c + rv r y)] else frth rk rv l r c ys := by
  unfold frth
  rw [List.filter_append, List.map_append]
  by_cases h : y ∉ rk l ∨ c + rv r y < rv l y
  · rw [if_pos h]
    have e : [y].filter (fun y => decide (y ∉ rk l ∨ c + rv r y < rv l y)) = [y] := by
      rw [List.filter_cons]
      exact if_pos (decide_eq_true h)
    rw [e]
    rfl
  · rw [if_neg h]
    have e : [y].filter (fun y => decide (y ∉ rk l ∨ c + rv r y < rv l y)) = [] := by
      rw [List.filter_cons]
      exact if_neg (by rw [decide_eq_true_eq]; exact h)
    rw [e]
    show _ ++ [] = _
    rw [List.append_nil]
theorem frth_len (rk : Str → List Str) (rv : Str → Str → Int) (l r : Str) (c : Int) (ys : List Str) : (frth rk rv l r c ys).length ≤ ys.length := by
  unfold frth
  rw [List.length_map]
  exact List.length_filter_le _ _
/-- the new row of a name, by the greatest values -/
theorem row_new {rows : List SRow} {v : Str → Int} (hv : Sat rows v) {l r : Str} {c : Int} {u : Str → Int} (hu : Sat (rows ++ [(l, r, c)]) u) {ns : List Str} {rk : Str → List Str} {rv : Str → Str → Int} (Te : Tells ns rk rv (D rows)) (hl : l ∈ ns) (hr : r ∈ ns) (hnd : (rk r).Nodup) {x : Str} (hx : x ∈ ns) (y : Str) :
    if l ∈ rk x ∧ (r ∉ rk x ∨ rv x l + c < rv x r) then opt (low (rv x l) (rk x, rv x) (frth rk rv l r c (rk r))).1 (low (rv x l) (rk x, rv x) (frth rk rv l r c (rk r))).2 y = D (rows ++ [(l, r, c)]) x y
    else opt (rk x) (rv x) y = D (rows ++ [(l, r, c)]) x y := by
  have val : ∀ {a b : Str}, a ∈ ns → b ∈ rk a → D rows a b = some (rv a b) := fun {a b} ha hb => by
    rw [← Te a ha b, opt_in hb]
  have has : ∀ {a b : Str} {k : Int}, a ∈ ns → D rows a b = some k → b ∈ rk a ∧ rv a b = k := fun {a b k} ha e => by
    rw [← Te a ha b] at e
    exact opt_some e
  rw [more_d hv hu]
  have nodupF : ((frth rk rv l r c (rk r)).map (·.1)).Nodup := by
    unfold frth
    rw [List.map_map]
    have : ((fun q : Str × Int => q.1) ∘ fun y => (y, c + rv r y)) = id := rfl
    rw [this, List.map_id]
    exact hnd.filter _
  have memF : ∀ m, (y, m) ∈ frth rk rv l r c (rk r) ↔ y ∈ rk r ∧ (y ∉ rk l ∨ c + rv r y < rv l y) ∧ m = c + rv r y := fun m => by
    unfold frth
    rw [List.mem_map]
    constructor
    · rintro ⟨z, hz, e⟩
      obtain ⟨h1, h2⟩ := List.mem_filter.mp hz
      injection e with e1 e2
      subst e1
      exact ⟨h1, of_decide_eq_true h2, e2.symm⟩
    · rintro ⟨h1, h2, rfl⟩
      exact ⟨y, List.mem_filter.mpr ⟨h1, decide_eq_true h2⟩, rfl⟩
  by_cases hc : l ∈ rk x ∧ (r ∉ rk x ∨ rv x l + c < rv x r)
  · rw [if_pos hc]
    obtain ⟨o1, o2⟩ := low_opt (base := rv x l) (frth rk rv l r c (rk r)) (rk x, rv x) nodupF y
    rw [val hx hc.1]
    by_cases hy : y ∈ rk r
    · rw [val hr hy]
      by_cases hf : y ∉ rk l ∨ c + rv r y < rv l y
      · rw [o1 _ ((memF _).mpr ⟨hy, hf, rfl⟩), ← Te x hx y]
        show minO _ (some (rv x l + (c + rv r y))) = minO _ (some (rv x l + c + rv r y))
        rw [Int.add_assoc]
      · have yl : y ∈ rk l := Classical.byContradiction fun z => hf (.inl z)
        have le : rv l y ≤ c + rv r y := by
          have : ¬ c + rv r y < rv l y := fun z => hf (.inr z)
          omega
        rw [o2 fun z => by
          obtain ⟨q, hq, e⟩ := List.mem_map.mp z
          obtain ⟨q1, q2⟩ := q
          have e : q1 = y := e
          subst e
          exact hf ((memF q2).mp hq).2.1]
        obtain ⟨z, ez, lz⟩ := d_tri hv (val hx hc.1) (val hl yl)
        obtain ⟨yx, ev⟩ := has hx ez
        rw [← Te x hx y, opt_in yx]
        show some (rv x y) = some (if rv x l + c + rv r y < rv x y then _ else rv x y)
        rw [if_neg (by omega)]
    · have e : D rows r y = none := by
        rw [← Te r hr y, opt_out hy]
      rw [e, o2 fun z => by
        obtain ⟨q, hq, e⟩ := List.mem_map.mp z
        obtain ⟨q1, q2⟩ := q
        have e : q1 = y := e
        subst e
        exact hy ((memF q2).mp hq).1, ← Te x hx y]
      show opt (rk x) (rv x) y = minO (opt (rk x) (rv x) y) none
      cases opt (rk x) (rv x) y <;> rfl
  · rw [if_neg hc, Te x hx y]
    cases e1 : D rows x l with
    | none =>
      show D rows x y = minO (D rows x y) none
      cases D rows x y <;> rfl
    | some a =>
      obtain ⟨m1, q1⟩ := has hx e1
      have m2 : r ∈ rk x := Classical.byContradiction fun z => hc ⟨m1, .inl z⟩
      have le : ¬ rv x l + c < rv x r := fun z => hc ⟨m1, .inr z⟩
      cases e2 : D rows r y with
      | none =>
        show D rows x y = minO (D rows x y) none
        cases D rows x y <;> rfl
      | some b =>
        obtain ⟨z, ez, lz⟩ := d_tri hv (val hx m2) e2
        rw [ez]
        show some z = some (if a + c + b < z then _ else z)
        rw [if_neg (by omega)]
theorem ok_tight1 {f fL : Addr} {fd fdL : FuncData} (F : Fun K "tightened" "tightened" sTightened f fd) (U : Blt2 mg) (GL : FnOk P w K mg base CX0 1 fL fdL ["row", "base", "further"] spLowered) (kL : PySem.W.keepIn K (.ref fL) = true) (bL : Binds K fdL ["row", "base", "further"] []) (gL : mg "_lowered" = some (.ref fL)) :
    FnOk P w K mg base CX0 2 f fd ["table", "left", "right", "limit"] spTight1 := by
  refine F.ok scTightened (fun vs H Q E h => ?_) (fun cdv A outer s H vs Q E hr h => ?_)
  · obtain ⟨t, l, r, c, rows, v, ns, ra, rk, rv, rfl, _⟩ := h
    rfl
  · obtain ⟨t, l, r, c, rows, v, ns, ra, rk, rv, rfl, TG, Te, hv, nlr, few, hn, hl, hr', q⟩ := h
    have nd := scTightened.nd
    have hu := hu_of hr
    refine ⟨_, pss_cons (ps_if (PW.pt (pw_or (pt_cmp (pc_dnotin hu (pv 1) (pv 0))) (pw_or1 (pt_cmp (pc_dnotin hu (pv 2) (pv 0)))))) (pss_one ps_never) pss_nil)
      (pss_cons (ps_set (i := 4) nd rfl (.inr rfl) (pe_dget hu (pv 0) (pv 1) (fun _ _ => rfl)))
      (pss_cons (ps_set (i := 5) nd rfl (.inl rfl) (pe_dget hu (pv 0) (pv 2) (fun _ _ => rfl)))
      (C8.pss_cut (ps_if (PW.pt (pw_and (pt_cmp (pc_din hu (pv 2) (pv 4))) (pw_and1 (pt_cmpR op_le (pe_dget hu (pv 4) (pv 2) (fun _ _ => rfl)) (pv 3) (nomark _))))) (pss_one (ps_ret (pv 0))) pss_nil)
      (C8.pss_cut (ps_if (PW.pt (pw_and (pt_cmp (pc_din hu (pv 1) (pv 5))) (pw_and1 (pt_cmpR op_lt (pe_op op_add (pe_dget hu (pv 5) (pv 1) (fun _ _ => rfl)) (pv 3)) pe_int (nomark _))))) (pss_one (ps_ret pe_non)) pss_nil)
      (pss_cons (ps_lock (ps_setLc (i := 7) (own := [("name", 6), ("more", 10)]) (g := gTup K 2 (gCons (gName 6) (gCons (gName 10) gNil))) rfl nd rfl rfl (sw_true rfl rfl rfl (by decide +kernel)) (pi_items (pv 5)) (blkOk_by (N := nTightened) (sc := defScope sTightened) (by decide +kernel))
        (fun _ _ _ _ _ => pg_tup rfl (pgs_cons (pg_name (i := 6) nd rfl (.inl rfl)) (pgs_cons (pg_name (i := 10) nd rfl (.inl rfl)) pgs_nil)))
        (fun _ _ _ _ _ => pts_one (PW.pt (pw_or (pt_cmp (pc_dnotin hu (pv 6) (pv 4))) (pw_or1 (pt_cmpR op_lt (pe_op op_add (pv 3) (pv 10)) (pe_dget hu (pv 4) (pv 6) (fun _ _ => rfl)) (nomark _))))))
        (fun _ _ _ _ _ => pe_tup (pa_cons (pv 6) (pa_cons (pe_op op_add (pv 3) (pv 10)) pa_nil)))))
      (pss_cons (ps_set (i := 8) nd rfl (.inl rfl) (pe_callTy call_dictD (by rfl) U.dict PyProof.Rows.boot_dict (pa_cons (pv 0) pa_nil)))
      (pss_cons (ps_lock (ps_for PassesOwn.never rfl (pi_items (pv 0)) (pg_tup rfl (pgs_cons (pg_name (i := 6) nd rfl (.inl rfl)) (pgs_cons (pg_name (i := 9) nd rfl (.inl rfl)) pgs_nil)))
        (pss_one (ps_if (PW.pt (pw_and (pt_cmp (pc_din hu (pv 1) (pv 9))) (pw_and1 (PW.pt (pw_or (pt_cmp (pc_dnotin hu (pv 2) (pv 9))) (pw_or1 (pt_cmpR op_lt (pe_op op_add (pe_dget hu (pv 9) (pv 1) (fun _ _ => rfl)) (pv 3)) (pe_dget hu (pv 9) (pv 2) (fun _ _ => rfl)) (nomark _))))))))
          (pss_one (ps_dput hu (pv 8) (pv 6) (pe_call GL hr (by rfl) gL kL bL .nil pass0 (pa_cons (pv 9) (pa_cons (pe_dget hu (pv 9) (pv 1) (fun _ _ => rfl)) (pa_cons (pv 7) pa_nil)))) rfl)) pss_nil))))
      (pss_one (ps_ret (pv 8)))))))))), ?_⟩
    have al : D rows l l = some 0 := d_self hv l
    have val : ∀ {a b : Str}, a ∈ ns → b ∈ rk a → D rows a b = some (rv a b) := fun {a b} ha hb => by
      rw [← Te a ha b, opt_in hb]
    have kf : ∀ {x : Str}, x ∈ ns → (rk x).length ≤ 250 := fun {x} hx => Nat.le_trans (keys_few hv Te hn hx (TG.rnd x hx)) few
    have hL := TG.row l hl
    have hR := TG.row r hr'
    refine ⟨.str l, rfl, .ref t, rfl, t, _, rfl, dget TG.dict hl, _, rfl, iteF ?_⟩
    refine ⟨.str r, rfl, .ref t, rfl, t, _, rfl, dget TG.dict hr', _, rfl, iteF ?_⟩
    refine ⟨.ref t, rfl, .str l, rfl, t, _, rfl, dget TG.dict hl, ?_⟩
    refine ⟨.ref t, rfl, .str r, rfl, t, _, rfl, dget TG.dict hr', ?_⟩
    refine ⟨fun σ' H' => σ' = [some (.ref t), some (.str l), some (.str r), some (.int c), some (.ref (ra l)), some (.ref (ra r)), none, none, none, none, none] ∧ H' = H, ?_, ?_⟩
    · by_cases m : r ∈ rk l
      · refine ⟨.str r, rfl, .ref (ra l), rfl, ra l, _, rfl, dget hL m, _, rfl, iteT ⟨.ref (ra l), rfl, .str r, rfl, ra l, _, rfl, dget hL m, .int c, rfl, _, _, rfl, rfl, _, rfl, ite2 (fun e => ?_) (fun _ => ⟨rfl, rfl⟩)⟩⟩
        have hle : rv l r ≤ c := of_decide_eq_true e
        have td : Told rows l r c := told_le (d_told hv (val hl m)) hle
        refine ⟨.ref t, rfl, q H _ (Same.refl H) (.inr ⟨t, ra, rk, rv, rfl, TG, fun x hx y => ?_, v, (more_told hv td l l).1⟩)⟩
        rw [Te x hx y, (more_told hv td x y).2]
      · exact ⟨.str r, rfl, .ref (ra l), rfl, ra l, _, rfl, dget0 hL m, _, rfl, iteF ⟨rfl, rfl⟩⟩
    rintro σ1 H1 ⟨rfl, rfl⟩
    refine ⟨fun σ' H' => σ' = [some (.ref t), some (.str l), some (.str r), some (.int c), some (.ref (ra l)), some (.ref (ra r)), none, none, none, none, none] ∧ H' = H1 ∧ ∀ b, D rows r l = some b → 0 ≤ b + c, ?_, ?_⟩
    · by_cases m : l ∈ rk r
      · refine ⟨.str l, rfl, .ref (ra r), rfl, ra r, _, rfl, dget hR m, _, rfl, iteT ⟨.ref (ra r), rfl, .str l, rfl, ra r, _, rfl, dget hR m, .int c, rfl, _, _, rfl, rfl, _, _, rfl, rfl, _, rfl, ite2 (fun e => ?_) (fun e => ?_)⟩⟩
        · have hlt : rv r l + c < 0 := of_decide_eq_true e
          exact q H1 _ (Same.refl H1) (.inl ⟨rfl, more_none hv (val hr' m) hlt⟩)
        · have hge : ¬ rv r l + c < 0 := fun z => e (decide_eq_true z)
          refine ⟨rfl, rfl, fun b eb => ?_⟩
          rw [val hr' m] at eb
          injection eb with eb
          omega
      · refine ⟨.str l, rfl, .ref (ra r), rfl, ra r, _, rfl, dget0 hR m, _, rfl, iteF ⟨rfl, rfl, fun b eb => ?_⟩⟩
        rw [← Te r hr' l, opt_out m] at eb
        cases eb
    rintro σ1 H2 ⟨rfl, rfl, nn⟩
    obtain ⟨u, hu'⟩ := more_sat hv nn
    have rn := fun (x : Str) (hx : x ∈ ns) (y : Str) => row_new hv hu' Te hl hr' (TG.rnd r hr') hx y
    -- further
    refine ⟨ra r, _, hR, trivial, fun od => ?_⟩
    refine ⟨.ref (ra r), rfl, ra r, od, _, rfl, upd_same, fun L nL => ?_⟩
    have nLr : ra r ≠ L := fun e => by
      rw [← e, upd_same] at nL
      cases nL
    have nL2 : H2 L = none := by
      rw [upd_ne nLr.symm] at nL
      exact nL
    have rdL : ∀ {H' : Hp}, SameX (ra r) H2 H' → H' (ra r) = some (.frz od (.dK (dS (rk r) fun y => .int (rv r y)))) → Rd H' (ra l) (.dK (dS (rk l) fun y => .int (rv l y))) := fun {H'} sx hf => by
      by_cases e : ra l = ra r
      · have z := hL
        rw [e, hR] at z
        injection z with z
        rw [e]
        exact .inr ⟨od, z ▸ hf⟩
      · exact .inl (sx _ _ e hL)
    refine lc_it walk_items (fun i H' => SameX (ra r) H2 H' ∧ H' (ra r) = some (.frz od (.dK (dS (rk r) fun y => .int (rv r y)))) ∧ Prs H' L (frth rk rv l r c ((rk r).take i)))
      ⟨fun b o hb e => by rw [upd_ne (ne_of_none e nL2), upd_ne hb]; exact e, by rw [upd_ne nLr]; exact upd_same, [], upd_same, rfl, fun i q r h => (nomatch h)⟩ (fun i H' _ h => h.2.1) ?_ ?_
    · rintro i z H6 H7 hi ⟨s6, hd6, qs, hL6, hql, hqs⟩ ⟨tp, x1, x2, rfl, ntp, rfl, e1, e2⟩
      have hi' : i < (rk r).length := by
        rw [dS_len] at hi
        exact hi
      dsimp only at e1 e2
      rw [dS_at hi'] at e1 e2
      obtain rfl := Option.some.inj e1
      obtain rfl := Option.some.inj e2
      have sT := same_upd (o := HO.tup [kV (Sum.inr (rk r)[i]), V.int (rv r (rk r)[i])]) ntp
      have etake : (rk r).take (i + 1) = (rk r).take i ++ [(rk r)[i]] := by rw [List.take_add_one, List.getElem?_eq_getElem hi']; rfl
      have s67 := s6.trans (same_x sT)
      have hd7 := sT _ _ hd6
      have hL7 := sT _ _ hL6
      have hqs7 : ∀ (i : Nat) (q : Addr) (r : Str × Int), qs[i]? = some q → _ := fun i q r h h' => sT _ _ (hqs i q r h h')
      have rl7 := rdL s67 hd7
      have kr := kf hr'
      have flen := frth_len rk rv l r c ((rk r).take i)
      rw [List.length_take] at flen
      refine ⟨tp, _, rfl, SqT.of upd_same, rfl, _, _, rfl, _, _, rfl, rfl, rfl, ?_⟩
      generalize upd H6 tp (.tup [kV (Sum.inr (rk r)[i]), V.int (rv r (rk r)[i])]) = H7 at s67 hd7 hL7 hqs7 rl7 ⊢
      rw [etake, frth_snoc]
      generalize (rk r)[i] = y at *
      have fin : (y ∉ rk l ∨ c + rv r y < rv l y) → ∀ (tq : Addr), H7 tq = none → ∃ acc, upd H7 tq (.tup [.str y, .int (c + rv r y)]) L = some (.lst acc) ∧ acc.length < sizeLine ∧ SameX (ra r) H2 (upd (upd H7 tq (.tup [.str y, .int (c + rv r y)])) L (.lst (acc ++ [.ref tq]))) ∧
          upd (upd H7 tq (.tup [.str y, .int (c + rv r y)])) L (.lst (acc ++ [.ref tq])) (ra r) = some (.frz od (.dK (dS (rk r) fun y => .int (rv r y)))) ∧ Prs (upd (upd H7 tq (.tup [.str y, .int (c + rv r y)])) L (.lst (acc ++ [.ref tq]))) L (if y ∉ rk l ∨ c + rv r y < rv l y then frth rk rv l r c ((rk r).take i) ++ [(y, c + rv r y)] else frth rk rv l r c ((rk r).take i)) := by
        intro hc tq ntq
        have sQ := same_upd (o := HO.tup [V.str y, V.int (c + rv r y)]) ntq
        have nqL : tq ≠ L := fun e => by
          rw [e, hL7] at ntq
          cases ntq
        refine ⟨_, sQ _ _ hL7, ?_, fun b o hb e => ?_, ?_, ?_⟩
        · rw [List.length_map, hql]
          exact small1000 (by omega)
        · rw [upd_ne (ne_of_none e nL2)]
          exact sQ _ _ (s67 b o hb e)
        · rw [upd_ne nLr]
          exact sQ _ _ hd7
        · rw [if_pos hc]
          refine ⟨qs ++ [tq], by rw [upd_same, List.map_append]; rfl, by rw [List.length_append, List.length_append, hql]; rfl, fun j p q hp hq => ?_⟩
          by_cases k : j < qs.length
          · rw [List.getElem?_append_left k] at hp
            rw [List.getElem?_append_left (by omega)] at hq
            have z := sQ _ _ (hqs7 j p q hp hq)
            rw [upd_ne (ne_of z (sQ _ _ hL7) (by intro w; cases w))]
            exact z
          · have hj := (List.getElem?_eq_some_iff.mp hp).1
            rw [List.length_append, List.length_singleton] at hj
            have ej : j = qs.length := by omega
            subst ej
            rw [List.getElem?_append_right (Nat.le_refl _), Nat.sub_self] at hp
            rw [List.getElem?_append_right (by omega), hql, Nat.sub_self] at hq
            obtain rfl : tq = p := Option.some.inj hp
            obtain rfl : (y, c + rv r y) = q := Option.some.inj hq
            rw [upd_ne nqL, upd_same]
      by_cases hy : y ∈ rk l
      · refine ⟨.str y, rfl, .ref (ra l), rfl, ra l, _, rfl, rget rl7 hy, _, rfl, iteF ?_⟩
        refine ⟨.int c, rfl, .int (rv r y), rfl, _, _, rfl, rfl, .ref (ra l), rfl, .str y, rfl, ra l, _, rfl, rget rl7 hy, _, _, rfl, rfl, _, rfl, ite2 (fun e => ?_) (fun e => ?_)⟩
        · exact ⟨.str y, rfl, .int c, rfl, .int (rv r y), rfl, _, _, rfl, rfl, by show 2 ≤ sizeLine; decide, fin (.inr (of_decide_eq_true e))⟩
        · have hge : ¬ c + rv r y < rv l y := fun z => e (decide_eq_true z)
          refine ⟨s67, hd7, ?_⟩
          rw [if_neg fun z => z.elim (fun w => w hy) hge]
          exact ⟨qs, hL7, hql, hqs7⟩
      · refine ⟨.str y, rfl, .ref (ra l), rfl, ra l, _, rfl, rget0 rl7 hy, _, rfl, iteT (iteT ?_)⟩
        exact ⟨.str y, rfl, .int c, rfl, .int (rv r y), rfl, _, _, rfl, rfl, by show 2 ≤ sizeLine; decide, fin (.inl hy)⟩
    rintro H6 ⟨s6, hd6, hP6⟩
    refine ⟨hd6, ?_⟩
    have s8 : Same H2 (upd H6 (ra r) (.dK (dS (rk r) fun y => .int (rv r y)))) := sameX_back hR s6
    have hP8 : Prs (upd H6 (ra r) (.dK (dS (rk r) fun y => .int (rv r y)))) L (frth rk rv l r c (rk r)) := by
      have z := hP6
      rw [dS_len, List.take_length] at z
      exact z.unfrz hd6
    generalize upd H6 (ra r) (.dK (dS (rk r) fun y => .int (rv r y))) = H8 at s8 hP8 ⊢
    have T8 := TG.same s8
    -- found
    refine ⟨.ref t, rfl, t, _, rfl, Rd.of T8.dict, fun d nd' => ?_⟩
    have s9 := same_upd (o := HO.dK (dS ns fun x => V.ref (ra x))) nd'
    have T9 : TabG (upd H8 d (.dK (dS ns fun x => .ref (ra x)))) d ns ra rk rv := ⟨upd_same, TG.nd, fun x hx => s9 _ _ (T8.row x hx), fun x hx e => (by
      have z := T8.row x hx
      rw [e, nd'] at z
      exact nomatch z), TG.rnd⟩
    have ndt : d ≠ t := fun e => by
      rw [e, T8.dict] at nd'
      cases nd'
    have ht9 := s9 _ _ T8.dict
    refine ⟨t, _, ht9, trivial, fun od2 => ?_⟩
    refine ⟨.ref t, rfl, t, od2, _, rfl, upd_same, for_it walk_items (fun i σ H' => ∃ (y6 y9 : Option V) (ra' : Str → Addr) (rk' : Str → List Str) (rv' : Str → Str → Int), σ = [some (.ref t), some (.str l), some (.str r), some (.int c), some (.ref (ra l)), some (.ref (ra r)), y6, some (.ref L), some (.ref d), y9, none] ∧ SameX t H8 H' ∧
        H' t = some (.frz od2 (.dK (dS ns fun x => .ref (ra x)))) ∧ TabG H' d ns ra' rk' rv' ∧ (∀ x ∈ ns.take i, ∀ y, opt (rk' x) (rv' x) y = D (rows ++ [(l, r, c)]) x y) ∧ (∀ x ∈ ns.drop i, rk' x = rk x ∧ rv' x = rv x))
      ⟨none, none, ra, rk, rv, rfl, fun b o hb e => by rw [upd_ne hb]; exact s9 _ _ e, upd_same, T9.aside ndt TG.off, fun x h => absurd h List.not_mem_nil, fun x _ => ⟨rfl, rfl⟩⟩
      (fun i σ H' _ ⟨_, _, _, _, _, _, _, e, _⟩ => e) ?_ ?_⟩
    · rintro i z σ H10 H11 hi ⟨y6, y9, ra', rk', rv', rfl, s10, ht10, T10, done, todo⟩ ⟨tp, x1, x2, rfl, ntp, rfl, e1, e2⟩
      have hi' : i < ns.length := by
        rw [dS_len] at hi
        exact hi
      dsimp only at e1 e2
      rw [dS_at hi'] at e1 e2
      obtain rfl := Option.some.inj e1
      obtain rfl := Option.some.inj e2
      have hx : ns[i] ∈ ns := List.getElem_mem hi'
      have sT := same_upd (o := HO.tup [kV (Sum.inr ns[i]), V.ref (ra ns[i])]) ntp
      have etake : ns.take (i + 1) = ns.take i ++ [ns[i]] := by rw [List.take_add_one, List.getElem?_eq_getElem hi']; rfl
      have edrop : ns.drop i = ns[i] :: ns.drop (i + 1) := List.drop_eq_getElem_cons hi'
      have split : ns = ns.take i ++ ns[i] :: ns.drop (i + 1) := by rw [← edrop, List.take_append_drop]
      have nn := TG.nd
      rw [split] at nn
      obtain ⟨_, n2, n3⟩ := List.nodup_append.mp nn
      obtain ⟨n4, _⟩ := List.nodup_cons.mp n2
      have s11 := s10.trans (same_x sT)
      have ht11 := sT _ _ ht10
      have T11 := T10.same sT
      refine ⟨tp, _, rfl, SqT.of upd_same, rfl, _, _, rfl, _, _, rfl, rfl, ?_⟩
      generalize upd H10 tp (.tup [kV (Sum.inr ns[i]), V.ref (ra ns[i])]) = H11 at s11 ht11 T11 ⊢
      rw [edrop] at todo
      rw [etake]
      generalize ns[i] = x at *
      have hrow := s11 _ _ (TG.off x hx) (T8.row x hx)
      have rnx := fun y => rn x hx y
      have kr := kf hr'
      have kx := kf hx
      -- nothing to lower
      have stay : ¬ (l ∈ rk x ∧ (r ∉ rk x ∨ rv x l + c < rv x r)) → ∀ (z6 z9 : Option V), ∃ (y6 y9 : Option V) (ra' : Str → Addr) (rk' : Str → List Str) (rv' : Str → Str → Int), [some (V.ref t), some (.str l), some (.str r), some (.int c), some (.ref (ra l)), some (.ref (ra r)), z6, some (.ref L), some (.ref d), z9, none] = [some (V.ref t), some (.str l), some (.str r), some (.int c), some (.ref (ra l)), some (.ref (ra r)), y6, some (.ref L), some (.ref d), y9, none] ∧ SameX t H8 H11 ∧
          H11 t = some (.frz od2 (.dK (dS ns fun x => .ref (ra x)))) ∧ TabG H11 d ns ra' rk' rv' ∧ (∀ w ∈ ns.take i ++ [x], ∀ y, opt (rk' w) (rv' w) y = D (rows ++ [(l, r, c)]) w y) ∧ (∀ w ∈ ns.drop (i + 1), rk' w = rk w ∧ rv' w = rv w) := fun hc z6 z9 => by
        refine ⟨z6, z9, ra', rk', rv', rfl, s11, ht11, T11, fun w hw y => ?_, fun w hw => todo w (List.mem_cons_of_mem _ hw)⟩
        rcases List.mem_append.mp hw with m | m
        · exact done w m y
        · rw [List.mem_singleton] at m
          subst m
          obtain ⟨q1, q2⟩ := todo w List.mem_cons_self
          rw [q1, q2]
          have := rnx y
          rw [if_neg hc] at this
          exact this
      -- a row is lowered
      have lowr : (l ∈ rk x ∧ (r ∉ rk x ∨ rv x l + c < rv x r)) → ∀ (z6 z9 : Option V) (H12 : Hp) (z : Addr), Same H11 H12 → H11 z = none → H12 z = some (.dK (dS (low (rv x l) (rk x, rv x) (frth rk rv l r c (rk r))).1 fun y => .int ((low (rv x l) (rk x, rv x) (frth rk rv l r c (rk r))).2 y))) →
          ∃ (y6 y9 : Option V) (ra1 : Str → Addr) (rk1 : Str → List Str) (rv1 : Str → Str → Int), [some (V.ref t), some (.str l), some (.str r), some (.int c), some (.ref (ra l)), some (.ref (ra r)), z6, some (.ref L), some (.ref d), z9, none] = [some (V.ref t), some (.str l), some (.str r), some (.int c), some (.ref (ra l)), some (.ref (ra r)), y6, some (.ref L), some (.ref d), y9, none] ∧
          SameX t H8 (upd H12 d (.dK (dS (addN ns x) (put (fun x => V.ref (ra' x)) x (.ref z))))) ∧ upd H12 d (.dK (dS (addN ns x) (put (fun x => V.ref (ra' x)) x (.ref z)))) t = some (.frz od2 (.dK (dS ns fun x => .ref (ra x)))) ∧ TabG (upd H12 d (.dK (dS (addN ns x) (put (fun x => V.ref (ra' x)) x (.ref z))))) d ns ra1 rk1 rv1 ∧
          (∀ w ∈ ns.take i ++ [x], ∀ y, opt (rk1 w) (rv1 w) y = D (rows ++ [(l, r, c)]) w y) ∧ (∀ w ∈ ns.drop (i + 1), rk1 w = rk w ∧ rv1 w = rv w) := fun hc z6 z9 H12 z s12 nz hz => by
        have nzd : z ≠ d := fun e => by
          rw [e, T11.dict] at nz
          cases nz
        have ndk : (low (rv x l) (rk x, rv x) (frth rk rv l r c (rk r))).1.Nodup := low_nd _ _ (TG.rnd x hx)
        have T13 := (T11.same s12).put (x := x) hz nzd ndk
        have ead : addN ns x = ns := if_pos hx
        rw [ead] at T13
        rw [ead]
        refine ⟨z6, z9, _, _, _, rfl, fun b o hb e => ?_, ?_, T13, fun w hw y => ?_, fun w hw => ?_⟩
        · rw [upd_ne (ne_of_none e nd')]
          exact s12 _ _ (s11 b o hb e)
        · rw [upd_ne ndt.symm]
          exact s12 _ _ ht11
        · rcases List.mem_append.mp hw with m | m
          · have nw : w ≠ x := fun e => n3 w m x List.mem_cons_self e
            rw [put_off nw, put_off nw]
            exact done w m y
          · rw [List.mem_singleton] at m
            rw [m, put_at, put_at]
            have := rnx y
            rw [if_pos hc] at this
            exact this
        · have nw : w ≠ x := fun e => n4 (e ▸ hw)
          rw [put_off nw, put_off nw]
          exact todo w (List.mem_cons_of_mem _ hw)
      have hP11 : Prs H11 L (frth rk rv l r c (rk r)) := by
        obtain ⟨qs, h1, h2, h3⟩ := hP8
        refine ⟨qs, s11 _ _ (ne_of h1 T8.dict (by intro z; cases z)) h1, h2, fun j p q hp hq => ?_⟩
        have z := h3 j p q hp hq
        exact s11 _ _ (ne_of z T8.dict (by intro z; cases z)) z
      have flen := frth_len rk rv l r c (rk r)
      by_cases ml : l ∈ rk x
      · refine ⟨.str l, rfl, .ref (ra x), rfl, ra x, _, rfl, dget hrow ml, _, rfl, iteT ?_⟩
        by_cases mr : r ∈ rk x
        · refine ⟨.str r, rfl, .ref (ra x), rfl, ra x, _, rfl, dget hrow mr, _, rfl, iteF ?_⟩
          refine ⟨.ref (ra x), rfl, .str l, rfl, ra x, _, rfl, dget hrow ml, .int c, rfl, _, _, rfl, rfl, .ref (ra x), rfl, .str r, rfl, ra x, _, rfl, dget hrow mr, _, _, rfl, rfl, _, rfl, ite2 (fun e => ?_) (fun e => ?_)⟩
          · have hc : l ∈ rk x ∧ (r ∉ rk x ∨ rv x l + c < rv x r) := ⟨ml, .inr (of_decide_eq_true e)⟩
            refine ⟨.ref (ra x), rfl, .ref (ra x), rfl, .str l, rfl, ra x, _, rfl, dget hrow ml, .ref L, rfl, ra x, L, _, _, _, _, rfl, hrow, hP11, by omega, by omega, fun H12 z s12 nz hz => ?_⟩
            exact ⟨.ref d, rfl, .str x, rfl, d, _, rfl, dput x (.ref z) (s12 _ _ T11.dict) (by omega), lowr hc _ _ H12 z s12 nz hz⟩
          · exact stay (fun hc => hc.2.elim (fun w => w mr) fun w => e (decide_eq_true w)) _ _
        · have hc : l ∈ rk x ∧ (r ∉ rk x ∨ rv x l + c < rv x r) := ⟨ml, .inl mr⟩
          refine ⟨.str r, rfl, .ref (ra x), rfl, ra x, _, rfl, dget0 hrow mr, _, rfl, iteT (iteT ?_)⟩
          refine ⟨.ref (ra x), rfl, .ref (ra x), rfl, .str l, rfl, ra x, _, rfl, dget hrow ml, .ref L, rfl, ra x, L, _, _, _, _, rfl, hrow, hP11, by omega, by omega, fun H12 z s12 nz hz => ?_⟩
          exact ⟨.ref d, rfl, .str x, rfl, d, _, rfl, dput x (.ref z) (s12 _ _ T11.dict) (by omega), lowr hc _ _ H12 z s12 nz hz⟩
      · exact ⟨.str l, rfl, .ref (ra x), rfl, ra x, _, rfl, dget0 hrow ml, _, rfl, iteF (stay (fun hc => ml hc.1) _ _)⟩
    · rintro σ H10 ⟨y6, y9, ra', rk', rv', rfl, s10, ht10, T10, done, todo⟩
      refine ⟨ht10, ?_⟩
      rw [dS_len, List.take_length] at done
      have nrt : ∀ x ∈ ns, ra' x ≠ t := fun x hx e => by
        have z := T10.row x hx
        rw [e, ht10] at z
        cases z
      have s12 : Same H8 (upd H10 t (.dK (dS ns fun x => .ref (ra x)))) := sameX_back T8.dict s10
      refine ⟨.ref d, rfl, q _ _ (s8.trans s12) (.inr ⟨d, ra', rk', rv', rfl, T10.aside ndt nrt, done, u, hu'⟩)⟩
end
end Lo
namespace Lo
open PySem L2
section
variable {P : Program} {w : World} {K : PySem.W.Frag} {mg : Str → Option Value} {base : Heap}
/-! ### tightened -/
def spTightA (sp1 : Sp) : Sp := sp1
/-- a side is not in the table -/
def spTight0 : Sp := fun vs H Q _ => ∃ (t : Addr) (l r : Str) (c : Int) (rows : List SRow) (v : Str → Int) (ns : List Str) (ra : Str → Addr) (rk : Str → List Str) (rv : Str → Str → Int), vs = [.ref t, .str l, .str r, .int c] ∧ TabG H t ns ra rk rv ∧ Tells ns rk rv (D rows) ∧ Sat rows v ∧ l ≠ r ∧ ns.length ≤ 240 ∧ (∀ x, Named rows x → x ∈ ns) ∧
  (l ∉ ns ∨ r ∉ ns) ∧ ∀ H' x ns', Same H H' → (∀ x ∈ ns, x ∈ ns') → l ∈ ns' → r ∈ ns' → (∀ x ∈ ns', x ∈ ns ∨ x = l ∨ x = r) → TightAns H' x rows l r c ns' → Q x H'
theorem ok_tight0 {f fW : Addr} {fd fdW : FuncData} (F : Fun K "tightened" "tightened" sTightened f fd) (bF : Binds K fd ["table", "left", "right", "limit"] []) (gF : mg "tightened" = some (.ref f)) (G1 : FnOk P w K mg base CX0 2 f fd ["table", "left", "right", "limit"] spTight1)
    (GW : FnOk P w K mg base CX0 1 fW fdW ["table", "left", "right"] spWithRows) (kW : PySem.W.keepIn K (.ref fW) = true) (bW : Binds K fdW ["table", "left", "right"] []) (gW : mg "_with_rows" = some (.ref fW)) :
    FnOk P w K mg base CX0 3 f fd ["table", "left", "right", "limit"] spTight0 := by
  refine F.ok scTightened (fun vs H Q E h => ?_) (fun cdv A outer s H vs Q E hr h => ?_)
  · obtain ⟨t, l, r, c, rows, v, ns, ra, rk, rv, rfl, _⟩ := h
    rfl
  · obtain ⟨t, l, r, c, rows, v, ns, ra, rk, rv, rfl, TG, Te, hv, nlr, few, hn, out, q⟩ := h
    have nd := scTightened.nd
    have hu := hu_of hr
    refine ⟨_, pss_cons (ps_if (PW.pt (pw_or (pt_cmp (pc_dnotin hu (pv 1) (pv 0))) (pw_or1 (pt_cmp (pc_dnotin hu (pv 2) (pv 0))))))
        (pss_one (ps_ret (pe_call G1 hr (by rfl) gF F.kp bF .nil pass0 (pa_cons (pe_call GW (hr.mono (by decide)) (by rfl) gW kW bW .nil pass0 (pa_cons (pv 0) (pa_cons (pv 1) (pa_cons (pv 2) pa_nil)))) (pa_cons (pv 1) (pa_cons (pv 2) (pa_cons (pv 3) pa_nil))))))) pss_nil) pss_never, ?_⟩
    have call : (tCall spTight1 [] E0 (tCons (tCall spWithRows [] E0 (tCons (tVar 0) (tCons (tVar 1) (tCons (tVar 2) tNil)))) (tCons (tVar 1) (tCons (tVar 2) (tCons (tVar 3) tNil))))) [some (V.ref t), some (V.str l), some (V.str r), some (V.int c), none, none, none, none, none, none, none] H Q := by
      refine ⟨.ref t, rfl, .str l, rfl, .str r, rfl, t, l, r, rows, v, ns, ra, rk, rv, rfl, TG, Te, hv, nlr, by omega, hn, fun H1 d ns' ra' rk' rv' s1 _ T1 Te1 sub ml mr only => ?_⟩
      have len : ns'.length ≤ 250 := by
        have := nodup_le ns' (ns ++ [l, r]) T1.nd fun x hx => by
          rcases only x hx with h | h | h
          · exact List.mem_append_left _ h
          · exact List.mem_append_right _ (h ▸ List.mem_cons_self)
          · exact List.mem_append_right _ (h ▸ List.mem_cons_of_mem _ List.mem_cons_self)
        rw [List.length_append] at this
        have e : ([l, r] : List Str).length = 2 := rfl
        omega
      refine ⟨.str l, rfl, .str r, rfl, .int c, rfl, d, l, r, c, rows, v, ns', ra', rk', rv', rfl, T1, Te1, hv, nlr, len, fun x hx => sub x (hn x hx), ml, mr, fun H2 x s2 hA => q H2 x ns' (s1.trans s2) sub ml mr only hA⟩
    by_cases m : l ∈ ns
    · have mr : r ∉ ns := out.resolve_left fun z => z m
      exact ⟨.str l, rfl, .ref t, rfl, t, _, rfl, dget TG.dict m, _, rfl, iteF ⟨.str r, rfl, .ref t, rfl, t, _, rfl, dget0 TG.dict mr, _, rfl, iteT call⟩⟩
    · exact ⟨.str l, rfl, .ref t, rfl, t, _, rfl, dget0 TG.dict m, _, rfl, iteT (iteT call)⟩
/-- in all -/
def spTight' : Sp := fun vs H Q _ => ∃ (t : Addr) (l r : Str) (c : Int) (rows : List SRow) (v : Str → Int) (ns : List Str) (ra : Str → Addr) (rk : Str → List Str) (rv : Str → Str → Int), vs = [.ref t, .str l, .str r, .int c] ∧ TabG H t ns ra rk rv ∧ Tells ns rk rv (D rows) ∧ Sat rows v ∧ l ≠ r ∧ ns.length ≤ 240 ∧ (∀ x, Named rows x → x ∈ ns) ∧
  ∀ H' x ns', Same H H' → (∀ x ∈ ns, x ∈ ns') → l ∈ ns' → r ∈ ns' → (∀ x ∈ ns', x ∈ ns ∨ x = l ∨ x = r) → TightAns H' x rows l r c ns' → Q x H'
theorem ok_tightened {f : Addr} {fd : FuncData} (G1 : FnOk P w K mg base CX0 2 f fd ["table", "left", "right", "limit"] spTight1) (G0 : FnOk P w K mg base CX0 3 f fd ["table", "left", "right", "limit"] spTight0) : FnOk P w K mg base CX0 3 f fd ["table", "left", "right", "limit"] spTight' := by
  refine (or_fn G1 G0 (by decide)).imp fun vs H Q E h => ?_
  obtain ⟨t, l, r, c, rows, v, ns, ra, rk, rv, rfl, TG, Te, hv, nlr, few, hn, q⟩ := h
  by_cases m : l ∈ ns ∧ r ∈ ns
  · exact .inl ⟨t, l, r, c, rows, v, ns, ra, rk, rv, rfl, TG, Te, hv, nlr, by omega, hn, m.1, m.2, fun H' x s hA => q H' x ns s (fun x h => h) m.1 m.2 (fun x h => .inl h) hA⟩
  · refine .inr ⟨t, l, r, c, rows, v, ns, ra, rk, rv, rfl, TG, Te, hv, nlr, few, hn, ?_, q⟩
    by_cases ml : l ∈ ns
    · exact .inr fun mr => m ⟨ml, mr⟩
    · exact .inl ml
/-! ### table_of -/
/-- the table of a system -/
structure TabOf (H : Hp) (t : Addr) (rows : List SRow) (ns : List Str) (ra : Str → Addr) (rk : Str → List Str) (rv : Str → Str → Int) : Prop where
  G : TabG H t ns ra rk rv
  T : Tells ns rk rv (D rows)
  names : ∀ x, x ∈ ns ↔ Named rows x
def spTableOf : Sp := fun vs H Q _ => ∃ (a : Addr) (rows : List SRow), vs = [.ref a] ∧ Sys RowT H a rows ∧ Good rows ∧
  ∀ H' x, Same H H' → ((x = .non ∧ ∀ u, ¬ Sat rows u) ∨ ∃ t ns ra rk rv, x = .ref t ∧ TabOf H' t rows ns ra rk rv ∧ ∃ v, Sat rows v) → Q x H'
abbrev nTableOf : List Str := ["differences", "table", "left", "right", "limit"]
theorem scTableOf : FnScope nTableOf ["differences"] (defScope sTableOf) := ⟨rfl, rfl, rfl, by decide +kernel, rfl, by decide +kernel, by decide +kernel⟩
theorem ok_tableof {f fT : Addr} {fd fdT : FuncData} (F : Fun K "table_of" "table_of" sTableOf f fd) (GT : FnOk P w K mg base CX0 3 fT fdT ["table", "left", "right", "limit"] spTight') (kT : PySem.W.keepIn K (.ref fT) = true) (bT : Binds K fdT ["table", "left", "right", "limit"] []) (gT : mg "tightened" = some (.ref fT)) :
    FnOk P w K mg base CX0 4 f fd ["differences"] spTableOf := by
  refine F.ok scTableOf (fun vs H Q E h => ?_) (fun cdv A outer s H vs Q E hr h => ?_)
  · obtain ⟨a, rows, rfl, _⟩ := h
    rfl
  · obtain ⟨a, rows, rfl, ⟨ps, hA, hl, hat⟩, g, q⟩ := h
    have nd := scTableOf.nd
    refine ⟨_, pss_cons (ps_set (i := 1) nd rfl (.inl rfl) pe_dnewK)
      (pss_cons (ps_for PassesOwn.never rfl (pi_list (pv 0)) (pg_tup rfl (pgs_cons (pg_name (i := 2) nd rfl (.inl rfl)) (pgs_cons (pg_name (i := 3) nd rfl (.inl rfl)) (pgs_cons (pg_name (i := 4) nd rfl (.inl rfl)) pgs_nil))))
        (pss_cons (ps_set (i := 1) nd rfl (.inl rfl) (pe_call GT hr (by rfl) gT kT bT .nil pass0 (pa_cons (pv 1) (pa_cons (pv 2) (pa_cons (pv 3) (pa_cons (pv 4) pa_nil))))))
        (pss_one (ps_if (pt_cmpR op_isN (pv 1) pe_non (nomark _)) (pss_one (ps_ret pe_non)) pss_nil))))
      (pss_one (ps_ret (pv 1)))), ?_⟩
    intro t0 nt0
    have s1 := same_upd (o := HO.dK []) nt0
    refine ⟨.ref a, rfl, a, rfl, ⟨_, SqL.of (s1 _ _ hA)⟩, for_list (K := K) (a := a) (xs := ps.map V.ref) (fun i σ H' => ∃ (t : Addr) (y2 y3 y4 : Option V) (ns : List Str) (ra : Str → Addr) (rk : Str → List Str) (rv : Str → Str → Int), σ = [some (.ref a), some (.ref t), y2, y3, y4] ∧ Same H H' ∧
        TabOf H' t (rows.take i) ns ra rk rv ∧ (∃ v, Sat (rows.take i) v) ∧ ns.length ≤ 2 * i)
      ⟨t0, none, none, none, [], fun _ => 0, fun _ => [], fun _ _ => 0, rfl, s1, ⟨⟨upd_same, List.nodup_nil, fun x h => absurd h List.not_mem_nil, fun x h => absurd h List.not_mem_nil, fun x h => absurd h List.not_mem_nil⟩, fun x h => absurd h List.not_mem_nil, fun x => ⟨fun h => absurd h List.not_mem_nil, fun ⟨r, hr', _⟩ => absurd hr' List.not_mem_nil⟩⟩,
        ⟨fun _ => 0, fun r hr' => absurd hr' List.not_mem_nil⟩, Nat.le_refl _⟩ (fun i σ H' _ ⟨_, _, _, _, _, _, _, _, _, e, _⟩ => SqL.of (e _ _ hA)) ?_ ?_⟩
    · rintro i x σ H1 hi ⟨t, y2, y3, y4, ns, ra, rk, rv, rfl, s2, T, ⟨v, hv⟩, len⟩
      obtain ⟨p, ⟨l, r, c⟩, rfl, hp, hrr, hmem, hlt, hR⟩ := Sys.at hl hat hi
      have etake : rows.take (i + 1) = rows.take i ++ [(l, r, c)] := by rw [List.take_add_one, hrr]; rfl
      have few := g.few
      refine ⟨p, _, rfl, SqT.of (hR.same s2), rfl, _, _, rfl, _, _, rfl, _, _, rfl, rfl, ?_⟩
      refine ⟨.ref t, rfl, .str l, rfl, .str r, rfl, .int c, rfl, t, l, r, c, rows.take i, v, ns, ra, rk, rv, rfl, T.G, T.T, hv, (g.row _ hmem).1, by omega, fun x hx => (T.names x).mpr hx, fun H2 x ns' s3 sub ml mr only hA => ?_⟩
      have hsub : ∀ u, Sat rows u → Sat (rows.take i ++ [(l, r, c)]) u := fun u hu q hq => hu q (by
        rw [← etake] at hq
        exact List.mem_of_mem_take hq)
      rcases hA with ⟨rfl, no⟩ | ⟨d, ra', rk', rv', rfl, T', Te', hu⟩
      · exact ⟨_, rfl, rfl, _, rfl, iteT (q H2 .non (s2.trans s3) (.inl ⟨rfl, fun u hu => no u (hsub u hu)⟩))⟩
      · refine ⟨_, rfl, rfl, _, rfl, iteF ?_⟩
        rw [etake]
        refine ⟨d, _, _, _, ns', ra', rk', rv', rfl, s2.trans s3, ⟨T', Te', fun x => ⟨fun hx => ?_, fun ⟨q, hq, e⟩ => ?_⟩⟩, hu, ?_⟩
        · rcases only x hx with h | h | h
          · obtain ⟨q, hq, e⟩ := (T.names x).mp h
            exact ⟨q, List.mem_append_left _ hq, e⟩
          · exact ⟨_, List.mem_append_right _ (List.mem_singleton.mpr rfl), .inl h⟩
          · exact ⟨_, List.mem_append_right _ (List.mem_singleton.mpr rfl), .inr h⟩
        · rcases List.mem_append.mp hq with m | m
          · exact sub x ((T.names x).mpr ⟨q, m, e⟩)
          · rw [List.mem_singleton] at m
            subst m
            rcases e with e | e
            · exact e ▸ ml
            · exact e ▸ mr
        · have := nodup_le ns' (ns ++ [l, r]) T'.nd fun x hx => by
            rcases only x hx with h | h | h
            · exact List.mem_append_left _ h
            · exact List.mem_append_right _ (h ▸ List.mem_cons_self)
            · exact List.mem_append_right _ (h ▸ List.mem_cons_of_mem _ List.mem_cons_self)
          rw [List.length_append] at this
          have e : ([l, r] : List Str).length = 2 := rfl
          omega
    · rintro σ H1 ⟨t, y2, y3, y4, ns, ra, rk, rv, rfl, s2, T, hv, len⟩
      rw [List.length_map, hl, List.take_length] at T hv
      exact ⟨.ref t, rfl, q H1 _ s2 (.inr ⟨t, ns, ra, rk, rv, rfl, T, hv⟩)⟩
end
end Lo
namespace Lo
open PySem L2
abbrev sFewestOf : Stmt := top 14
abbrev sGroups : Stmt := top 15
abbrev sInOrder : Stmt := top 16
abbrev sLeader : Stmt := top 17
abbrev sFollows : Stmt := top 18
section
variable {P : Program} {w : World} {K : PySem.W.Frag} {mg : Str → Option Value} {base : Heap}
theorem TabOf.same {H H' : Hp} {t : Addr} {rows : List SRow} {ns : List Str} {ra : Str → Addr} {rk : Str → List Str} {rv : Str → Str → Int} (s : Same H H') (T : TabOf H t rows ns ra rk rv) : TabOf H' t rows ns ra rk rv := ⟨T.G.same s, T.T, T.names⟩
theorem TabOf.val {H : Hp} {t : Addr} {rows : List SRow} {ns : List Str} {ra : Str → Addr} {rk : Str → List Str} {rv : Str → Str → Int} (T : TabOf H t rows ns ra rk rv) {a b : Str} (ha : a ∈ ns) (hb : b ∈ rk a) : D rows a b = some (rv a b) := by
  rw [← T.T a ha b, opt_in hb]
theorem TabOf.out {H : Hp} {t : Addr} {rows : List SRow} {ns : List Str} {ra : Str → Addr} {rk : Str → List Str} {rv : Str → Str → Int} (T : TabOf H t rows ns ra rk rv) {a b : Str} (ha : a ∈ ns) (hb : b ∉ rk a) : D rows a b = none := by
  rw [← T.T a ha b, opt_out hb]
/-! ### _in_order -/
def spInOrder : Sp := fun vs H Q _ => ∃ (t : Addr) (ns : List Str) (f : Str → V), vs = [.ref t] ∧ H t = some (.dK (dS ns f)) ∧ ns.Nodup ∧ ns.length < 60 ∧
  ∀ (H' : Hp) (p : Addr) (ms : List Str), Same H H' → H p = none → H' p = some (.lst (ms.map V.str)) → ms.Nodup → (∀ x, x ∈ ms ↔ x ∈ ns) → Q (.ref p) H'
abbrev nInOrder : List Str := ["table", "names", "name"]
theorem scInOrder : FnScope nInOrder ["table"] (defScope sInOrder) := ⟨rfl, rfl, rfl, by decide +kernel, rfl, by decide +kernel, by decide +kernel⟩
theorem ok_inorder {f : Addr} {fd : FuncData} (F : Fun K "_in_order" "_in_order" sInOrder f fd) (U : Blt2 mg) : FnOk P w K mg base CX0 1 f fd ["table"] spInOrder := by
  refine F.ok scInOrder (fun vs H Q E h => ?_) (fun cdv A outer s H vs Q E hr h => ?_)
  · obtain ⟨t, ns, f, rfl, _⟩ := h
    rfl
  · obtain ⟨t, ns, f, rfl, ht, hnd, few, q⟩ := h
    have nd := scInOrder.nd
    have hu := hu_of hr
    refine ⟨_, pss_cons (ps_set (i := 1) nd rfl (.inl rfl) (pe_callB cr_sortedS (by rfl) U.sorted PyProof.Rows.boot_sorted (pa_cons (pe_lock (pe_lc (own := [("name", 2)]) (g := gName 2) rfl nd (pi_keys (pv 0)) (blkOk_by (N := nInOrder) (sc := defScope sInOrder) (by decide +kernel))
          (fun _ _ _ _ _ => pg_name (i := 2) nd rfl (.inl rfl)) (fun _ _ _ _ _ => pts_one (pt_cmpR op_ne (pv 2) pe_str (nomark _))) (fun _ _ _ _ _ => pv 2))) pa_nil)))
      (pss_cons (ps_if (pt_cmp (pc_din hu pe_str (pv 0))) (pss_one (ps_ret (pe_lst (pa_cons pe_str (StX.pa_star (pv 1) pa_nil))))) pss_nil)
      (pss_one (ps_ret (pv 1)))), ?_⟩
    refine ⟨t, _, ht, trivial, fun od => ?_⟩
    refine ⟨.ref t, rfl, t, od, rfl, .inl ⟨_, upd_same, fun L nL => ?_⟩⟩
    have nLt : t ≠ L := fun e => by
      rw [← e, upd_same] at nL
      cases nL
    have nL0 : H L = none := by
      rw [upd_ne nLt.symm] at nL
      exact nL
    refine lc_it walk_keys (fun i H' => SameX t H H' ∧ H' t = some (.frz od (.dK (dS ns f))) ∧ H' L = some (.lst ((noZ (ns.take i)).map V.str)))
      ⟨fun b o hb e => by rw [upd_ne (ne_of_none e nL0), upd_ne hb]; exact e, by rw [upd_ne nLt]; exact upd_same, upd_same⟩ (fun i H' _ h => h.2.1) ?_ ?_
    · rintro i z H6 H7 hi ⟨s6, hd6, hL6⟩ ⟨rfl, k, v', hkk, rfl⟩
      have hi' : i < ns.length := by
        rw [dS_len] at hi
        exact hi
      rw [dS_at hi'] at hkk
      obtain rfl : (Sum.inr ns[i] : Key) = k := congrArg Prod.fst (Option.some.inj hkk)
      have etake : ns.take (i + 1) = ns.take i ++ [ns[i]] := by rw [List.take_add_one, List.getElem?_eq_getElem hi']; rfl
      refine ⟨rfl, ?_⟩
      rw [etake]
      unfold noZ at hL6 ⊢
      rw [List.filter_append]
      generalize ns[i] = y at *
      refine ⟨.str y, rfl, rfl, _, rfl, ?_⟩
      rw [ne_dec]
      refine ite2 (fun e => ?_) (fun e => ?_)
      · have ef : [y].filter (fun x => decide (x ≠ ("0" : Str))) = [y] := by
          rw [List.filter_cons]
          exact if_pos e
        rw [ef]
        refine ⟨.str y, rfl, _, hL6, ?_, fun b o hb e => ?_, ?_, ?_⟩
        · rw [List.length_map]
          have := List.length_filter_le (fun x => decide (x ≠ ("0" : Str))) (ns.take i)
          rw [List.length_take] at this
          exact small1000 (by omega)
        · rw [upd_ne (ne_of_none e nL0)]
          exact s6 b o hb e
        · rw [upd_ne nLt]
          exact hd6
        · rw [upd_same, List.map_append]
          rfl
      · have ef : [y].filter (fun x => decide (x ≠ ("0" : Str))) = [] := by
          rw [List.filter_cons]
          exact if_neg e
        rw [ef, List.append_nil]
        exact ⟨s6, hd6, hL6⟩
    rintro H6 ⟨s6, hd6, hL6⟩
    refine ⟨hd6, ?_⟩
    rw [dS_len, List.take_length] at hL6
    have s8 : Same H (upd H6 t (.dK (dS ns f))) := sameX_back ht s6
    have hL8 : upd H6 t (.dK (dS ns f)) L = some (.lst ((noZ ns).map V.str)) := by
      rw [upd_ne nLt.symm]
      exact hL6
    have ht8 := s8 _ _ ht
    generalize upd H6 t (.dK (dS ns f)) = H8 at s8 hL8 ht8 ⊢
    have zlen : (noZ ns).length ≤ ns.length := List.length_filter_le _ _
    refine ⟨L, noZ ns, rfl, SqL.of hL8, by omega, fun ys p hperm _ np => ?_⟩
    have s9 := same_upd (o := HO.lst (ys.map V.str)) np
    have ynd : ys.Nodup := hperm.symm.nodup (hnd.filter _)
    have ymem : ∀ x, x ∈ ys ↔ x ∈ ns ∧ x ≠ ("0" : Str) := fun x => by
      rw [hperm.mem_iff]
      unfold noZ
      rw [List.mem_filter, decide_eq_true_eq]
    by_cases m : ("0" : Str) ∈ ns
    · refine ⟨.ref t, rfl, t, _, rfl, dget (s9 _ _ ht8) m, _, rfl, iteT ?_⟩
      refine ⟨.ref p, rfl, p, _, rfl, .inr (SqL.of upd_same), ?_⟩
      refine ⟨?_, fun r nr => ?_⟩
      · show (V.str "0" :: (ys.map V.str ++ [])).length ≤ sizeLine
        rw [List.append_nil, List.length_cons, List.length_map, hperm.length_eq]
        exact Nat.le_of_lt (small1000 (by omega))
      · refine q _ r ("0" :: ys) ((s8.trans s9).trans (same_upd nr)) ((s8.trans s9).free nr) (by rw [upd_same, List.append_nil]; rfl) (List.nodup_cons.mpr ⟨fun z => ((ymem _).mp z).2 rfl, ynd⟩) fun x => ?_
        rw [List.mem_cons, ymem]
        constructor
        · rintro (e | e)
          · exact e ▸ m
          · exact e.1
        · intro hx
          by_cases e : x = "0"
          · exact .inl e
          · exact .inr ⟨hx, e⟩
    · refine ⟨.ref t, rfl, t, _, rfl, dget0 (s9 _ _ ht8) m, _, rfl, iteF ?_⟩
      refine ⟨.ref p, rfl, q _ p ys (s8.trans s9) (s8.free np) upd_same ynd fun x => ?_⟩
      rw [ymem]
      exact ⟨fun h => h.1, fun h => ⟨h, fun e => m (e ▸ h)⟩⟩
/-! ### _leader -/
def spLeader : Sp := fun vs H Q _ => ∃ (t hl : Addr) (x : Str) (hs : List Str) (rows : List SRow) (v : Str → Int) (ns : List Str) (ra : Str → Addr) (rk : Str → List Str) (rv : Str → Str → Int), vs = [.ref t, .str x, .ref hl] ∧ TabOf H t rows ns ra rk rv ∧ Sat rows v ∧ x ∈ ns ∧
  H hl = some (.lst (hs.map V.str)) ∧ (∀ h ∈ hs, h ∈ ns) ∧ (∀ h ∈ hs, Eqv rows h x → Q (.str h) H) ∧ ((∀ h ∈ hs, ¬ Eqv rows h x) → Q .non H)
abbrev nLeader : List Str := ["table", "name", "leaders", "row", "leader"]
theorem scLeader : FnScope nLeader ["table", "name", "leaders"] (defScope sLeader) := ⟨rfl, rfl, rfl, by decide +kernel, rfl, by decide +kernel, by decide +kernel⟩
theorem ok_leader {f : Addr} {fd : FuncData} (F : Fun K "_leader" "_leader" sLeader f fd) : FnOk P w K mg base CX0 1 f fd ["table", "name", "leaders"] spLeader := by
  refine F.ok scLeader (fun vs H Q E h => ?_) (fun cdv A outer s H vs Q E hr h => ?_)
  · obtain ⟨t, hl, x, hs, rows, v, ns, ra, rk, rv, rfl, _⟩ := h
    rfl
  · obtain ⟨t, hl, x, hs, rows, v, ns, ra, rk, rv, rfl, T, hv, hx, hhs, sub, q1, q2⟩ := h
    have nd := scLeader.nd
    have hu := hu_of hr
    refine ⟨_, pss_cons (ps_set (i := 3) nd rfl (.inl rfl) (pe_dget hu (pv 0) (pv 1) (fun _ _ => rfl)))
      (pss_cons (ps_for PassesOwn.never rfl (pi_list (pv 2)) (pg_name (i := 4) nd rfl (.inl rfl))
        (pss_one (ps_if (PW.pt (pw_and (pt_cmp (pc_din hu (pv 4) (pv 3))) (pw_and (pt_cmp (pc_din hu (pv 1) (pe_dget hu (pv 0) (pv 4) (fun _ _ => rfl)))) (pw_and1 (pt_cmpR op_eq (pe_op op_add (pe_dget hu (pv 3) (pv 4) (fun _ _ => rfl)) (pe_dget hu (pe_dget hu (pv 0) (pv 4) (fun _ _ => rfl)) (pv 1) (fun _ _ => rfl))) pe_int (nomark _))))))
          (pss_one (ps_ret (pv 4))) pss_nil)))
      (pss_one (ps_ret pe_non))), ?_⟩
    have hrow := T.G.row x hx
    refine ⟨.ref t, rfl, .str x, rfl, t, _, rfl, dget T.G.dict hx, ?_⟩
    refine ⟨.ref hl, rfl, hl, rfl, ⟨_, SqL.of hhs⟩, for_list (K := K) (a := hl) (xs := hs.map V.str) (fun i σ H' => ∃ (y4 : Option V), σ = [some (.ref t), some (.str x), some (.ref hl), some (.ref (ra x)), y4] ∧ H' = H ∧ ∀ h ∈ hs.take i, ¬ Eqv rows h x) ⟨none, rfl, rfl, fun h m => absurd m List.not_mem_nil⟩
      (fun i σ H' _ ⟨_, _, e, _⟩ => by rw [e]; exact SqL.of hhs) ?_ ?_⟩
    · rintro i z σ H1 hi ⟨y4, rfl, rfl, prev⟩
      have hi1 : i < hs.length := by
        have := (List.getElem?_eq_some_iff.mp hi).1
        rw [List.length_map] at this
        exact this
      obtain rfl : z = .str hs[i] := by
        rw [List.getElem?_map, List.getElem?_eq_getElem hi1] at hi
        exact (Option.some.inj hi).symm
      have etake : hs.take (i + 1) = hs.take i ++ [hs[i]] := by rw [List.take_add_one, List.getElem?_eq_getElem hi1]; rfl
      have hm : hs[i] ∈ hs := List.getElem_mem hi1
      rw [etake]
      generalize hs[i] = h at *
      have hn := sub h hm
      have no : ¬ Eqv rows h x → ∀ (z4 : Option V), ∃ (y4 : Option V), [some (V.ref t), some (.str x), some (.ref hl), some (.ref (ra x)), z4] = [some (V.ref t), some (.str x), some (.ref hl), some (.ref (ra x)), y4] ∧ H1 = H1 ∧ ∀ g ∈ hs.take i ++ [h], ¬ Eqv rows g x := fun ne z4 => by
        refine ⟨z4, rfl, rfl, fun g hg => ?_⟩
        rcases List.mem_append.mp hg with m | m
        · exact prev g m
        · rw [List.mem_singleton] at m
          exact m ▸ ne
      by_cases m1 : h ∈ rk x
      · refine ⟨.str h, rfl, .ref (ra x), rfl, ra x, _, rfl, dget hrow m1, _, rfl, iteT ?_⟩
        by_cases m2 : x ∈ rk h
        · refine ⟨.str x, rfl, .ref t, rfl, .str h, rfl, t, _, rfl, dget T.G.dict hn, ra h, _, rfl, dget (T.G.row h hn) m2, _, rfl, iteT ?_⟩
          refine ⟨.ref (ra x), rfl, .str h, rfl, ra x, _, rfl, dget hrow m1, .ref t, rfl, .str h, rfl, t, _, rfl, dget T.G.dict hn, .str x, rfl, ra h, _, rfl, dget (T.G.row h hn) m2, _, _, rfl, rfl, rfl, _, rfl, ite2 (fun e => ?_) (fun e => ?_)⟩
          · have ez : rv x h + rv h x = 0 := V.int.inj (of_decide_eq_true e)
            exact ⟨_, rfl, q1 h hm (eqv_of hv (T.val hn m2) (T.val hx m1) (by omega))⟩
          · refine no (fun ev => e (decide_eq_true ?_)) _
            obtain ⟨k, k1, k2⟩ := ev
            rw [T.val hn m2] at k1
            rw [T.val hx m1] at k2
            injection k1 with k1
            injection k2 with k2
            show V.int _ = V.int _
            congr 1
            omega
        · refine ⟨.str x, rfl, .ref t, rfl, .str h, rfl, t, _, rfl, dget T.G.dict hn, ra h, _, rfl, dget0 (T.G.row h hn) m2, _, rfl, iteF (no (fun ev => ?_) _)⟩
          obtain ⟨k, k1, k2⟩ := ev
          rw [T.out hn m2] at k1
          cases k1
      · refine ⟨.str h, rfl, .ref (ra x), rfl, ra x, _, rfl, dget0 hrow m1, _, rfl, iteF (no (fun ev => ?_) _)⟩
        obtain ⟨k, k1, k2⟩ := ev
        rw [T.out hx m1] at k2
        cases k2
    · rintro σ H1 ⟨y4, rfl, rfl, prev⟩
      rw [List.length_map, List.take_length] at prev
      exact q2 prev
end
end Lo
namespace Lo
open PySem PySem.Spec L2 PyProof.Rows
/-- the values of a dict, as a view -/
def ViewV (p d : Addr) : HO := .ext fun h => h.IsValuesView p d
section
variable {X : Cx}
theorem mt_vals : MtR X "dict.values" (fun x xs H Q => ∃ (a : Addr) (kvs : List (L2.Key × V)), x = .ref a ∧ xs = [] ∧ H a = some (.dK kvs) ∧ ∀ p, H p = none → Q (.ref p) (upd H p (ViewV p a))) := by
  intro pins s σ H x xs v us Q I rx rxs
  rintro ⟨a, kvs, rfl, rfl, hd, q⟩
  cases rx
  cases rxs
  obtain ⟨_, lo, vs, _, od⟩ := dk_of I.hok hd
  obtain ⟨ep, da⟩ := id od.dictAt
  obtain ⟨ob, _, ho, e1, _⟩ := da
  have fresh : H s.heap.objs.size = none := I.hok.fresh (Nat.le_refl _)
  refine call_meetsIn PySem.F.slot_dict_values ⟨ob, ho, e1.1⟩ PySem.F.entry_dict_values (PySem.F.args_dict_values_1 _) (meets_dict_values (mixKind X.prog X.w) a lo) ⟨⟨vs, od⟩, ?_⟩
  refine ⟨.ref _, upd H s.heap.objs.size (ViewV s.heap.objs.size a), ?_, rfl, q _ fresh⟩
  refine I.laid (t' := s.toks) (fun b u e => Heap.get?_push_of_some _ e) (Nat.le_refl _) ?_
  have top := Heap.get?_push_size s.heap (o := { cls := .type "dict_values", data := .fields #[.ref a] }) rfl
  exact ⟨⟨_, top, rfl, rfl⟩, ⟨_, top⟩, fun h1 h2 ⟨o, k1, k2⟩ keep => ⟨o, keep o k1, k2⟩⟩
theorem vals_of_kv : ∀ {kvs : List (L2.Key × V)} {vs : List (L2.Key × Value)}, KV kvs vs → Vals (kvs.map (·.2)) (vs.map (·.2))
  | _, _, .nil => .nil
  | _, _, .cons r t => .cons r.2 (vals_of_kv t)
/-- list(d.values()), of the view -/
theorem call_lv (hc : X.calm = true) : CallR X (.type "list") (fun xs H Q => ∃ (p a : Addr) (kvs : List (L2.Key × V)), xs = [.ref p] ∧ H p = some (ViewV p a) ∧ H a = some (.dK kvs) ∧ ∀ l, H l = none → Q (.ref l) (upd H l (.lst (kvs.map (·.2))))) := by
  intro pins s σ H xs us Q I r
  rintro ⟨p, a, kvs, rfl, hp, hd, q⟩
  rw [Vals.ref1 r]
  obtain ⟨size, lo, vs, rel, od⟩ := dk_of I.hok hd
  obtain ⟨ep, da⟩ := od.dictAt
  obtain ⟨view, _⟩ := I.hok p _ hp
  have few : vs.length ≤ sizeLine := by
    rw [← Paired.length rel]
    exact size
  refine PySem.W.kdl_call (PySem.W.kdl_values (knd := mixKind X.prog X.w) (r := p) (kvs := vs) (ep := ep)) (I.ok.hd hc) ⟨view, da⟩ few ?_
  intro h' tk acc c' keep hD made
  have same : acc.toList = vs.map (·.2) := by
    refine List.ext_getElem? fun j => ?_
    by_cases hj : j < vs.length
    · have hs : j < acc.size := by
        rw [made.1]
        exact hj
      obtain ⟨k, hk⟩ := made.2 j acc[j] (Array.getElem?_eq_getElem hs)
      rw [Array.getElem?_toList, Array.getElem?_eq_getElem hs, List.getElem?_map, hk]
      rfl
    · rw [List.getElem?_eq_none (by rw [Array.length_toList, made.1]; omega), List.getElem?_eq_none (by rw [List.length_map]; omega)]
  have fresh : H s.heap.objs.size = none := I.hok.fresh (Nat.le_refl _)
  refine ⟨.ref _, upd H s.heap.objs.size (.lst (kvs.map (·.2))), I.laid (t' := tk) keep (Nat.le_refl _) ?_, rfl, q _ fresh⟩
  exact ⟨by rw [List.length_map]; exact size, acc.toList, c', by rw [same]; exact vals_of_kv rel, by rw [Array.toArray_toList]; exact hD⟩
end
end Lo
namespace Lo
open PySem L2
section
variable {P : Program} {w : World} {K : PySem.W.Frag} {mg : Str → Option Value} {base : Heap}
/-! ### _follows -/
def spFollows : Sp := fun vs H Q _ => ∃ (t ld : Addr) (l r : Str) (hs : List Str) (rows : List SRow) (v : Str → Int) (ns : List Str) (ra : Str → Addr) (rk : Str → List Str) (rv : Str → Str → Int), vs = [.ref t, .str l, .str r, .ref ld] ∧ TabOf H t rows ns ra rk rv ∧ Sat rows v ∧ l ∈ ns ∧ r ∈ rk l ∧ ns.length ≤ 250 ∧
  Rd H ld (.dK (dS hs fun _ => .bl true)) ∧ (∀ x ∈ ns, ra x ≠ ld) ∧ (∀ h ∈ hs, h ∈ ns) ∧ ∀ H' b, Same H H' → (b = true ↔ ∃ m ∈ hs, m ≠ l ∧ m ≠ r ∧ Tight rows l m r) → Q (.bl b) H'
abbrev nFollows : List Str := ["table", "left", "right", "leaders", "limit", "name", "first"]
theorem scFollows : FnScope nFollows ["table", "left", "right", "leaders"] (defScope sFollows) := ⟨rfl, rfl, rfl, by decide +kernel, rfl, by decide +kernel, by decide +kernel⟩
theorem ok_follows {f : Addr} {fd : FuncData} (F : Fun K "_follows" "_follows" sFollows f fd) : FnOk P w K mg base CX0 1 f fd ["table", "left", "right", "leaders"] spFollows := by
  refine F.ok scFollows (fun vs H Q E h => ?_) (fun cdv A outer s H vs Q E hr h => ?_)
  · obtain ⟨t, ld, l, r, hs, rows, v, ns, ra, rk, rv, rfl, _⟩ := h
    rfl
  · obtain ⟨t, ld, l, r, hs, rows, v, ns, ra, rk, rv, rfl, T, hv, hl, hrl, few, hld, nld, sub, q⟩ := h
    have nd := scFollows.nd
    have hu := hu_of hr
    refine ⟨_, pss_cons (ps_set (i := 4) nd rfl (.inl rfl) (pe_dget hu (pe_dget hu (pv 0) (pv 1) (fun _ _ => rfl)) (pv 2) (fun _ _ => rfl)))
      (pss_cons (ps_lock (ps_for PassesOwn.never rfl (pi_items (pe_dget hu (pv 0) (pv 1) (fun _ _ => rfl))) (pg_tup rfl (pgs_cons (pg_name (i := 5) nd rfl (.inl rfl)) (pgs_cons (pg_name (i := 6) nd rfl (.inl rfl)) pgs_nil)))
        (pss_one (ps_if (PW.pt (pw_and (pt_cmpR op_ne (pv 5) (pv 1) (nomark _)) (pw_and (pt_cmpR op_ne (pv 5) (pv 2) (nomark _)) (pw_and (pt_cmp (pc_din hu (pv 5) (pv 3))) (pw_and1 (pt_cmp (pc_din hu (pv 2) (pe_dget hu (pv 0) (pv 5) (fun _ _ => rfl)))))))))
          (pss_one (ps_if (pt_cmpR op_le (pe_op op_add (pv 6) (pe_dget hu (pe_dget hu (pv 0) (pv 5) (fun _ _ => rfl)) (pv 2) (fun _ _ => rfl))) (pv 4) (nomark _)) (pss_one (ps_ret pe_bl)) pss_nil)) pss_nil))))
      (pss_one (ps_ret pe_bl))), ?_⟩
    have hL := T.G.row l hl
    have ht := T.G.dict
    refine ⟨.ref t, rfl, .str l, rfl, t, _, rfl, dget ht hl, .str r, rfl, ra l, _, rfl, dget hL hrl, ?_⟩
    refine ⟨ra l, _, hL, trivial, fun od => ?_⟩
    have back : ∀ {H' : Hp}, SameX (ra l) H H' → Same H (upd H' (ra l) (.dK (dS (rk l) fun y => .int (rv l y)))) := fun sx => sameX_back hL sx
    have ht' : ∀ {H' : Hp}, SameX (ra l) H H' → H' t = some (.dK (dS ns fun x => .ref (ra x))) := fun {H'} sx => sx _ _ (fun e => T.G.off l hl e.symm) ht
    have rowR : ∀ {H' : Hp}, SameX (ra l) H H' → H' (ra l) = some (.frz od (.dK (dS (rk l) fun y => .int (rv l y)))) → ∀ {x : Str}, x ∈ ns → Rd H' (ra x) (.dK (dS (rk x) fun y => .int (rv x y))) := fun {H'} sx hf {x} hx => by
      by_cases e : ra x = ra l
      · have z := T.G.row x hx
        rw [e, hL] at z
        injection z with z
        rw [e]
        exact .inr ⟨od, z ▸ hf⟩
      · exact .inl (sx _ _ e (T.G.row x hx))
    have ldR : ∀ {H' : Hp}, SameX (ra l) H H' → Rd H' ld (.dK (dS hs fun _ => .bl true)) := fun {H'} sx => by
      have ne : ld ≠ ra l := fun e => nld l hl e.symm
      rcases hld with h | ⟨o, h⟩
      · exact .inl (sx _ _ ne h)
      · exact .inr ⟨o, sx _ _ ne h⟩
    have key : ∀ {m : Str}, m ∈ hs → (Tight rows l m r ↔ m ∈ rk l ∧ r ∈ rk m ∧ rv l m + rv m r ≤ rv l r) := fun {m} hm => by
      have mn := sub m hm
      constructor
      · rintro ⟨x, y, z, h1, h2, h3, h4⟩
        have m1 : m ∈ rk l := Classical.byContradiction fun n => by
          rw [T.out hl n] at h1
          cases h1
        have m2 : r ∈ rk m := Classical.byContradiction fun n => by
          rw [T.out mn n] at h2
          cases h2
        rw [T.val hl m1] at h1
        rw [T.val mn m2] at h2
        rw [T.val hl hrl] at h3
        injection h1 with h1
        injection h2 with h2
        injection h3 with h3
        exact ⟨m1, m2, by omega⟩
      · rintro ⟨m1, m2, h⟩
        exact ⟨_, _, _, T.val hl m1, T.val mn m2, T.val hl hrl, h⟩
    refine ⟨.ref t, rfl, .str l, rfl, t, _, rfl, dget (by rw [upd_ne fun e => T.G.off l hl e.symm]; exact ht) hl, ra l, od, _, rfl, upd_same, for_it walk_items (fun i σ H' => ∃ (y5 y6 : Option V), σ = [some (.ref t), some (.str l), some (.str r), some (.ref ld), some (.int (rv l r)), y5, y6] ∧ SameX (ra l) H H' ∧
        H' (ra l) = some (.frz od (.dK (dS (rk l) fun y => .int (rv l y)))) ∧ ∀ m ∈ (rk l).take i, ¬ (m ∈ hs ∧ m ≠ l ∧ m ≠ r ∧ Tight rows l m r))
      ⟨none, none, rfl, fun b o hb e => by rw [upd_ne hb]; exact e, upd_same, fun m h => absurd h List.not_mem_nil⟩ (fun i σ H' _ ⟨_, _, _, _, e, _⟩ => e) ?_ ?_⟩
    · rintro i z σ H6 H7 hi ⟨y5, y6, rfl, s6, hd6, prev⟩ ⟨tp, x1, x2, rfl, ntp, rfl, e1, e2⟩
      have hi' : i < (rk l).length := by
        rw [dS_len] at hi
        exact hi
      dsimp only at e1 e2
      rw [dS_at hi'] at e1 e2
      obtain rfl := Option.some.inj e1
      obtain rfl := Option.some.inj e2
      have sT := same_upd (o := HO.tup [kV (Sum.inr (rk l)[i]), V.int (rv l (rk l)[i])]) ntp
      have etake : (rk l).take (i + 1) = (rk l).take i ++ [(rk l)[i]] := by rw [List.take_add_one, List.getElem?_eq_getElem hi']; rfl
      have hm : (rk l)[i] ∈ rk l := List.getElem_mem hi'
      have s7 := s6.trans (same_x sT)
      have hd7 := sT _ _ hd6
      refine ⟨tp, _, rfl, SqT.of upd_same, rfl, _, _, rfl, _, _, rfl, rfl, ?_⟩
      rw [etake]
      generalize upd H6 tp (.tup [kV (Sum.inr (rk l)[i]), V.int (rv l (rk l)[i])]) = H7 at s7 hd7 ⊢
      generalize (rk l)[i] = m at *
      have no : ¬ (m ∈ hs ∧ m ≠ l ∧ m ≠ r ∧ Tight rows l m r) → ∀ (z5 z6 : Option V), ∃ (y5 y6 : Option V), [some (V.ref t), some (.str l), some (.str r), some (.ref ld), some (.int (rv l r)), z5, z6] = [some (V.ref t), some (.str l), some (.str r), some (.ref ld), some (.int (rv l r)), y5, y6] ∧ SameX (ra l) H H7 ∧
          H7 (ra l) = some (.frz od (.dK (dS (rk l) fun y => .int (rv l y)))) ∧ ∀ g ∈ (rk l).take i ++ [m], ¬ (g ∈ hs ∧ g ≠ l ∧ g ≠ r ∧ Tight rows l g r) := fun ne z5 z6 => by
        refine ⟨z5, z6, rfl, s7, hd7, fun g hg => ?_⟩
        rcases List.mem_append.mp hg with k | k
        · exact prev g k
        · rw [List.mem_singleton] at k
          exact k ▸ ne
      refine ⟨.str m, rfl, _, rfl, rfl, _, rfl, ?_⟩
      rw [ne_dec]
      refine ite2 (fun c1 => ?_) (fun c1 => ?_)
      · have c1 : m ≠ l := of_decide_eq_true c1
        refine ⟨.str m, rfl, _, rfl, rfl, _, rfl, ?_⟩
        rw [ne_dec]
        refine ite2 (fun c2 => ?_) (fun c2 => ?_)
        · have c2 : m ≠ r := of_decide_eq_true c2
          by_cases c3 : m ∈ hs
          · have mn := sub m c3
            refine ⟨.str m, rfl, .ref ld, rfl, ld, _, rfl, rget (ldR s7) c3, _, rfl, iteT ?_⟩
            by_cases c4 : r ∈ rk m
            · refine ⟨.str r, rfl, .ref t, rfl, .str m, rfl, t, _, rfl, dget (ht' s7) mn, ra m, _, rfl, rget (rowR s7 hd7 mn) c4, _, rfl, iteT ?_⟩
              refine ⟨.int (rv l m), rfl, .ref t, rfl, .str m, rfl, t, _, rfl, dget (ht' s7) mn, .str r, rfl, ra m, _, rfl, rget (rowR s7 hd7 mn) c4, _, _, rfl, rfl, .int (rv l r), rfl, _, _, rfl, rfl, _, rfl, ite2 (fun c5 => ?_) (fun c5 => ?_)⟩
              · exact ⟨hd7, q _ true (back s7) ⟨fun _ => ⟨m, c3, c1, c2, (key c3).mpr ⟨hm, c4, of_decide_eq_true c5⟩⟩, fun _ => rfl⟩⟩
              · exact no (fun h => c5 (decide_eq_true ((key c3).mp h.2.2.2).2.2)) _ _
            · refine ⟨.str r, rfl, .ref t, rfl, .str m, rfl, t, _, rfl, dget (ht' s7) mn, ra m, _, rfl, rget0 (rowR s7 hd7 mn) c4, _, rfl, iteF (no (fun h => c4 ((key c3).mp h.2.2.2).2.1) _ _)⟩
          · exact ⟨.str m, rfl, .ref ld, rfl, ld, _, rfl, rget0 (ldR s7) c3, _, rfl, iteF (no (fun h => c3 h.1) _ _)⟩
        · have c2 : m = r := Classical.byContradiction fun n => c2 (decide_eq_true n)
          exact iteF (no (fun h => h.2.2.1 c2) _ _)
      · have c1 : m = l := Classical.byContradiction fun n => c1 (decide_eq_true n)
        exact iteF (no (fun h => h.2.1 c1) _ _)
    · rintro σ H6 ⟨y5, y6, rfl, s6, hd6, prev⟩
      rw [dS_len, List.take_length] at prev
      refine ⟨hd6, q _ false (back s6) ⟨(fun z => nomatch z), fun ⟨m, m1, m2, m3, m4⟩ => absurd ⟨m1, m2, m3, m4⟩ (prev m ((key m1).mp m4).1)⟩⟩
end
end Lo
namespace Lo
open PySem L2
/-- tied, as a test -/
noncomputable def eqB (rows : List SRow) (a b : Str) : Bool := @decide (Eqv rows a b) (Classical.propDecidable _)
theorem eqB_iff {rows : List SRow} {a b : Str} : eqB rows a b = true ↔ Eqv rows a b := by
  unfold eqB
  exact @decide_eq_true_iff _ (Classical.propDecidable _)
theorem eqB_no {rows : List SRow} {a b : Str} (h : ¬ Eqv rows a b) : eqB rows a b = false := by
  cases e : eqB rows a b with
  | false => rfl
  | true => exact absurd (eqB_iff.mp e) h
theorem filter_one {p : Str → Bool} {x : Str} (h : p x = true) : [x].filter p = [x] := by rw [List.filter_cons, if_pos h, List.filter_nil]
theorem eqB_eqq {rows : List SRow} {v : Str → Int} (hv : Sat rows v) : Eqq (eqB rows) :=
  ⟨fun a => eqB_iff.mpr (eqv_refl hv a), fun a b h => eqB_iff.mpr (eqB_iff.mp h).symm, fun a b c h k => eqB_iff.mpr ((eqB_iff.mp h).trans hv (eqB_iff.mp k))⟩
section
variable {P : Program} {w : World} {K : PySem.W.Frag} {mg : Str → Option Value} {base : Heap}
/-! ### _groups -/
def spGroups : Sp := fun vs H Q _ => ∃ (t : Addr) (rows : List SRow) (v : Str → Int) (ns : List Str) (ra : Str → Addr) (rk : Str → List Str) (rv : Str → Str → Int), vs = [.ref t] ∧ TabOf H t rows ns ra rk rv ∧ Sat rows v ∧ ns.length < 60 ∧
  ∀ (H' : Hp) (p : Addr) (ms : List Str) (ga : Str → Addr), Same H H' → ms.Nodup → (∀ x, x ∈ ms ↔ x ∈ ns) → H' p = some (.lst ((headsOf (eqB rows) ms).map fun h => V.ref (ga h))) → (∀ h ∈ headsOf (eqB rows) ms, H' (ga h) = some (.lst ((ms.filter (eqB rows h)).map V.str))) → Q (.ref p) H'
abbrev nGroups : List Str := ["table", "found", "leaders", "name", "leader"]
theorem scGroups : FnScope nGroups ["table"] (defScope sGroups) := ⟨rfl, rfl, rfl, by decide +kernel, rfl, by decide +kernel, by decide +kernel⟩
theorem ok_groups {f fO fL : Addr} {fd fdO fdL : FuncData} (F : Fun K "_groups" "_groups" sGroups f fd) (T : Blt mg)
    (GO : FnOk P w K mg base CX0 1 fO fdO ["table"] spInOrder) (kO : PySem.W.keepIn K (.ref fO) = true) (bO : Binds K fdO ["table"] []) (gO : mg "_in_order" = some (.ref fO))
    (GL : FnOk P w K mg base CX0 1 fL fdL ["table", "name", "leaders"] spLeader) (kL : PySem.W.keepIn K (.ref fL) = true) (bL : Binds K fdL ["table", "name", "leaders"] []) (gL : mg "_leader" = some (.ref fL)) :
    FnOk P w K mg base CX0 2 f fd ["table"] spGroups := by
  refine F.ok scGroups (fun vs H Q E h => ?_) (fun cdv A outer s H vs Q E hr h => ?_)
  · obtain ⟨t, rows, v, ns, ra, rk, rv, rfl, _⟩ := h
    rfl
  · obtain ⟨t, rows, v, ns, ra, rk, rv, rfl, TO, hv, few, q⟩ := h
    have nd := scGroups.nd
    have hu := hu_of hr
    have eq := eqB_eqq hv
    refine ⟨_, pss_cons (ps_set (i := 1) nd rfl (.inl rfl) pe_dnewK)
      (pss_cons (ps_set (i := 2) nd rfl (.inl rfl) (pe_lst pa_nil))
      (pss_cons (ps_for PassesOwn.never rfl (pi_list (pe_call GO hr (by rfl) gO kO bO .nil pass0 (pa_cons (pv 0) pa_nil))) (pg_name (i := 3) nd rfl (.inl rfl))
        (pss_cons (ps_set (i := 4) nd rfl (.inl rfl) (pe_call GL hr (by rfl) gL kL bL .nil pass0 (pa_cons (pv 0) (pa_cons (pv 3) (pa_cons (pv 2) pa_nil)))))
        (pss_one (ps_if (pt_cmpR op_isN (pv 4) pe_non (nomark _))
          (pss_cons (ps_dput hu (pv 1) (pv 3) (pe_lst (pa_cons (pv 3) pa_nil)) rfl)
          (pss_one (ps_expr (pe_bm PySem.F.plainAttrs_list PySem.F.slot_list_append PySem.F.type_list_append mt_append (pv 2) (pa_cons (pv 3) pa_nil)))))
          (pss_one (ps_expr (pe_bm PySem.F.plainAttrs_list PySem.F.slot_list_append PySem.F.type_list_append mt_append (pe_dget hu (pv 1) (pv 4) (fun _ _ => rfl)) (pa_cons (pv 3) pa_nil))))))))
      (pss_one (ps_ret (pe_callTy (call_lv rfl) (by rfl) T.list PyProof.Rows.boot_list (pa_cons (pe_bm0 PySem.F.plainAttrs_dict PySem.F.slot_dict_values PySem.F.type_dict_values mt_vals (pv 1)) pa_nil)))))), ?_⟩
    intro fo nfo
    have s1 := same_upd (o := HO.dK []) nfo
    refine ⟨Nat.zero_le _, fun hl nhl => ?_⟩
    have s2 := same_upd (o := HO.lst []) nhl
    have s12 := s1.trans s2
    have fhl : H hl = none := s1.free nhl
    have nfh : fo ≠ hl := fun e => by
      rw [← e, upd_same] at nhl
      cases nhl
    refine ⟨.ref t, rfl, t, ns, _, rfl, s12 _ _ TO.G.dict, TO.G.nd, few, fun H3 oa ms s3 noa hoa mnd mem => ?_⟩
    have mlen : ms.length < 60 := by
      have := nodup_le ms ns mnd fun x hx => (mem x).mp hx
      omega
    have hfo3 := s3 _ _ (s2 _ _ upd_same)
    have hhl3 := s3 _ _ upd_same
    have s13 := s12.trans s3
    have foa : H oa = none := s12.free noa
    have noh : oa ≠ hl := fun e => by
      rw [e, upd_same] at noa
      cases noa
    refine ⟨oa, rfl, ⟨_, SqL.of hoa⟩, for_list (K := K) (a := oa) (xs := ms.map V.str) (fun i σ H' => ∃ (y3 y4 : Option V) (ga : Str → Addr), σ = [some (.ref t), some (.ref fo), some (.ref hl), y3, y4] ∧ Same H H' ∧ H' fo = some (.dK (dS (headsOf (eqB rows) (ms.take i)) fun h => .ref (ga h))) ∧
        H' hl = some (.lst ((headsOf (eqB rows) (ms.take i)).map V.str)) ∧ H' oa = some (.lst (ms.map V.str)) ∧ (∀ h ∈ headsOf (eqB rows) (ms.take i), H' (ga h) = some (.lst (((ms.take i).filter (eqB rows h)).map V.str)) ∧ H (ga h) = none ∧ ga h ≠ hl ∧ ga h ≠ oa) ∧
        (∀ h ∈ headsOf (eqB rows) (ms.take i), ∀ g ∈ headsOf (eqB rows) (ms.take i), ga h = ga g → h = g))
      ⟨none, none, fun _ => 0, rfl, s13, hfo3, hhl3, hoa, fun h m => absurd m List.not_mem_nil, fun h m => absurd m List.not_mem_nil⟩ (fun i σ H' _ ⟨_, _, _, _, _, _, _, e, _⟩ => SqL.of e) ?_ ?_⟩
    · rintro i z σ H4 hi ⟨y3, y4, ga, rfl, s4, hfo, hhl, hoa4, rowsG, inj⟩
      have hi1 : i < ms.length := by
        have := (List.getElem?_eq_some_iff.mp hi).1
        rw [List.length_map] at this
        exact this
      obtain rfl : z = .str ms[i] := by
        rw [List.getElem?_map, List.getElem?_eq_getElem hi1] at hi
        exact (Option.some.inj hi).symm
      have etake : ms.take (i + 1) = ms.take i ++ [ms[i]] := by rw [List.take_add_one, List.getElem?_eq_getElem hi1]; rfl
      have hx : ms[i] ∈ ns := (mem _).mp (List.getElem_mem hi1)
      have Hh := heads_ok eq (ms.take i)
      have tlen : (ms.take i).length ≤ 60 := by
        rw [List.length_take]
        omega
      have tsub : ∀ y ∈ ms.take i, y ∈ ns := fun y hy => (mem y).mp (List.mem_of_mem_take hy)
      rw [etake, headsOf_snoc]
      generalize ms[i] = x at *
      generalize ms.take i = seen at *
      generalize headsOf (eqB rows) seen = hs at *
      have hlen : hs.length ≤ 60 := Nat.le_trans (nodup_le hs seen (Hh.nodup eq) Hh.sub) tlen
      have hT := TO.same s4
      refine ⟨.ref t, rfl, .str x, rfl, .ref hl, rfl, t, hl, x, hs, rows, v, ns, ra, rk, rv, rfl, hT, hv, hx, hhl, fun h m => tsub h (Hh.sub h m), fun g hg ev => ?_, fun no => ?_⟩
      · -- it has a leader
        refine ⟨_, rfl, rfl, _, rfl, iteF ?_⟩
        obtain ⟨h1, h2, h3, h4⟩ := rowsG g hg
        have st : hstep (eqB rows) hs x = hs := by
          unfold hstep
          exact if_pos (List.any_eq_true.mpr ⟨g, hg, (eqB_iff (a := g) (b := x)).mpr ev⟩)
        rw [st]
        have ngf : ga g ≠ fo := ne_of h1 hfo (by intro z; cases z)
        refine ⟨.ref fo, rfl, .str g, rfl, fo, _, rfl, dget hfo hg, .inl ⟨rfl, _, SqL.of h1⟩, .str x, rfl, ga g, _, _, rfl, rfl, h1, ?_, ?_⟩
        · rw [List.length_map]
          have := List.length_filter_le (eqB rows g) seen
          exact small1000 (by omega)
        · refine ⟨_, _, ga, rfl, s4.later h2, by rw [upd_ne ngf.symm]; exact hfo, by rw [upd_ne h3.symm]; exact hhl, by rw [upd_ne h4.symm]; exact hoa4, fun h hh => ?_, inj⟩
          obtain ⟨g1, g2, g3, g4⟩ := rowsG h hh
          refine ⟨?_, g2, g3, g4⟩
          rw [List.filter_append]
          by_cases e : h = g
          · subst e
            rw [upd_same, filter_one (eqB_iff.mpr ev), List.map_append]
            rfl
          · have ne : ga h ≠ ga g := fun z => e (inj h hh g hg z)
            have ex : eqB rows h x = false := by
              cases z : eqB rows h x with
              | false => rfl
              | true => exact absurd (Hh.one eq h hh g hg (eq.trans _ _ _ z (eq.symm _ _ (eqB_iff.mpr ev)))) e
            rw [upd_ne ne, show [x].filter (eqB rows h) = [] by rw [List.filter_cons, ex]; rfl, List.append_nil]
            exact g1
      · -- a new one
        refine ⟨_, rfl, rfl, _, rfl, iteT ?_⟩
        have nx : x ∉ hs := fun m => no x m (eqv_refl hv x)
        have st : hstep (eqB rows) hs x = hs ++ [x] := if_neg fun k => by
          obtain ⟨h, hh, eh⟩ := List.any_eq_true.mp k
          exact no h hh (eqB_iff.mp eh)
        have ead : addN hs x = hs ++ [x] := if_neg nx
        rw [st]
        refine ⟨.str x, rfl, by show 1 ≤ sizeLine; decide, fun z nz => ?_⟩
        have s5 := same_upd (o := HO.lst [V.str x]) nz
        refine ⟨.ref fo, rfl, .str x, rfl, fo, _, rfl, dput x (.ref z) (s5 _ _ hfo) (by omega), ?_⟩
        have nzf : z ≠ fo := fun e => by
          rw [e, hfo] at nz
          cases nz
        have nzh : z ≠ hl := fun e => by
          rw [e, hhl] at nz
          cases nz
        have nzo : z ≠ oa := fun e => by
          rw [e, hoa4] at nz
          cases nz
        rw [put_map (fun n : Addr => V.ref n)]
        have hhl6 : upd (upd H4 z (.lst [.str x])) fo (.dK (dS (addN hs x) fun h => .ref (put ga x z h))) hl = some (.lst (hs.map V.str)) := by
          rw [upd_ne nfh.symm]
          exact s5 _ _ hhl
        have nfoa : fo ≠ oa := ne_of hfo hoa4 (by intro z; cases z)
        refine ⟨.ref hl, rfl, .inl ⟨rfl, _, SqL.of hhl6⟩, .str x, rfl, hl, _, _, rfl, rfl, hhl6, by rw [List.length_map]; exact small1000 (by omega), ?_⟩
        have old : ∀ b o, b ≠ fo → b ≠ hl → H4 b = some o → upd (upd (upd H4 z (.lst [.str x])) fo (.dK (dS (addN hs x) fun h => .ref (put ga x z h)))) hl (.lst (hs.map V.str ++ [.str x])) b = some o := fun b o b1 b2 e => by
          rw [upd_ne b2, upd_ne b1]
          exact s5 _ _ e
        refine ⟨_, _, put ga x z, rfl, (((s4.trans s5).later nfo).later fhl), ?_, ?_, old _ _ nfoa.symm noh hoa4, fun h hh => ?_, fun h hh g hg e => ?_⟩
        · rw [upd_ne nfh, upd_same, ead]
        · rw [upd_same, List.map_append]
          rfl
        · rw [List.filter_append]
          rcases List.mem_append.mp hh with m | m
          · have nh : h ≠ x := fun e => nx (e ▸ m)
            obtain ⟨g1, g2, g3, g4⟩ := rowsG h m
            rw [put_off nh]
            refine ⟨?_, g2, g3, g4⟩
            rw [show [x].filter (eqB rows h) = [] by rw [List.filter_cons, eqB_no (no h m)]; rfl, List.append_nil]
            exact old _ _ (ne_of g1 hfo (by intro z; cases z)) g3 g1
          · rw [List.mem_singleton] at m
            subst m
            rw [put_at]
            refine ⟨?_, s4.free nz, nzh, nzo⟩
            have none : seen.filter (eqB rows h) = [] := List.filter_eq_nil_iff.mpr fun y hy hy2 => by
              obtain ⟨g, hg, eg⟩ := Hh.cover y hy
              exact no g hg (eqB_iff.mp (eq.trans _ _ _ eg (eq.symm _ _ hy2)))
            rw [none, filter_one (eq.refl h), upd_ne nzh, upd_ne nzf, upd_same]
            rfl
        · have away : ∀ h ∈ hs, ga h ≠ z := fun h m e => by
            have := (rowsG h m).1
            rw [e, nz] at this
            cases this
          by_cases a1 : h = x
          · by_cases a2 : g = x
            · rw [a1, a2]
            · rw [a1, put_at, put_off a2] at e
              exact absurd e.symm (away g ((List.mem_append.mp hg).resolve_right fun w => a2 (List.mem_singleton.mp w)))
          · by_cases a2 : g = x
            · rw [a2, put_at, put_off a1] at e
              exact absurd e (away h ((List.mem_append.mp hh).resolve_right fun w => a1 (List.mem_singleton.mp w)))
            · rw [put_off a1, put_off a2] at e
              exact inj h ((List.mem_append.mp hh).resolve_right fun w => a1 (List.mem_singleton.mp w)) g ((List.mem_append.mp hg).resolve_right fun w => a2 (List.mem_singleton.mp w)) e
    · rintro σ H4 ⟨y3, y4, ga, rfl, s4, hfo, hhl, hoa4, rowsG, inj⟩
      rw [List.length_map, List.take_length] at hfo rowsG
      refine ⟨.ref fo, rfl, .inr (.inr (.inl ⟨rfl, .inl ⟨_, hfo⟩⟩)), fo, _, rfl, rfl, hfo, fun vw nvw => ?_⟩
      have s5 := same_upd (o := ViewV vw fo) nvw
      refine ⟨vw, fo, _, rfl, upd_same, s5 _ _ hfo, fun p np => ?_⟩
      have s6 := same_upd (o := HO.lst ((dS (headsOf (eqB rows) ms) fun h => V.ref (ga h)).map (·.2))) np
      refine q _ p ms ga ((s4.trans s5).trans s6) mnd mem ?_ fun h hh => s6 _ _ (s5 _ _ (rowsG h hh).1)
      rw [upd_same]
      unfold dS
      rw [List.map_map]
      rfl
end
end Lo
namespace Lo
open PySem PySem.Spec L2 PyProof.Rows
section
variable {X : Cx}
/-- y = {k: v for ..}, as the name's own store -/
theorem sw_dict {ke ve : Expr} {cs : List Comprehension} {sc : Scope} {p1 p2 : Pos} {y : Str} {n : Nat} {env : Env}
    (k1 : env.scope.kind = .function) (k2 : env.scope.names.lookup y = some .local)
    (k3 : (p2.line == p1.line) = true) (k4 : (sc.names.any fun (a, b) => a == y && (b == .local || b == .cell)) = false) :
    swapsWith (.DictComp ke ve cs sc p1) (some (.Name y p2)) n env = pure true := by
  have q1 : env.kindOf y = some .local := k2
  have q2 : env.blockKind = .function := by
    unfold Env.blockKind
    rw [k1]
    rfl
  unfold swapsWith
  simp only [q2, q1, k4, Expr.pos, k3]
  rfl
theorem ps_setDc {i : Nat} {y : Str} {p2 : Pos} {ke ve tg it : Expr} {cond : List Expr} {sc : Scope}
    {own : List (Str × Nat)} {p1 p3 : Pos} {wi : TI} {g : TG} {tt : TT} {tk tv : TE}
    (calm : X.calm = true) (nd : X.N.Nodup) (slot : X.N[i]? = some y) (loc : X.env.scope.names.lookup y = some .local)
    (sw : swapsWith (.DictComp ke ve [⟨tg, it, cond, 0⟩] sc p1) (some (.Name y p2)) p3.line X.env = pure true)
    (walk : PI X tg it wi) (blk : BlkOk X.N X.env.scope sc own)
    (pg : ∀ s H C cl fp, PG (X.blk s H sc (compEnvC sc cl C X.env) fp) tg g)
    (pt : ∀ s H C cl fp, PTs (X.blk s H sc (compEnvC sc cl C X.env) fp) cond tt)
    (pk : ∀ s H C cl fp, PE (X.blk s H sc (compEnvC sc cl C X.env) fp) ke tk)
    (pv : ∀ s H C cl fp, PE (X.blk s H sc (compEnvC sc cl C X.env) fp) ve tv)
    (fold : ∀ x, foldedSetIterable it X.env x = pure x := by intro _; rfl) :
    PS X (.Assign [.Name y p2] (.DictComp ke ve [⟨tg, it, cond, 0⟩] sc p1) p3) (tAsg (tDc wi g tt tk tv (own.map (·.2))) (gName i)) := by
  constructor
  intro pins s σ H Ds I read
  rw [exec_Assign_Name_used _ _ _ _ sw]
  apply wpAny_bind
  apply wpAny_standAt
  apply wpAny_bind
  have read : tDc wi g tt tk tv (own.map (·.2)) σ H (fun x H1 => gName i x σ H1 Ds.nx) := read
  refine wpAny_bind (thn (dc_core (use := some (assign (.Name y p2) X.env)) (Qf := fun _ s' => SP X pins Ds .next s') calm nd I walk blk pg pt pk pv fold read fun L C s' m H' J hq hn fp => ?_) fun _ s' last => wpAny_pure (wpAny_pure last))
  show wpAny _ _ (assign (.Name y p2) X.env (.ref L)) _ _ _
  apply wpAny_assign_Name
  refine store_ok2 (v := V.ref L) J nd slot (.inl loc) rfl (fun s2 J2 ⟨b, but, which⟩ => ?_) (.inr loc)
  obtain ⟨f0, f1, f2, f3, f4, f5⟩ := fp
  have apart : C ≠ b := by
    cases which with
    | inl w => exact w ▸ f1
    | inr w => exact fun same => f4 y b w same.symm
  refine ⟨m, hn.sameBut but apart, fun h3 but3 => ⟨_, H', ?_, hq⟩⟩
  exact J2.turned (t' := s2.toks) (fun c o hc e => (but3.2 c hc).trans e) f0 f1 f3 f4 f5
end
end Lo
namespace Lo
open PySem L2
/-- the greatest value, as a number -/
noncomputable def Wt (rows : List SRow) (a b : Str) : Int := (D rows a b).getD 0
theorem Wt_of {rows : List SRow} {a b : Str} {k : Int} (h : D rows a b = some k) : Wt rows a b = k := by
  unfold Wt
  rw [h]
  rfl
noncomputable def cB (rows : List SRow) (hs : List Str) (a b : Str) : Bool := @decide (a ≠ b ∧ D rows a b ≠ none ∧ ∀ m ∈ hs, m ≠ a → m ≠ b → ¬ Tight rows a m b) (Classical.propDecidable _)
theorem cB_iff {rows : List SRow} {hs : List Str} {a b : Str} : cB rows hs a b = true ↔ a ≠ b ∧ D rows a b ≠ none ∧ ∀ m ∈ hs, m ≠ a → m ≠ b → ¬ Tight rows a m b := by
  unfold cB
  exact @decide_eq_true_iff _ (Classical.propDecidable _)
theorem cB_no {rows : List SRow} {hs : List Str} {a b : Str} (h : ¬ (a ≠ b ∧ D rows a b ≠ none ∧ ∀ m ∈ hs, m ≠ a → m ≠ b → ¬ Tight rows a m b)) : cB rows hs a b = false := by
  cases e : cB rows hs a b with
  | false => rfl
  | true => exact absurd (cB_iff.mp e) h
theorem tests_ok {rows : List SRow} {v : Str → Int} (hv : Sat rows v) (hs : List Str) : Tests rows hs (eqB rows) (Wt rows) (cB rows hs) := ⟨fun a b => eqB_iff, fun a b k h => Wt_of h, fun a b _ _ => cB_iff⟩
theorem fmod_next (j n : Nat) (h : 0 < n) : (((j : Nat) : Int) + 1).fmod ((n : Nat) : Int) = (((j + 1) % n : Nat) : Int) := by
  rw [Int.fmod_eq_emod_of_nonneg _ (Int.natCast_nonneg n)]
  exact_mod_cast rfl
theorem put_true_const (x : Str) : put (fun _ : Str => V.bl true) x (.bl true) = fun _ => V.bl true := by
  funext z
  unfold put
  split <;> rfl
/-- one more row, appended -/
theorem sys_push {H : Hp} {fa t : Addr} {ps : List Addr} {E : List SRow} {r : SRow} (h1 : H fa = some (.lst (ps.map V.ref))) (h2 : ps.length = E.length) (h3 : ∀ (i : Nat) (p : Addr) (r : SRow), ps[i]? = some p → E[i]? = some r → RowT H p r) (ht : H t = some (.tup (rowV r))) :
    Sys RowT (upd H fa (.lst (ps.map V.ref ++ [.ref t]))) fa (E ++ [r]) := by
  have keep : ∀ (p : Addr) (xs : List V), H p = some (.tup xs) → upd H fa (.lst (ps.map V.ref ++ [.ref t])) p = some (.tup xs) := fun p xs e => by
    rw [upd_ne (ne_of e h1 (by intro z; cases z))]
    exact e
  refine ⟨ps ++ [t], by rw [upd_same, List.map_append]; rfl, by rw [List.length_append, List.length_append, h2]; rfl, fun j p q hp hq => ?_⟩
  by_cases k : j < ps.length
  · rw [List.getElem?_append_left k] at hp
    rw [List.getElem?_append_left (by omega)] at hq
    exact keep p _ (h3 j p q hp hq)
  · have hj := (List.getElem?_eq_some_iff.mp hp).1
    rw [List.length_append, List.length_singleton] at hj
    have ej : j = ps.length := by omega
    subst ej
    rw [List.getElem?_append_right (Nat.le_refl _), Nat.sub_self] at hp
    rw [List.getElem?_append_right (by omega), h2, Nat.sub_self] at hq
    obtain rfl : t = p := Option.some.inj hp
    obtain rfl : r = q := Option.some.inj hq
    exact keep t _ ht
section
variable {P : Program} {w : World} {K : PySem.W.Frag} {mg : Str → Option Value} {base : Heap}
/-! ### fewest_of -/
def spFewestOf : Sp := fun vs H Q _ => ∃ (t : Addr) (rows : List SRow) (v : Str → Int) (ns : List Str) (ra : Str → Addr) (rk : Str → List Str) (rv : Str → Str → Int), vs = [.ref t] ∧ TabOf H t rows ns ra rk rv ∧ Sat rows v ∧ ns.length ≤ 20 ∧
  ∀ (H' : Hp) (p : Addr) (ms : List Str), Same H H' → ms.Nodup → (∀ x, x ∈ ms ↔ x ∈ ns) → Sys RowT H' p (edgesE (eqB rows) (Wt rows) (cB rows (headsOf (eqB rows) ms)) (headsOf (eqB rows) ms) ms) → Q (.ref p) H'
abbrev nFewestOf : List Str := ["table", "groups", "found", "members", "at", "left", "right", "leaders"]
theorem scFewestOf : FnScope nFewestOf ["table"] (defScope sFewestOf) := ⟨rfl, rfl, rfl, by decide +kernel, rfl, by decide +kernel, by decide +kernel⟩
theorem ok_fewestof {f fG fO : Addr} {fd fdG fdO : FuncData} (F : Fun K "fewest_of" "fewest_of" sFewestOf f fd) (T : Blt mg)
    (GG : FnOk P w K mg base CX0 2 fG fdG ["table"] spGroups) (kG : PySem.W.keepIn K (.ref fG) = true) (bG : Binds K fdG ["table"] []) (gG : mg "_groups" = some (.ref fG))
    (GO : FnOk P w K mg base CX0 1 fO fdO ["table", "left", "right", "leaders"] spFollows) (kO : PySem.W.keepIn K (.ref fO) = true) (bO : Binds K fdO ["table", "left", "right", "leaders"] []) (gO : mg "_follows" = some (.ref fO)) :
    FnOk P w K mg base CX0 3 f fd ["table"] spFewestOf := by
  refine F.ok scFewestOf (fun vs H Q E h => ?_) (fun cdv A outer s H vs Q E hr h => ?_)
  · obtain ⟨t, rows, v, ns, ra, rk, rv, rfl, _⟩ := h
    rfl
  · obtain ⟨t, rows, v, ns, ra, rk, rv, rfl, TO, hv, few, q⟩ := h
    have nd := scFewestOf.nd
    have hu := hu_of hr
    have eq := eqB_eqq hv
    refine ⟨_, pss_cons (ps_set (i := 1) nd rfl (.inl rfl) (pe_call GG hr (by rfl) gG kG bG .nil pass0 (pa_cons (pv 0) pa_nil)))
      (pss_cons (ps_set (i := 2) nd rfl (.inl rfl) (pe_lst pa_nil))
      (C8.pss_cut (ps_for PassesOwn.never rfl (pi_list (pv 1)) (pg_name (i := 3) nd rfl (.inl rfl))
        (pss_one (ps_if (pt_cmpR op_gt (pe_callB call_len_seq (by rfl) T.len PySem.boot_len (pa_cons (pv 3) pa_nil)) pe_int (nomark _))
          (pss_one (ps_for PassesOwn.never rfl (pi_enum (by rfl) T.enum (pa_cons (pv 3) pa_nil)) (pg_tup rfl (pgs_cons (pg_name (i := 4) nd rfl (.inl rfl)) (pgs_cons (pg_name (i := 5) nd rfl (.inl rfl)) pgs_nil)))
            (pss_cons (ps_set (i := 6) nd rfl (.inl rfl) (pe_ix ix_list (pv 3) (pe_op op_modN (pe_op op_add (pv 4) pe_int) (pe_callB call_len_seq (by rfl) T.len PySem.boot_len (pa_cons (pv 3) pa_nil))) (fun _ _ => rfl)))
            (pss_one (ps_expr (pe_bm PySem.F.plainAttrs_list PySem.F.slot_list_append PySem.F.type_list_append mt_append (pv 2) (pa_cons (pe_tup (pa_cons (pv 5) (pa_cons (pv 6) (pa_cons (pe_dget hu (pe_dget hu (pv 0) (pv 5) (fun _ _ => rfl)) (pv 6) (fun _ _ => rfl)) pa_nil)))) pa_nil))))))) pss_nil)))
      (pss_cons (ps_setDc (i := 7) (own := [("members", 3)]) (g := gName 3) (tt := tYes) rfl nd rfl rfl (sw_dict rfl rfl rfl (by decide +kernel)) (pi_list (pv 1)) (blkOk_by (N := nFewestOf) (sc := defScope sFewestOf) (by decide +kernel))
          (fun _ _ _ _ _ => pg_name (i := 3) nd rfl (.inl rfl)) (fun _ _ _ _ _ => pts_nil) (fun _ _ _ _ _ => pe_ix (r := rIxL K) ix_list (pv 3) pe_int (fun _ _ => rfl)) (fun _ _ _ _ _ => pe_bl))
      (pss_cons (ps_lock (ps_for PassesOwn.never rfl (pi_keys (pv 7)) (pg_name (i := 5) nd rfl (.inl rfl))
        (pss_one (ps_for PassesOwn.never rfl (pi_keys (pv 7)) (pg_name (i := 6) nd rfl (.inl rfl))
          (pss_one (ps_if (PW.pt (pw_and (pt_cmpR op_ne (pv 5) (pv 6) (nomark _)) (pw_and (pt_cmp (pc_din hu (pv 6) (pe_dget hu (pv 0) (pv 5) (fun _ _ => rfl)))) (pw_and1 (pt_not (pt_val (pe_call GO (hr.mono (by decide)) (by rfl) gO kO bO .nil pass0 (pa_cons (pv 0) (pa_cons (pv 5) (pa_cons (pv 6) (pa_cons (pv 7) pa_nil)))))))))))
            (pss_one (ps_expr (pe_bm PySem.F.plainAttrs_list PySem.F.slot_list_append PySem.F.type_list_append mt_append (pv 2) (pa_cons (pe_tup (pa_cons (pv 5) (pa_cons (pv 6) (pa_cons (pe_dget hu (pe_dget hu (pv 0) (pv 5) (fun _ _ => rfl)) (pv 6) (fun _ _ => rfl)) pa_nil)))) pa_nil)))) pss_nil))))))
      (pss_one (ps_ret (pv 2))))))), ?_⟩
    refine ⟨.ref t, rfl, t, rows, v, ns, ra, rk, rv, rfl, TO, hv, by omega, fun H1 gl ms ga s1 mnd mem hgl hga => ?_⟩
    have T1 := TO.same s1
    have Hh := heads_ok eq ms
    generalize eh : headsOf (eqB rows) ms = hs at *
    have hsn : ∀ h ∈ hs, h ∈ ns := fun h m => (mem h).mp (Hh.sub h m)
    have mlen : ms.length ≤ 20 := Nat.le_trans (nodup_le ms ns mnd fun x hx => (mem x).mp hx) few
    have hlen : hs.length ≤ 20 := Nat.le_trans (nodup_le hs ms (Hh.nodup eq) Hh.sub) mlen
    have flen : ∀ h, (ms.filter (eqB rows h)).length ≤ 20 := fun h => Nat.le_trans (List.length_filter_le _ _) mlen
    refine ⟨Nat.zero_le _, fun fa nfa => ?_⟩
    have s2 := same_upd (o := HO.lst []) nfa
    have ffa : H fa = none := s1.free nfa
    -- the rings
    let E1 : Nat → List SRow := fun i => (hs.take i).flatMap fun h => ringE (Wt rows) (ms.filter (eqB rows h))
    have E1len : ∀ i, (E1 i).length ≤ 400 := fun i => by
      show ((hs.take i).flatMap fun h => ringE (Wt rows) (ms.filter (eqB rows h))).length ≤ 400
      have : ∀ l : List Str, (l.flatMap fun h => ringE (Wt rows) (ms.filter (eqB rows h))).length ≤ 20 * l.length := by
        intro l
        induction l with
        | nil => exact Nat.zero_le _
        | cons h l ih =>
          rw [List.flatMap_cons, List.length_append, List.length_cons, ringE_len]
          have := flen h
          split <;> omega
      have h1 := this (hs.take i)
      rw [List.length_take] at h1
      omega
    refine ⟨fun σ' H' => ∃ (y3 y4 y5 y6 : Option V), σ' = [some (.ref t), some (.ref gl), some (.ref fa), y3, y4, y5, y6, none] ∧ Same H1 H' ∧ Sys RowT H' fa (E1 hs.length), ?_, ?_⟩
    · refine ⟨.ref gl, rfl, gl, rfl, ⟨_, SqL.of (s2 _ _ hgl)⟩, for_list (K := K) (a := gl) (xs := hs.map fun h => V.ref (ga h)) (fun i σ H' => ∃ (y3 y4 y5 y6 : Option V), σ = [some (.ref t), some (.ref gl), some (.ref fa), y3, y4, y5, y6, none] ∧ Same H1 H' ∧ Sys RowT H' fa (E1 i))
        ⟨_, _, _, _, rfl, s2, [], upd_same, rfl, fun i p r h => (nomatch h)⟩ (fun i σ H' _ ⟨_, _, _, _, _, e, _⟩ => SqL.of (e _ _ hgl)) ?_ (fun σ H' h => by
          rw [List.length_map] at h
          exact h)⟩
      rintro i z σ H3 hi ⟨y3, y4, y5, y6, rfl, s3, S3⟩
      have hi1 : i < hs.length := by
        have := (List.getElem?_eq_some_iff.mp hi).1
        rw [List.length_map] at this
        exact this
      obtain rfl : z = .ref (ga hs[i]) := by
        rw [List.getElem?_map, List.getElem?_eq_getElem hi1] at hi
        exact (Option.some.inj hi).symm
      have hm := List.getElem_mem hi1
      have eE : E1 (i + 1) = E1 i ++ ringE (Wt rows) (ms.filter (eqB rows hs[i])) := by
        show (hs.take (i + 1)).flatMap _ = _
        rw [List.take_add_one, List.getElem?_eq_getElem hi1]
        show (hs.take i ++ [hs[i]]).flatMap _ = _
        rw [List.flatMap_append, List.flatMap_cons, List.flatMap_nil, List.append_nil]
      have hG1 := hga _ hm
      have hG3 := s3 _ _ hG1
      have fl := flen hs[i]
      have el := E1len i
      rw [eE]
      have memF : ∀ x ∈ ms.filter (eqB rows hs[i]), x ∈ ns ∧ eqB rows hs[i] x = true := fun x hx => ⟨(mem x).mp (List.mem_filter.mp hx).1, (List.mem_filter.mp hx).2⟩
      have eRing : ringE (Wt rows) (ms.filter (eqB rows hs[i])) = if 1 < (ms.filter (eqB rows hs[i])).length then ((ms.filter (eqB rows hs[i])).zip (rot (ms.filter (eqB rows hs[i])))).map fun p => (p.1, p.2, Wt rows p.1 p.2) else [] := rfl
      rw [eRing]
      generalize ms.filter (eqB rows hs[i]) = gs at *
      generalize E1 i = Ei at *
      refine ⟨.ref (ga hs[i]), rfl, ga hs[i], _, rfl, .inl (SqL.of hG3), _, _, rfl, rfl, _, rfl, ?_⟩
      by_cases two : 1 < gs.length
      · rw [decide_eq_true (show (1 : Int) < (((gs.map V.str).length : Nat) : Int) by rw [List.length_map]; omega), if_pos two]
        refine iteT ?_
        refine ⟨.ref (ga hs[i]), rfl, ga hs[i], gs.map V.str, rfl, SqL.of hG3, for_it walk_enum (fun j σ H' => ∃ (y4 y5 y6 : Option V), σ = [some (.ref t), some (.ref gl), some (.ref fa), some (.ref (ga hs[i])), y4, y5, y6, none] ∧ Same H1 H' ∧ Sys RowT H' fa (Ei ++ ((gs.zip (rot gs)).map fun p => (p.1, p.2, Wt rows p.1 p.2)).take j))
          ⟨_, _, _, rfl, s3, by rw [List.take_zero, List.append_nil]; exact S3⟩ (fun j σ H' _ ⟨_, _, _, _, e, _⟩ => SqL.of (e _ _ hG1)) ?_ (fun σ H' h => ?_)⟩
        · rintro j w σ H4 H5 hj ⟨y4, y5, y6, rfl, s4, ps, p1, p2, p3⟩ ⟨tp, x1, x2, rfl, ntp, rfl, e1, e2⟩
          have hj' : j < gs.length := by
            rw [List.length_map] at hj
            exact hj
          dsimp only at e1 e2
          obtain rfl := Option.some.inj e1
          rw [List.getElem?_map, List.getElem?_eq_getElem hj'] at e2
          obtain rfl := Option.some.inj e2
          have sT := same_upd (o := HO.tup [V.int ((j : Nat) : Int), V.str gs[j]]) ntp
          have s5 := s4.trans sT
          have hk : (j + 1) % gs.length < gs.length := Nat.mod_lt _ (by omega)
          have hG5 := s5 _ _ hG1
          refine ⟨tp, _, rfl, SqT.of upd_same, rfl, _, _, rfl, _, _, rfl, rfl, ?_⟩
          have hp1 := sT _ _ p1
          have hp3 : ∀ (i : Nat) (p : Addr) (r : SRow), ps[i]? = some p → _ := fun i p r a b => (p3 i p r a b).same sT
          generalize upd H4 tp (.tup [V.int ((j : Nat) : Int), V.str gs[j]]) = H5 at s5 hG5 hp1 hp3 ⊢
          refine ⟨.ref (ga hs[i]), rfl, .int ((j : Nat) : Int), rfl, _, _, rfl, rfl, .ref (ga hs[i]), rfl, ga hs[i], _, rfl, .inl (SqL.of hG5), _, _, rfl, rfl, by rw [List.length_map]; omega, ?_⟩
          refine ⟨ga hs[i], _, (((j + 1) % gs.length : Nat) : Int), .str gs[(j + 1) % gs.length], rfl, congrArg V.int (by rw [List.length_map]; exact fmod_next j gs.length (by omega)), SqL.of hG5, atI_nat (by rw [List.getElem?_map, List.getElem?_eq_getElem hk]; rfl), ?_⟩
          have er : (rot gs)[j]'(by rw [rot_len]; exact hj') = gs[(j + 1) % gs.length] := by
            have := rot_get gs j hj'
            rw [List.getElem?_eq_getElem hk, List.getElem?_eq_getElem (by rw [rot_len]; exact hj')] at this
            exact Option.some.inj this
          have ez : ((gs.zip (rot gs)).map fun p => (p.1, p.2, Wt rows p.1 p.2)).take (j + 1) = ((gs.zip (rot gs)).map fun p => (p.1, p.2, Wt rows p.1 p.2)).take j ++ [(gs[j], gs[(j + 1) % gs.length], Wt rows gs[j] gs[(j + 1) % gs.length])] := by
            rw [List.take_add_one, List.getElem?_map, List.getElem?_eq_getElem (by rw [List.length_zip, rot_len, Nat.min_self]; exact hj'), List.getElem_zip, er]
            rfl
          have zlen : (((gs.zip (rot gs)).map fun p => (p.1, p.2, Wt rows p.1 p.2)).take j).length ≤ 20 := by
            rw [List.length_take, List.length_map, List.length_zip, rot_len, Nat.min_self]
            omega
          rw [ez, ← List.append_assoc]
          obtain ⟨xn, xe⟩ := memF _ (List.getElem_mem hj')
          obtain ⟨yn, ye⟩ := memF _ (List.getElem_mem hk)
          generalize gs[j] = x at *
          generalize gs[(j + 1) % gs.length] = y at *
          generalize ((gs.zip (rot gs)).map fun p => (p.1, p.2, Wt rows p.1 p.2)).take j = Ej at *
          have tied : Eqv rows x y := eqB_iff.mp (eq.trans _ _ _ (eq.symm _ _ xe) ye)
          have T5 := T1.same s5
          have ry : y ∈ rk x := Classical.byContradiction fun n => by
            obtain ⟨k, k1, _⟩ := tied
            rw [T1.out xn n] at k1
            cases k1
          have wv : Wt rows x y = rv x y := Wt_of (T1.val xn ry)
          refine ⟨.ref fa, rfl, .inl ⟨rfl, _, SqL.of hp1⟩, .str x, rfl, .str y, rfl, .ref t, rfl, .str x, rfl, t, _, rfl, dget T5.G.dict xn, .str y, rfl, ra x, _, rfl, dget (T5.G.row x xn) ry, by show 3 ≤ sizeLine; decide, fun tq ntq => ?_⟩
          have sQ := same_upd (o := HO.tup [V.str x, V.str y, V.int (rv x y)]) ntq
          have hp1' := sQ _ _ hp1
          have nf1 : H1 fa = none := nfa
          refine ⟨fa, _, _, rfl, rfl, hp1', ?_, ?_⟩
          · rw [List.length_map, p2, List.length_append]
            exact small1000 (by omega)
          · refine ⟨_, _, _, rfl, (s5.trans sQ).later nf1, ?_⟩
            rw [wv]
            exact sys_push hp1' p2 (fun i p r a b => (hp3 i p r a b).same sQ) upd_same
        · obtain ⟨y4, y5, y6, rfl, s4, S4⟩ := h
          refine ⟨_, _, _, _, rfl, s4, ?_⟩
          rw [List.take_of_length_le (by rw [List.length_map, List.length_map, List.length_zip, rot_len, Nat.min_self]; exact Nat.le_refl _)] at S4
          exact S4
      · rw [decide_eq_false (show ¬ (1 : Int) < (((gs.map V.str).length : Nat) : Int) by rw [List.length_map]; omega), if_neg two, List.append_nil]
        exact iteF ⟨_, _, _, _, rfl, s3, S3⟩
    rintro σ3 H3 ⟨y3, y4, y5, y6, rfl, s3, S3⟩
    have EAlen := E1len hs.length
    have eEA : E1 hs.length = hs.flatMap fun h => ringE (Wt rows) (ms.filter (eqB rows h)) := by
      show (hs.take hs.length).flatMap _ = _
      rw [List.take_length]
    rw [eEA] at S3 EAlen
    generalize eA : (hs.flatMap fun h => ringE (Wt rows) (ms.filter (eqB rows h))) = EA at S3 EAlen
    have hgl3 := s3 _ _ hgl
    have hga3 : ∀ h ∈ hs, H3 (ga h) = some (.lst ((ms.filter (eqB rows h)).map V.str)) := fun h m => s3 _ _ (hga h m)
    have hnd := Hh.nodup eq
    -- the leaders
    refine ⟨.ref gl, rfl, gl, rfl, ⟨_, SqL.of hgl3⟩, fun ld nD => ?_⟩
    refine ⟨fun i m H' => m = hs.length - i ∧ i ≤ hs.length ∧ Same H3 H' ∧ H' ld = some (.dK (dS (hs.take i) fun _ => .bl true)), ⟨_, rfl, Nat.zero_le _, same_upd nD, upd_same⟩, ?_⟩
    rintro i m H4 ⟨rfl, hi, s4, hD⟩
    have hl4 := s4 _ _ hgl3
    by_cases hlt : i < hs.length
    · have hx : (hs.map fun h => V.ref (ga h))[i]? = some (.ref (ga hs[i])) := by
        rw [List.getElem?_map, List.getElem?_eq_getElem hlt]
        rfl
      refine .inr ⟨⟨_, _, SqL.of hl4, hx⟩, fun H' => i + 1 ≤ hs.length ∧ Same H3 H' ∧ H' ld = some (.dK (dS (hs.take (i + 1)) fun _ => .bl true)), fun H' hN => ⟨hs.length - (i + 1), by omega, rfl, hN⟩, fun x H' hy => ?_⟩
      obtain ⟨rfl, hy⟩ := hy
      have ex : x = .ref (ga hs[i]) := Option.some.inj ((hy _ (SqL.of hl4)).symm.trans hx)
      subst ex
      refine ⟨rfl, ?_⟩
      unfold tYes
      refine iteT ?_
      obtain ⟨rest, first⟩ := Hh.first hs[i] (List.getElem_mem hlt)
      have hG := s4 _ _ (hga3 _ (List.getElem_mem hlt))
      rw [first] at hG
      have hout : hs[i] ∉ hs.take i := fun m => by
        have h1 := hnd
        rw [← List.take_append_drop i hs] at h1
        exact (List.nodup_append.mp h1).2.2 _ m _ (by rw [List.drop_eq_getElem_cons hlt]; exact List.mem_cons_self) rfl
      have e1 : addN (hs.take i) hs[i] = hs.take (i + 1) := by
        unfold addN
        rw [if_neg hout, List.take_add_one, List.getElem?_eq_getElem hlt]
        rfl
      refine ⟨.ref (ga hs[i]), rfl, ga hs[i], _, 0, .str hs[i], rfl, rfl, SqL.of hG, atI_nat (j := 0) rfl, ?_⟩
      refine ⟨_, Sum.inr hs[i], rfl, hD, ?_, hlt, s4.later nD, ?_⟩
      · rw [dS_len, List.length_take]
        exact small1000 (by omega)
      · rw [upd_same, dS_put, put_true_const, e1]
    refine .inl ⟨⟨_, SqL.of hl4, by rw [List.length_map]; omega⟩, ?_⟩
    have ei : i = hs.length := by omega
    subst ei
    rw [List.take_length] at hD
    -- between the groups
    have T3 := T1.same s3
    have nDt : t ≠ ld := fun e => by
      rw [← e, T3.G.dict] at nD
      cases nD
    have nDf : fa ≠ ld := fun e => by
      obtain ⟨ps, p1, _⟩ := S3
      rw [← e, p1] at nD
      cases nD
    have nDr : ∀ x ∈ ns, ra x ≠ ld := fun x hx e => by
      have := T3.G.row x hx
      rw [e, nD] at this
      cases this
    have TX : ∀ {H' : Hp}, SameX ld H1 H' → TabOf H' t rows ns ra rk rv := fun sx => ⟨⟨sx _ _ nDt T1.G.dict, T1.G.nd, fun x hx => sx _ _ (nDr x hx) (T1.G.row x hx), T1.G.off, T1.G.rnd⟩, T1.T, T1.names⟩
    let E2 : Nat → List SRow := fun i => (hs.take i).flatMap fun a => (hs.filter (cB rows hs a)).map fun b => (a, b, Wt rows a b)
    have E2len : ∀ i, (E2 i).length ≤ 400 := fun i => by
      have : ∀ l : List Str, (l.flatMap fun a => (hs.filter (cB rows hs a)).map fun b => (a, b, Wt rows a b)).length ≤ 20 * l.length := by
        intro l
        induction l with
        | nil => exact Nat.zero_le _
        | cons a l ih =>
          rw [List.flatMap_cons, List.length_append, List.length_cons, List.length_map]
          have := List.length_filter_le (cB rows hs a) hs
          omega
      have h1 := this (hs.take i)
      rw [List.length_take] at h1
      show ((hs.take i).flatMap fun a => (hs.filter (cB rows hs a)).map fun b => (a, b, Wt rows a b)).length ≤ 400
      omega
    refine ⟨ld, _, hD, trivial, fun od => ?_⟩
    refine ⟨.ref ld, rfl, ld, od, rfl, .inl ⟨_, upd_same, for_it walk_keys (fun i σ H' => ∃ (y5 y6 : Option V), σ = [some (.ref t), some (.ref gl), some (.ref fa), y3, y4, y5, y6, some (.ref ld)] ∧ SameX ld H1 H' ∧ H' ld = some (.frz od (.dK (dS hs fun _ => .bl true))) ∧ Sys RowT H' fa (EA ++ E2 i))
      ⟨_, _, rfl, fun b o hb e => by rw [upd_ne hb]; exact s4 _ _ (s3 _ _ e), upd_same, ?_⟩ (fun i σ H' _ ⟨_, _, _, _, e, _⟩ => e) ?_ ?_⟩⟩
    · show Sys RowT _ fa (EA ++ [])
      rw [List.append_nil]
      obtain ⟨ps, p1, p2, p3⟩ := S3.sameT s4
      refine ⟨ps, by rw [upd_ne nDf]; exact p1, p2, fun j p r hp hr' => ?_⟩
      have z : H4 p = some (.tup (rowV r)) := p3 j p r hp hr'
      show upd H4 ld _ p = _
      rw [upd_ne (ne_of z hD (by intro w; cases w))]
      exact z
    · rintro i z σ H5 H6 hi5 ⟨y5, y6, rfl, s5, hd5, S5⟩ ⟨rfl, k, v', hkk, rfl⟩
      have hi' : i < hs.length := by
        rw [dS_len] at hi5
        exact hi5
      rw [dS_at hi'] at hkk
      obtain rfl : (Sum.inr hs[i] : Key) = k := congrArg Prod.fst (Option.some.inj hkk)
      have ha := List.getElem_mem hi'
      have eE2 : E2 (i + 1) = E2 i ++ (hs.filter (cB rows hs hs[i])).map fun b => (hs[i], b, Wt rows hs[i] b) := by
        show (hs.take (i + 1)).flatMap _ = _
        rw [List.take_add_one, List.getElem?_eq_getElem hi']
        show (hs.take i ++ [hs[i]]).flatMap _ = _
        rw [List.flatMap_append, List.flatMap_cons, List.flatMap_nil, List.append_nil]
      rw [eE2]
      have l2 := E2len i
      generalize E2 i = Ei at *
      generalize hs[i] = a at *
      have an := hsn a ha
      refine ⟨.ref ld, rfl, ld, od, rfl, .inl ⟨_, hd5, for_it walk_keys (fun j σ H' => ∃ (y6 : Option V), σ = [some (.ref t), some (.ref gl), some (.ref fa), y3, y4, some (.str a), y6, some (.ref ld)] ∧ SameX ld H1 H' ∧ H' ld = some (.frz od (.dK (dS hs fun _ => .bl true))) ∧ Sys RowT H' fa (EA ++ (Ei ++ ((hs.take j).filter (cB rows hs a)).map fun b => (a, b, Wt rows a b))))
        ⟨_, rfl, s5, hd5, by rw [List.take_zero]; show Sys RowT _ fa (EA ++ (Ei ++ [])); rw [List.append_nil]; exact S5⟩ (fun j σ H' _ ⟨_, _, _, e, _⟩ => e) ?_ ?_⟩⟩
      · rintro j z σ H7 H8 hj ⟨y6, rfl, s7, hd7, S7⟩ ⟨rfl, k, v', hkk, rfl⟩
        have hj' : j < hs.length := by
          rw [dS_len] at hj
          exact hj
        rw [dS_at hj'] at hkk
        obtain rfl : (Sum.inr hs[j] : Key) = k := congrArg Prod.fst (Option.some.inj hkk)
        have hb := List.getElem_mem hj'
        have etake : hs.take (j + 1) = hs.take j ++ [hs[j]] := by rw [List.take_add_one, List.getElem?_eq_getElem hj']; rfl
        have flen := List.length_filter_le (cB rows hs a) (hs.take j)
        rw [List.length_take] at flen
        rw [etake, List.filter_append, List.map_append]
        generalize hs[j] = b at *
        generalize (hs.take j).filter (cB rows hs a) = Fj at *
        have T7 := TX s7
        -- none is made
        have no : cB rows hs a b = false → ∀ (z6 : Option V) (H9 : Hp), Same H8 H9 → ∃ (y6 : Option V), [some (V.ref t), some (.ref gl), some (.ref fa), y3, y4, some (.str a), z6, some (.ref ld)] = [some (V.ref t), some (.ref gl), some (.ref fa), y3, y4, some (.str a), y6, some (.ref ld)] ∧ SameX ld H1 H9 ∧
            H9 ld = some (.frz od (.dK (dS hs fun _ => .bl true))) ∧ Sys RowT H9 fa (EA ++ (Ei ++ (Fj.map (fun b => (a, b, Wt rows a b)) ++ ([b].filter (cB rows hs a)).map fun b => (a, b, Wt rows a b)))) := fun hc z6 H9 s9 => by
          have e0 : [b].filter (cB rows hs a) = [] := by
            rw [List.filter_cons, hc]
            rfl
          rw [e0]
          refine ⟨z6, rfl, s7.trans (same_x s9), s9 _ _ hd7, ?_⟩
          show Sys RowT H9 fa (EA ++ (Ei ++ (Fj.map (fun b => (a, b, Wt rows a b)) ++ [])))
          rw [List.append_nil]
          exact S7.sameT s9
        refine ⟨.str a, rfl, .str b, rfl, rfl, _, rfl, ?_⟩
        rw [ne_dec]
        refine ite2 (fun c1 => ?_) (fun c1 => ?_)
        · have c1 : a ≠ b := of_decide_eq_true c1
          by_cases c2 : b ∈ rk a
          · refine ⟨.str b, rfl, .ref t, rfl, .str a, rfl, t, _, rfl, dget T7.G.dict an, ra a, _, rfl, dget (T7.G.row a an) c2, _, rfl, iteT ?_⟩
            refine ⟨.ref t, rfl, .str a, rfl, .str b, rfl, .ref ld, rfl, t, ld, a, b, hs, rows, v, ns, ra, rk, rv, rfl, T7, hv, an, c2, by omega, .inr ⟨od, hd7⟩, nDr, hsn, fun H9 bb s9 hbb => ?_⟩
            have has : D rows a b ≠ none := by
              rw [T7.val an c2]
              exact fun z => nomatch z
            refine ⟨bb, rfl, ?_⟩
            cases bb with
            | true =>
              obtain ⟨m, m1, m2, m3, m4⟩ := hbb.mp rfl
              exact iteF (no (cB_no fun h => h.2.2 m m1 m2 m3 m4) _ _ s9)
            | false =>
              have hc : cB rows hs a b = true := cB_iff.mpr ⟨c1, has, fun m m1 m2 m3 m4 => nomatch hbb.mpr ⟨m, m1, m2, m3, m4⟩⟩
              have T9 := T7.same s9
              obtain ⟨ps, p1, p2, p3⟩ := S7.sameT s9
              have wv : Wt rows a b = rv a b := Wt_of (T7.val an c2)
              refine iteT ⟨.ref fa, rfl, .inl ⟨rfl, _, SqL.of p1⟩, .str a, rfl, .str b, rfl, .ref t, rfl, .str a, rfl, t, _, rfl, dget T9.G.dict an, .str b, rfl, ra a, _, rfl, dget (T9.G.row a an) c2, by show 3 ≤ sizeLine; decide, fun tq ntq => ?_⟩
              have sQ := same_upd (o := HO.tup [V.str a, V.str b, V.int (rv a b)]) ntq
              have p1' := sQ _ _ p1
              refine ⟨fa, _, _, rfl, rfl, p1', ?_, ?_⟩
              · rw [List.length_map, p2, List.length_append, List.length_append, List.length_map]
                exact small1000 (by omega)
              · have push := sys_push (r := (a, b, Wt rows a b)) p1' p2 (fun i p r x y => (p3 i p r x y).same sQ) (by rw [upd_same, wv]; rfl)
                rw [filter_one hc]
                have ea : EA ++ (Ei ++ (Fj.map (fun b => (a, b, Wt rows a b)) ++ [b].map fun b => (a, b, Wt rows a b))) = EA ++ (Ei ++ Fj.map fun b => (a, b, Wt rows a b)) ++ [(a, b, Wt rows a b)] := by
                  simp only [List.append_assoc, List.map_cons, List.map_nil]
                rw [ea]
                refine ⟨_, rfl, fun p o hp e => ?_, ?_, push⟩
                · rw [upd_ne (ne_of_none e nfa)]
                  exact sQ _ _ (s9 _ _ (s7 p o hp e))
                · rw [upd_ne nDf.symm]
                  exact sQ _ _ (s9 _ _ hd7)
          · refine ⟨.str b, rfl, .ref t, rfl, .str a, rfl, t, _, rfl, dget T7.G.dict an, ra a, _, rfl, dget0 (T7.G.row a an) c2, _, rfl, iteF (no (cB_no fun h => h.2.1 (T7.out an c2)) _ _ (Same.refl _))⟩
        · have c1 : a = b := Classical.byContradiction fun n => c1 (decide_eq_true n)
          exact iteF (no (cB_no fun h => h.1 c1) _ _ (Same.refl _))
      · rintro σ H7 ⟨y6, rfl, s7, hd7, S7⟩
        rw [dS_len, List.take_length] at S7
        exact ⟨_, _, rfl, s7, hd7, S7⟩
    · rintro σ H5 ⟨y5, y6, rfl, s5, hd5, S5⟩
      refine ⟨hd5, ?_⟩
      rw [dS_len] at S5
      have eF : E2 hs.length = leadE (Wt rows) (cB rows hs) hs := by
        show (hs.take hs.length).flatMap _ = _
        rw [List.take_length]
        rfl
      rw [eF] at S5
      have s6 : Same H1 (upd H5 ld (.dK (dS hs fun _ => .bl true))) := fun b o e => by
        have nb : b ≠ ld := ne_of_none e (s3.free nD)
        rw [upd_ne nb]
        exact s5 b o nb e
      refine ⟨.ref fa, rfl, q _ fa ms (s1.trans s6) mnd mem ?_⟩
      unfold edgesE
      rw [eh, eA]
      obtain ⟨ps, p1, p2, p3⟩ := S5
      refine ⟨ps, by rw [upd_ne nDf]; exact p1, p2, fun j p r hp hr' => ?_⟩
      have z : H5 p = some (.tup (rowV r)) := p3 j p r hp hr'
      show upd H5 ld _ p = _
      rw [upd_ne (ne_of z hd5 (by intro w; cases w))]
      exact z
end
end Lo
namespace Lo
open PySem L2
abbrev sFewest : Stmt := top 20
/-- what is asked of the class of an error -/
structure Err (K : PySem.W.Frag) (mg : Str → Option Value) (x : Str) (C : Addr) : Prop where
  g : mg x = some (.ref C)
  x : PySem.W.excIn K C [.type "ValueError", .type "Exception", .type "BaseException", .type "object"] "ValueError.__new__" = true
  k : PySem.W.keepIn K (.ref C) = true
  b : PySem.W.subIn K (.ref C) (.type "BaseException") = some true
  t : PySem.W.typeIn K (.ref C) = some (.type "type")
  e : PySem.W.exmOne K (.ref C) (.ref C) = some true
section
variable {P : Program} {w : World} {K : PySem.W.Frag} {mg : Str → Option Value} {base : Heap}
/-- the fewest rows -/
noncomputable def fewestE (rows : List SRow) (ms : List Str) : List SRow := edgesE (eqB rows) (Wt rows) (cB rows (headsOf (eqB rows) ms)) (headsOf (eqB rows) ms) ms
def spFewest : Sp := fun vs H Q _ => ∃ (a : Addr) (rows : List SRow) (v : Str → Int) (zs : List Str), vs = [.ref a] ∧ Sys RowA H a rows ∧ Good rows ∧ Sat rows v ∧ zs.length ≤ 20 ∧ (∀ x, Named rows x → x ∈ zs) ∧
  ∀ (H' : Hp) (p : Addr) (ms : List Str), Same H H' → ms.Nodup → (∀ x, x ∈ ms ↔ Named rows x) → Sys RowT H' p (fewestE rows ms) → Q (.ref p) H'
theorem scFewest : FnScope ["system", "table"] ["system"] (defScope sFewest) := ⟨rfl, rfl, rfl, by decide +kernel, rfl, by decide +kernel, by decide +kernel⟩
theorem ok_fewest {f fT fR fO : Addr} {fd fdT fdR fdO : FuncData} (F : Fun K "fewest" "fewest" sFewest f fd)
    (GT : FnOk P w K mg base CX0 4 fT fdT ["differences"] spTableOf) (kT : PySem.W.keepIn K (.ref fT) = true) (bT : Binds K fdT ["differences"] []) (gT : mg "table_of" = some (.ref fT))
    (GR : FnOk P w K mg base CX0 3 fR fdR ["system"] spRead) (kR : PySem.W.keepIn K (.ref fR) = true) (bR : Binds K fdR ["system"] []) (gR : mg "read_system" = some (.ref fR))
    (GO : FnOk P w K mg base CX0 3 fO fdO ["table"] spFewestOf) (kO : PySem.W.keepIn K (.ref fO) = true) (bO : Binds K fdO ["table"] []) (gO : mg "fewest_of" = some (.ref fO)) :
    FnOk P w K mg base CX0 5 f fd ["system"] spFewest := by
  refine F.ok scFewest (fun vs H Q E h => ?_) (fun cdv A outer s H vs Q E hr h => ?_)
  · obtain ⟨a, rows, v, zs, rfl, _⟩ := h
    rfl
  · obtain ⟨a, rows, v, zs, rfl, hS, g, hv, z20, hz, q⟩ := h
    have nd := scFewest.nd
    refine ⟨_, pss_cons (ps_set (i := 1) nd rfl (.inl rfl) (pe_call GT hr (by rfl) gT kT bT .nil pass0 (pa_cons (pe_call GR (hr.mono (by decide)) (by rfl) gR kR bR .nil pass0 (pa_cons (pv 0) pa_nil)) pa_nil)))
      (pss_cons (ps_if (pt_cmpR op_isN (pv 1) pe_non (nomark _)) (pss_one ps_never) pss_nil)
      (pss_one (ps_ret (pe_call GO (hr.mono (by decide)) (by rfl) gO kO bO .nil pass0 (pa_cons (pv 1) pa_nil))))), ?_⟩
    refine ⟨.ref a, rfl, a, rows, rfl, hS, g, fun H1 r s1 _ hr1 => ?_⟩
    refine ⟨r, rows, rfl, hr1, g, fun H2 x s2 hx => ?_⟩
    rcases hx with ⟨rfl, no⟩ | ⟨t, ns, ra, rk, rv, rfl, T, hv'⟩
    · exact absurd hv (no v)
    · refine ⟨_, rfl, rfl, _, rfl, iteF ?_⟩
      refine ⟨.ref t, rfl, t, rows, v, ns, ra, rk, rv, rfl, T, hv, ?_, fun H3 p ms s3 mnd mem hE => q H3 p ms ((s1.trans s2).trans s3) mnd (fun x => (mem x).trans (T.names x)) hE⟩
      exact Nat.le_trans (nodup_le ns zs T.G.nd fun x hx => hz x ((T.names x).mp hx)) z20
def spFewestX (C : Addr) : Sp := fun vs H Q E => ∃ (a : Addr) (rows : List SRow), vs = [.ref a] ∧ Sys RowA H a rows ∧ Good rows ∧ (∀ v, ¬ Sat rows v) ∧ ∀ H', Same H H' → E (.ref C) none H'
theorem ok_fewestX {C f fT fR : Addr} {fd fdT fdR : FuncData} (F : Fun K "fewest" "fewest" sFewest f fd) (N : Err K mg "NoSolution" C)
    (GT : FnOk P w K mg base CX0 4 fT fdT ["differences"] spTableOf) (kT : PySem.W.keepIn K (.ref fT) = true) (bT : Binds K fdT ["differences"] []) (gT : mg "table_of" = some (.ref fT))
    (GR : FnOk P w K mg base CX0 3 fR fdR ["system"] spRead) (kR : PySem.W.keepIn K (.ref fR) = true) (bR : Binds K fdR ["system"] []) (gR : mg "read_system" = some (.ref fR)) :
    FnOk P w K mg base (L2.CX P w) 5 f fd ["system"] (spFewestX C) := by
  refine F.okX scFewest (fun vs H Q E h => ?_) (fun cdv A outer s H vs Q E hr h => ?_)
  · obtain ⟨a, rows, rfl, _⟩ := h
    rfl
  · obtain ⟨a, rows, rfl, hS, g, no, q⟩ := h
    have nd := scFewest.nd
    refine ⟨_, pss_cons (ps_set (i := 1) nd rfl (.inl rfl) (pe_call GT hr (by rfl) gT kT bT .nil pass0 (pa_cons (pe_call GR (hr.mono (by decide)) (by rfl) gR kR bR .nil pass0 (pa_cons (pv 0) pa_nil)) pa_nil)))
      (pss_cons (ps_if (pt_cmpR op_isN (pv 1) pe_non (nomark _)) (pss_one (ps_raise rfl (takes_of rfl rfl rfl rfl) (pmk_own PySem.F.excBase_ValueError N.x N.g N.k (raises_own N.b N.t) rfl))) pss_nil)
      (pss_one ps_never)), ?_⟩
    refine ⟨.ref a, rfl, a, rows, rfl, hS, g, fun H1 r s1 _ hr1 => ?_⟩
    refine ⟨r, rows, rfl, hr1, g, fun H2 x s2 hx => ?_⟩
    rcases hx with ⟨rfl, _⟩ | ⟨t, ns, ra, rk, rv, rfl, T, v, hv⟩
    · exact ⟨_, rfl, rfl, _, rfl, iteT (q H2 (s1.trans s2))⟩
    · exact absurd hv (no v)
end
end Lo
namespace Lo
open PySem L2
abbrev sLTable : Stmt := top 33
/-! ### dicts with pairs of texts as keys -/
abbrev kP (p : Str × Str) : List L2.Key := [Sum.inr p.1, Sum.inr p.2]
theorem kP_inj {p q : Str × Str} (h : kP p = kP q) : p = q := by
  injection h with h1 h2
  injection h2 with h2 _
  exact Prod.ext (Sum.inr.inj h1) (Sum.inr.inj h2)
def dP (ps : List (Str × Str)) (f : Str × Str → Int) : List (List L2.Key × V) := ps.map fun p => (kP p, V.int (f p))
theorem dP_len (ps : List (Str × Str)) (f : Str × Str → Int) : (dP ps f).length = ps.length := List.length_map ..
theorem dP_val (f : Str × Str → Int) (p : Str × Str) : ∀ ps : List (Str × Str), valV (dP ps f) (kP p) = if p ∈ ps then some (.int (f p)) else none
  | [] => rfl
  | q :: ps => by
    have ih := dP_val f p ps
    by_cases h : q = p
    · subst h
      rw [if_pos List.mem_cons_self]
      exact valV_pos (p := (kP q, V.int (f q))) rfl
    · have e : valV (dP (q :: ps) f) (kP p) = valV (dP ps f) (kP p) := valV_neg (p := (kP q, V.int (f q))) fun z => h (kP_inj z)
      rw [e, ih]
      by_cases m : p ∈ ps
      · rw [if_pos m, if_pos (List.mem_cons_of_mem _ m)]
      · rw [if_neg m, if_neg fun z => (List.mem_cons.mp z).elim (fun z => h z.symm) m]
theorem dP_any {ps : List (Str × Str)} {f : Str × Str → Int} {p : Str × Str} : ((dP ps f).any fun kv => decide (kv.1 = kP p)) = true ↔ p ∈ ps := by
  rw [valV_any, dP_val]
  by_cases m : p ∈ ps
  · rw [if_pos m]
    exact ⟨fun _ => m, fun _ => rfl⟩
  · rw [if_neg m]
    exact ⟨(fun q => nomatch q), fun q => absurd q m⟩
theorem dP_put (ps : List (Str × Str)) (f : Str × Str → Int) (p : Str × Str) (k : Int) : putK (dP ps f) (kP p) (.int k) = dP (addN ps p) (put f p k) := by
  unfold putK addN
  by_cases m : p ∈ ps
  · rw [if_pos (dP_any.mpr m), if_pos m]
    unfold dP
    rw [List.map_map]
    refine List.map_congr_left fun q _ => ?_
    show (if kP q = kP p then (kP q, V.int k) else (kP q, V.int (f q))) = (kP q, V.int (put f p k q))
    by_cases j : q = p
    · subst j
      rw [if_pos rfl, put_at]
    · rw [if_neg fun z => j (kP_inj z), put_off j]
  · rw [if_neg fun q => m (dP_any.mp q), if_neg m]
    show _ = (ps ++ [p]).map _
    rw [List.map_append]
    show (ps.map fun q => (kP q, V.int (f q))) ++ [(kP p, V.int k)] = _ ++ [(kP p, V.int (put f p k p))]
    rw [put_at]
    congr 1
    exact List.map_congr_left fun q hq => by rw [put_off (fun z : q = p => m (z ▸ hq))]
/-- the table as a function -/
def tbF (ps : List (Str × Str)) (f : Str × Str → Int) : Tb Str := fun a b => if (a, b) ∈ ps then some (f (a, b)) else none
theorem tbF_in {ps : List (Str × Str)} {f : Str × Str → Int} {a b : Str} (h : (a, b) ∈ ps) : tbF ps f a b = some (f (a, b)) := if_pos h
theorem tbF_out {ps : List (Str × Str)} {f : Str × Str → Int} {a b : Str} (h : (a, b) ∉ ps) : tbF ps f a b = none := if_neg h
theorem tbF_put (ps : List (Str × Str)) (f : Str × Str → Int) (i j : Str) (k : Int) : tbF (addN ps (i, j)) (put f (i, j) k) = put2 (tbF ps f) i j k := by
  funext a b
  unfold put2
  by_cases e : a = i ∧ b = j
  · obtain ⟨rfl, rfl⟩ := e
    rw [if_pos ⟨rfl, rfl⟩, tbF_in (mem_addN.mpr (.inr rfl)), put_at]
  · have ne : (a, b) ≠ (i, j) := fun z => e ⟨congrArg Prod.fst z, congrArg Prod.snd z⟩
    rw [if_neg e]
    by_cases m : (a, b) ∈ ps
    · rw [tbF_in (mem_addN.mpr (.inl m)), tbF_in m, put_off ne]
    · rw [tbF_out fun z => (mem_addN.mp z).elim m ne, tbF_out m]
theorem square_len (es : List Str) : ∀ l : List Str, (l.flatMap fun a => es.map fun b => (a, b)).length = l.length * es.length
  | [] => by simp
  | a :: l => by
    rw [List.flatMap_cons, List.length_append, List.length_map, square_len es l, List.length_cons, Nat.succ_mul]
    omega
/-- the table in the heap -/
structure TbAt (H : Hp) (d : Addr) (es : List Str) (ps : List (Str × Str)) (f : Str × Str → Int) : Prop where
  at_ : H d = some (.dT (dP ps f))
  nd : ps.Nodup
  sub : ∀ p ∈ ps, p.1 ∈ es ∧ p.2 ∈ es
theorem TbAt.len {H : Hp} {d : Addr} {es : List Str} {ps : List (Str × Str)} {f : Str × Str → Int} (T : TbAt H d es ps f) (h : es.length ≤ 25) : ps.length ≤ 625 := by
  have h1 := nodup_le ps (es.flatMap fun a => es.map fun b => (a, b)) T.nd fun p hp => by
    obtain ⟨a, b⟩ := T.sub p hp
    exact List.mem_flatMap.mpr ⟨p.1, a, List.mem_map.mpr ⟨p.2, b, rfl⟩⟩
  rw [square_len] at h1
  exact Nat.le_trans h1 (Nat.mul_le_mul h h)
theorem TbAt.same {H H' : Hp} {d : Addr} {es : List Str} {ps : List (Str × Str)} {f : Str × Str → Int} (s : Same H H') (T : TbAt H d es ps f) : TbAt H' d es ps f := ⟨s _ _ T.at_, T.nd, T.sub⟩
theorem TbAt.get {H : Hp} {d b : Addr} {es : List Str} {ps : List (Str × Str)} {f : Str × Str → Int} {p : Str × Str} (T : TbAt H d es ps f) (hb : H b = some (.tup [.str p.1, .str p.2])) (m : p ∈ ps) : DGet H d (.ref b) (some (.int (f p))) := by
  have := DGet.t (k := kP p) T.at_ hb
  rw [dP_val, if_pos m] at this
  exact this
theorem TbAt.get0 {H : Hp} {d b : Addr} {es : List Str} {ps : List (Str × Str)} {f : Str × Str → Int} {p : Str × Str} (T : TbAt H d es ps f) (hb : H b = some (.tup [.str p.1, .str p.2])) (m : p ∉ ps) : DGet H d (.ref b) none := by
  have := DGet.t (k := kP p) T.at_ hb
  rw [dP_val, if_neg m] at this
  exact this
theorem TbAt.put {H : Hp} {d b : Addr} {es : List Str} {ps : List (Str × Str)} {f : Str × Str → Int} {p : Str × Str} {k : Int} (T : TbAt H d es ps f) (h25 : es.length ≤ 25) (hb : H b = some (.tup [.str p.1, .str p.2])) (h1 : p.1 ∈ es) (h2 : p.2 ∈ es) :
    DPut H d (.ref b) (.int k) (upd H d (.dT (dP (addN ps p) (Lo.put f p k)))) ∧ TbAt (upd H d (.dT (dP (addN ps p) (Lo.put f p k)))) d es (addN ps p) (Lo.put f p k) := by
  have len := T.len h25
  have q := DPut.t (k := kP p) (v := .int k) T.at_ hb (by rw [dP_len]; exact small1000 (by omega))
  rw [dP_put] at q
  refine ⟨q, upd_same, nodup_addN T.nd, fun r hr => ?_⟩
  rcases mem_addN.mp hr with m | m
  · exact T.sub r m
  · exact m ▸ ⟨h1, h2⟩
section
variable {P : Program} {w : World} {K : PySem.W.Frag} {mg : Str → Option Value} {base : Heap}
/-! ### _law_table -/
def spLTable : Sp := fun vs H Q _ => ∃ (np a : Addr) (zs : List Str) (rows : List SRow), vs = [.ref np, .ref a] ∧ H np = some (.lst (zs.map V.str)) ∧ Sys RowT H a rows ∧ Good rows ∧ (("0" : Str) :: zs).Nodup ∧ zs.length ≤ 20 ∧ (∀ x, Named rows x → x ∈ (("0" : Str) :: zs)) ∧
  ∀ (H' : Hp) (x : V), Same H H' → ((x = .non ∧ ∀ u, ¬ Sat rows u) ∨ ∃ (d : Addr) (ps : List (Str × Str)) (f : Str × Str → Int), x = .ref d ∧ TbAt H' d (("0" : Str) :: zs) ps f ∧ (∃ v, Sat rows v) ∧ ∀ a ∈ (("0" : Str) :: zs), ∀ b ∈ (("0" : Str) :: zs), D rows a b = tbF ps f a b) → Q x H'
abbrev nLTable : List Str := ["names", "system", "ends", "found", "one", "left", "right", "limit", "middle", "first", "other"]
theorem scLTable : FnScope nLTable ["names", "system"] (defScope sLTable) := ⟨rfl, rfl, rfl, by decide +kernel, rfl, by decide +kernel, by decide +kernel⟩
theorem ok_ltable {f : Addr} {fd : FuncData} (F : Fun K "_law_table" "_law_table" sLTable f fd) (T : Blt mg) : FnOk P w K mg base CX0 1 f fd ["names", "system"] spLTable := by
  refine F.ok scLTable (fun vs H Q E h => ?_) (fun cdv A outer s H vs Q E hr h => ?_)
  · obtain ⟨np, a, zs, rows, rfl, _⟩ := h
    rfl
  · obtain ⟨np, a, zs, rows, rfl, hN, ⟨ps0, hA, hl, hat⟩, g, end_nd, z20, named, q⟩ := h
    have nd := scLTable.nd
    have hu := hu_of hr
    refine ⟨_, C8.pss_cut (ps_set (i := 2) nd rfl (.inl rfl) (pe_op op_catT (pe_tup (pa_cons pe_str pa_nil)) (pe_callTy call_tuple_of (by rfl) T.tuple PyProof.Rows.boot_tuple (pa_cons (pv 0) pa_nil))))
      (pss_cons (ps_set (i := 3) nd rfl (.inl rfl) pe_dnewT)
      (C8.pss_cut (ps_for PassesOwn.never rfl (pi_tup (pv 2)) (pg_name (i := 4) nd rfl (.inl rfl)) (pss_one (ps_dput hu (pv 3) (pe_tup (pa_cons (pv 4) (pa_cons (pv 4) pa_nil))) pe_int rfl)))
      (C8.pss_cut (ps_for PassesOwn.never rfl (pi_list (pv 1)) (pg_tup rfl (pgs_cons (pg_name (i := 5) nd rfl (.inl rfl)) (pgs_cons (pg_name (i := 6) nd rfl (.inl rfl)) (pgs_cons (pg_name (i := 7) nd rfl (.inl rfl)) pgs_nil)))) (pss_one (ps_if (PW.pt (pw_or (pt_cmp (pc_dnotin hu (pe_tup (pa_cons (pv 5) (pa_cons (pv 6) pa_nil))) (pv 3))) (pw_or1 (pt_cmpR op_lt (pv 7) (pe_dget hu (pv 3) (pe_tup (pa_cons (pv 5) (pa_cons (pv 6) pa_nil))) (fun _ _ => rfl)) (nomark _))))) (pss_one (ps_dput hu (pv 3) (pe_tup (pa_cons (pv 5) (pa_cons (pv 6) pa_nil))) (pv 7) rfl)) pss_nil)))
      (C8.pss_cut (ps_for PassesOwn.never rfl (pi_tup (pv 2)) (pg_name (i := 8) nd rfl (.inl rfl)) (pss_one (ps_for PassesOwn.never rfl (pi_tup (pv 2)) (pg_name (i := 4) nd rfl (.inl rfl)) (pss_one (ps_if (pt_cmp (pc_din hu (pe_tup (pa_cons (pv 4) (pa_cons (pv 8) pa_nil))) (pv 3))) (pss_cons (ps_set (i := 9) nd rfl (.inl rfl) (pe_dget hu (pv 3) (pe_tup (pa_cons (pv 4) (pa_cons (pv 8) pa_nil))) (fun _ _ => rfl))) (pss_one (ps_for PassesOwn.never rfl (pi_tup (pv 2)) (pg_name (i := 10) nd rfl (.inl rfl)) (pss_one (ps_if (pt_cmp (pc_din hu (pe_tup (pa_cons (pv 8) (pa_cons (pv 10) pa_nil))) (pv 3))) (pss_cons (ps_set (i := 7) nd rfl (.inl rfl) (pe_op op_add (pv 9) (pe_dget hu (pv 3) (pe_tup (pa_cons (pv 8) (pa_cons (pv 10) pa_nil))) (fun _ _ => rfl)))) (pss_one (ps_if (PW.pt (pw_or (pt_cmp (pc_dnotin hu (pe_tup (pa_cons (pv 4) (pa_cons (pv 10) pa_nil))) (pv 3))) (pw_or1 (pt_cmpR op_lt (pv 7) (pe_dget hu (pv 3) (pe_tup (pa_cons (pv 4) (pa_cons (pv 10) pa_nil))) (fun _ _ => rfl)) (nomark _))))) (pss_one (ps_dput hu (pv 3) (pe_tup (pa_cons (pv 4) (pa_cons (pv 10) pa_nil))) (pv 7) rfl)) pss_nil))) pss_nil))))) pss_nil)))))
      (C8.pss_cut (ps_for PassesOwn.never rfl (pi_tup (pv 2)) (pg_name (i := 4) nd rfl (.inl rfl)) (pss_one (ps_if (pt_cmpR op_lt (pe_dget hu (pv 3) (pe_tup (pa_cons (pv 4) (pa_cons (pv 4) pa_nil))) (fun _ _ => rfl)) pe_int (nomark _)) (pss_one (ps_ret pe_non)) pss_nil)))
      (pss_one (ps_ret (pv 3)))))))), ?_⟩
    refine ⟨fun σ' H' => ∃ en : Addr, σ' = [some (.ref np), some (.ref a), some (.ref en), none, none, none, none, none, none, none, none] ∧ Same H H' ∧ H' en = some (.tup ((("0" : Str) :: zs).map V.str)), ?_, ?_⟩
    · refine ⟨by show 1 ≤ sizeLine; decide, fun z nz => ?_⟩
      have sB := same_upd (o := HO.tup [V.str "0"]) nz
      refine ⟨.ref np, rfl, np, _, rfl, .inl ⟨SqL.of (sB _ _ hN), fun l nl => ?_⟩⟩
      have sC := same_upd (o := HO.tup (zs.map V.str)) nl
      refine ⟨z, l, _, _, rfl, rfl, SqT.of (sC _ _ upd_same), SqT.of upd_same, List.cons_ne_nil _ _, ?_, fun e => ?_, fun _ en nen => ?_⟩
      · rw [List.length_map]
        exact Nat.le_of_lt (small1000 (by show 1 + zs.length ≤ 1000; omega))
      · have ez : zs = [] := List.map_eq_nil_iff.mp e
        subst ez
        exact ⟨z, rfl, sB.trans sC, sC _ _ upd_same⟩
      · exact ⟨en, rfl, (sB.trans sC).trans (same_upd nen), upd_same⟩
    rintro σ1 H1 ⟨en, rfl, s1, hen⟩
    intro d nd'
    have s2 := same_upd (o := HO.dT []) nd'
    have h25 : (("0" : Str) :: zs).length ≤ 25 := by
      rw [List.length_cons]
      omega
    have hA1 := s1 _ _ hA
    have hat1 : ∀ (i : Nat) (p : Addr) (r : SRow), ps0[i]? = some p → rows[i]? = some r → RowT H1 p r := fun i p r x y => (hat i p r x y).same s1
    generalize hes : (("0" : Str) :: zs) = es at *
    -- a place of a tuple's walk
    have pick : ∀ {i : Nat} {z : V}, (es.map V.str)[i]? = some z → ∃ (hi : i < es.length), z = .str es[i] ∧ es.take (i + 1) = es.take i ++ [es[i]] ∧ es[i] ∈ es := fun {i z} hi => by
      have hi1 : i < es.length := by
        have := (List.getElem?_eq_some_iff.mp hi).1
        rw [List.length_map] at this
        exact this
      refine ⟨hi1, ?_, by rw [List.take_add_one, List.getElem?_eq_getElem hi1]; rfl, List.getElem_mem hi1⟩
      rw [List.getElem?_map, List.getElem?_eq_getElem hi1] at hi
      exact (Option.some.inj hi).symm
    have in_of : ∀ {ps : List (Str × Str)} {f : Str × Str → Int} {a b : Str} {k : Int}, tbF ps f a b = some k → (a, b) ∈ ps ∧ f (a, b) = k := fun {ps f a b k} e => by
      by_cases m : (a, b) ∈ ps
      · rw [tbF_in m] at e
        exact ⟨m, Option.some.inj e⟩
      · rw [tbF_out m] at e
        cases e
    -- nothing between a name and itself
    refine ⟨fun σ' H' => ∃ (y4 : Option V) (ps : List (Str × Str)) (f : Str × Str → Int), σ' = [some (.ref np), some (.ref a), some (.ref en), some (.ref d), y4, none, none, none, none, none, none] ∧ Same H1 H' ∧ TbAt H' d es ps f ∧ Fw rows es (tbF ps f), ?_, ?_⟩
    · refine ⟨.ref en, rfl, en, rfl, ⟨_, SqT.of (s2 _ _ hen)⟩, for_tup (K := K) (a := en) (xs := es.map V.str) (fun i σ H' => ∃ (y4 : Option V) (ps : List (Str × Str)) (f : Str × Str → Int), σ = [some (.ref np), some (.ref a), some (.ref en), some (.ref d), y4, none, none, none, none, none, none] ∧ Same H1 H' ∧ TbAt H' d es ps f ∧
          (∀ p ∈ ps, p.1 = p.2 ∧ f p = 0) ∧ ∀ x ∈ es.take i, (x, x) ∈ ps)
        ⟨none, [], fun _ => 0, rfl, s2, ⟨upd_same, List.nodup_nil, fun p h => absurd h List.not_mem_nil⟩, fun p h => absurd h List.not_mem_nil, fun x h => absurd h List.not_mem_nil⟩ (fun i σ H' _ ⟨_, _, _, _, e, _⟩ => SqT.of (e _ _ hen)) ?_ ?_⟩
      · rintro i z σ H3 hi ⟨y4, ps, f, rfl, s3, TB, diag, has⟩
        obtain ⟨hi1, rfl, etake, hm⟩ := pick hi
        rw [etake]
        generalize es[i] = x at *
        refine ⟨.ref d, rfl, .str x, rfl, .str x, rfl, by show 2 ≤ sizeLine; decide, fun tp ntp => ?_⟩
        have sT := same_upd (o := HO.tup [V.str x, V.str x]) ntp
        obtain ⟨p1, p2⟩ := (TB.same sT).put (p := (x, x)) (k := 0) h25 upd_same hm hm
        refine ⟨d, _, rfl, p1, _, _, _, rfl, (s3.trans sT).later nd', p2, fun p hp => ?_, fun w hw => ?_⟩
        · by_cases e : p = (x, x)
          · rw [e, put_at]
            exact ⟨rfl, rfl⟩
          · rw [put_off e]
            exact diag p ((mem_addN.mp hp).resolve_right e)
        · rcases List.mem_append.mp hw with m | m
          · exact mem_addN.mpr (.inl (has w m))
          · rw [List.mem_singleton] at m
            exact mem_addN.mpr (.inr (by rw [m]))
      · rintro σ H3 ⟨y4, ps, f, rfl, s3, TB, diag, has⟩
        rw [List.length_map, List.take_length] at has
        refine ⟨_, ps, f, rfl, s3, TB, fun x hx => ⟨f (x, x), tbF_in (has x hx), by rw [(diag _ (has x hx)).2]; exact Int.le_refl _⟩, fun x y k e => ?_, fun x y k e => ?_⟩
        · obtain ⟨m, e⟩ := in_of e
          obtain ⟨e1, e2⟩ := diag _ m
          have e1 : x = y := e1
          subst e1
          intro u _
          omega
        · exact TB.sub _ (in_of e).1
    rintro σ3 H3 ⟨y4, ps, f, rfl, s3, TB, W⟩
    -- the rows
    refine ⟨fun σ' H' => ∃ (y4 y5 y6 y7 : Option V) (ps : List (Str × Str)) (f : Str × Str → Int), σ' = [some (.ref np), some (.ref a), some (.ref en), some (.ref d), y4, y5, y6, y7, none, none, none] ∧ Same H1 H' ∧ TbAt H' d es ps f ∧ Fw rows es (tbF ps f) ∧ Rowed rows (tbF ps f), ?_, ?_⟩
    · refine ⟨.ref a, rfl, a, rfl, ⟨_, SqL.of (s3 _ _ hA1)⟩, for_list (K := K) (a := a) (xs := ps0.map V.ref) (fun i σ H' => ∃ (y4 y5 y6 y7 : Option V) (ps : List (Str × Str)) (f : Str × Str → Int), σ = [some (.ref np), some (.ref a), some (.ref en), some (.ref d), y4, y5, y6, y7, none, none, none] ∧ Same H1 H' ∧ TbAt H' d es ps f ∧ Fw rows es (tbF ps f) ∧ Rowed (rows.take i) (tbF ps f))
        ⟨_, _, _, _, ps, f, rfl, s3, TB, W, fun r h => absurd h List.not_mem_nil⟩ (fun i σ H' _ ⟨_, _, _, _, _, _, _, e, _⟩ => SqL.of (e _ _ hA1)) ?_ ?_⟩
      · rintro i z σ H4 hi ⟨y4, y5, y6, y7, ps, f, rfl, s4, TB, W, R⟩
        obtain ⟨p, ⟨l, r, c⟩, rfl, hp, hrr, hmem, hlt, hR⟩ := Sys.at hl hat1 hi
        have etake : rows.take (i + 1) = rows.take i ++ [(l, r, c)] := by rw [List.take_add_one, hrr]; rfl
        rw [etake]
        have le : l ∈ es := named l ⟨_, hmem, .inl rfl⟩
        have re : r ∈ es := named r ⟨_, hmem, .inr rfl⟩
        refine ⟨p, _, rfl, SqT.of (hR.same s4), rfl, _, _, rfl, _, _, rfl, _, _, rfl, rfl, ?_⟩
        refine ⟨.str l, rfl, .str r, rfl, by show 2 ≤ sizeLine; decide, fun tp ntp => ?_⟩
        have sT := same_upd (o := HO.tup [V.str l, V.str r]) ntp
        have TB5 := TB.same sT
        have s5 := s4.trans sT
        have ht5 := upd_same (H := H4) (a := tp) (o := HO.tup [V.str l, V.str r])
        generalize upd H4 tp (.tup [V.str l, V.str r]) = H5 at sT TB5 s5 ht5 ⊢
        -- it is put
        have fin : (∀ x, tbF ps f l r = some x → c ≤ x) → ∀ (H6 : Hp), Same H5 H6 → ∀ (z4 z5 z6 z7 : Option V) (tq : Addr), H6 tq = some (.tup [.str l, .str r]) → ∃ (da : Addr) (H' : Hp), V.ref d = .ref da ∧ DPut H6 da (.ref tq) (.int c) H' ∧ ∃ (y4 y5 y6 y7 : Option V) (ps : List (Str × Str)) (f : Str × Str → Int), [some (V.ref np), some (.ref a), some (.ref en), some (.ref d), z4, z5, z6, z7, none, none, none] = [some (V.ref np), some (.ref a), some (.ref en), some (.ref d), y4, y5, y6, y7, none, none, none] ∧ Same H1 H' ∧ TbAt H' d es ps f ∧ Fw rows es (tbF ps f) ∧ Rowed (rows.take i ++ [(l, r, c)]) (tbF ps f) := by
          intro hle H6 s6 z4 z5 z6 z7 tq htq
          obtain ⟨p1, p2⟩ := (TB5.same s6).put (p := (l, r)) (k := c) h25 htq le re
          refine ⟨d, _, rfl, p1, z4, z5, z6, z7, _, _, rfl, (s5.trans s6).later nd', p2, ?_, ?_⟩
          · rw [tbF_put]
            exact W.put le re (told_own hmem) hle
          · rw [tbF_put]
            intro q hq
            rcases List.mem_append.mp hq with m | m
            · exact R.down (Down.put hle) q m
            · rw [List.mem_singleton] at m
              subst m
              exact ⟨c, put2_at _ _ _ _, Int.le_refl _⟩
        by_cases m : (l, r) ∈ ps
        · refine ⟨.ref d, rfl, d, _, rfl, TB5.get (p := (l, r)) ht5 m, _, rfl, iteF ?_⟩
          refine ⟨.int c, rfl, .ref d, rfl, .str l, rfl, .str r, rfl, by show 2 ≤ sizeLine; decide, fun tp2 ntp2 => ?_⟩
          have sU := same_upd (o := HO.tup [V.str l, V.str r]) ntp2
          refine ⟨d, _, rfl, (TB5.same sU).get (p := (l, r)) upd_same m, _, _, rfl, rfl, _, rfl, ite2 (fun e => ?_) (fun e => ?_)⟩
          · have hlt : c < f (l, r) := of_decide_eq_true e
            refine ⟨.int c, rfl, .ref d, rfl, .str l, rfl, .str r, rfl, by show 2 ≤ sizeLine; decide, fun tq ntq => ?_⟩
            refine fin (fun x ex => ?_) _ (sU.trans (same_upd ntq)) _ _ _ _ tq upd_same
            have := (in_of ex).2
            omega
          · have hge : ¬ c < f (l, r) := fun z => e (decide_eq_true z)
            refine ⟨_, _, _, _, ps, f, rfl, s5.trans sU, TB5.same sU, W, fun q hq => ?_⟩
            rcases List.mem_append.mp hq with k | k
            · exact R q k
            · rw [List.mem_singleton] at k
              subst k
              exact ⟨f (l, r), tbF_in m, by show f (l, r) ≤ c; omega⟩
        · refine ⟨.ref d, rfl, d, _, rfl, TB5.get0 (p := (l, r)) ht5 m, _, rfl, iteT (iteT ?_)⟩
          refine ⟨.int c, rfl, .ref d, rfl, .str l, rfl, .str r, rfl, by show 2 ≤ sizeLine; decide, fun tq ntq => ?_⟩
          refine fin (fun x ex => absurd (in_of ex).1 m) _ (same_upd ntq) _ _ _ _ tq upd_same
      · rintro σ H4 ⟨y4, y5, y6, y7, ps, f, rfl, s4, TB, W, R⟩
        rw [List.length_map, hl, List.take_length] at R
        exact ⟨_, _, _, _, ps, f, rfl, s4, TB, W, R⟩
    rintro σ4 H4 ⟨y4, y5, y6, y7, ps, f, rfl, s4, TB, W, R⟩
    -- the middles
    refine ⟨fun σ' H' => ∃ (y4 y5 y6 y7 y8 y9 y10 : Option V) (ps : List (Str × Str)) (f : Str × Str → Int), σ' = [some (.ref np), some (.ref a), some (.ref en), some (.ref d), y4, y5, y6, y7, y8, y9, y10] ∧ Same H1 H' ∧ TbAt H' d es ps f ∧ Fw rows es (tbF ps f) ∧ Rowed rows (tbF ps f) ∧ (Neg es (tbF ps f) ∨ Clo es (tbF ps f)), ?_, ?_⟩
    · refine ⟨.ref en, rfl, en, rfl, ⟨_, SqT.of (s4 _ _ hen)⟩, for_tup (K := K) (a := en) (xs := es.map V.str) (fun i σ H' => ∃ (y4 y5 y6 y7 y8 y9 y10 : Option V) (ps : List (Str × Str)) (f : Str × Str → Int), σ = [some (.ref np), some (.ref a), some (.ref en), some (.ref d), y4, y5, y6, y7, y8, y9, y10] ∧ Same H1 H' ∧ TbAt H' d es ps f ∧ Fw rows es (tbF ps f) ∧ Rowed rows (tbF ps f) ∧ (Neg es (tbF ps f) ∨ Clo (es.take i) (tbF ps f)))
        ⟨_, _, _, _, _, _, _, ps, f, rfl, s4, TB, W, R, .inr fun m h => absurd h List.not_mem_nil⟩ (fun i σ H' _ ⟨_, _, _, _, _, _, _, _, _, _, e, _⟩ => SqT.of (e _ _ hen)) ?_ ?_⟩
      · rintro i z σ H5 hi ⟨y4, y5, y6, y7, y8, y9, y10, ps, f, rfl, s5, TB, W, R, C⟩
        obtain ⟨hi1, rfl, etake, hm⟩ := pick hi
        have tsub : ∀ x ∈ es.take i, x ∈ es := fun x hx => List.mem_of_mem_take hx
        rw [etake]
        generalize es[i] = m at *
        generalize es.take i = M at *
        generalize hF0 : tbF ps f = F0 at W R C
        have M0 := FwMid.start es F0 m
        refine ⟨.ref en, rfl, en, rfl, ⟨_, SqT.of (s5 _ _ hen)⟩, for_tup (K := K) (a := en) (xs := es.map V.str) (fun j σ H' => ∃ (y4 y5 y6 y7 y9 y10 : Option V) (ps : List (Str × Str)) (f : Str × Str → Int), σ = [some (.ref np), some (.ref a), some (.ref en), some (.ref d), y4, y5, y6, y7, some (.str m), y9, y10] ∧ Same H1 H' ∧ TbAt H' d es ps f ∧ Fw rows es (tbF ps f) ∧ Rowed rows (tbF ps f) ∧ FwMid es F0 m (fun a b => a ∈ es.take j ∧ b ∈ es) (tbF ps f))
          ⟨_, _, _, _, _, _, ps, f, rfl, s5, TB, by rw [hF0]; exact W, by rw [hF0]; exact R, by rw [hF0]; exact M0.more fun a b h => absurd h.1 List.not_mem_nil⟩ (fun i σ H' _ ⟨_, _, _, _, _, _, _, _, _, e, _⟩ => SqT.of (e _ _ hen)) ?_ ?_⟩
        · rintro j z σ H6 hj ⟨y4, y5, y6, y7, y9, y10, ps, f, rfl, s6, TB, W6, R6, Mj⟩
          obtain ⟨hj1, rfl, etakej, hone⟩ := pick hj
          rw [etakej]
          generalize es[j] = o at *
          generalize es.take j = J at *
          have sz : 2 ≤ sizeLine := by decide
          refine ⟨.str o, rfl, .str m, rfl, sz, fun tp ntp => ?_⟩
          have sT := same_upd (o := HO.tup [V.str o, V.str m]) ntp
          have TB7 := TB.same sT
          have s7 := s6.trans sT
          by_cases m1 : (o, m) ∈ ps
          · refine ⟨.ref d, rfl, d, _, rfl, TB7.get (p := (o, m)) upd_same m1, _, rfl, iteT ?_⟩
            refine ⟨.ref d, rfl, .str o, rfl, .str m, rfl, sz, fun tp2 ntp2 => ?_⟩
            have sU := same_upd (o := HO.tup [V.str o, V.str m]) ntp2
            refine ⟨d, _, rfl, (TB7.same sU).get (p := (o, m)) upd_same m1, ?_⟩
            have s8 := s7.trans sU
            have TB8 := TB7.same sU
            have hx : Neg es (tbF ps f) ∨ F0 o m = some (f (o, m)) := Mj.imp id fun h => by rw [← h.1 o, tbF_in m1]
            have tx : Told rows o m (f (o, m)) := W6.snd o m _ (tbF_in m1)
            generalize f (o, m) = x at hx tx ⊢
            refine ⟨.ref en, rfl, en, rfl, ⟨_, SqT.of (s8 _ _ hen)⟩, for_tup (K := K) (a := en) (xs := es.map V.str) (fun k σ H' => ∃ (y5 y6 y7 y10 : Option V) (ps : List (Str × Str)) (f : Str × Str → Int), σ = [some (.ref np), some (.ref a), some (.ref en), some (.ref d), some (.str o), y5, y6, y7, some (.str m), some (.int x), y10] ∧ Same H1 H' ∧ TbAt H' d es ps f ∧ Fw rows es (tbF ps f) ∧ Rowed rows (tbF ps f) ∧
                (Neg es (tbF ps f) ∨ F0 o m = some x) ∧ FwMid es F0 m (fun a b => (a ∈ J ∧ b ∈ es) ∨ (a = o ∧ b ∈ es.take k)) (tbF ps f))
              ⟨_, _, _, _, ps, f, rfl, s8, TB8, W6, R6, hx, Mj.more fun a b h => h.elim .inl fun z => absurd z.2 List.not_mem_nil⟩ (fun i σ H' _ ⟨_, _, _, _, _, _, _, e, _⟩ => SqT.of (e _ _ hen)) ?_ ?_⟩
            · rintro k z σ H9 hk ⟨y5, y6, y7, y10, ps, f, rfl, s9, TB9, W9, R9, hx, Mk⟩
              obtain ⟨hk1, rfl, etakek, hp⟩ := pick hk
              rw [etakek]
              generalize es[k] = p at *
              generalize es.take k = L at *
              refine ⟨.str m, rfl, .str p, rfl, sz, fun tp3 ntp3 => ?_⟩
              have sV := same_upd (o := HO.tup [V.str m, V.str p]) ntp3
              have TBa := TB9.same sV
              have sa := s9.trans sV
              by_cases m2 : (m, p) ∈ ps
              · refine ⟨.ref d, rfl, d, _, rfl, TBa.get (p := (m, p)) upd_same m2, _, rfl, iteT ?_⟩
                refine ⟨.int x, rfl, .ref d, rfl, .str m, rfl, .str p, rfl, sz, fun tp4 ntp4 => ?_⟩
                have sW := same_upd (o := HO.tup [V.str m, V.str p]) ntp4
                refine ⟨d, _, rfl, (TBa.same sW).get (p := (m, p)) upd_same m2, _, _, rfl, rfl, ?_⟩
                have TBb := TBa.same sW
                have sb := sa.trans sW
                have hy : tbF ps f m p = some (f (m, p)) := tbF_in m2
                have ty : Told rows m p (f (m, p)) := W9.snd m p _ hy
                generalize f (m, p) = y at hy ty ⊢
                refine ⟨.str o, rfl, .str p, rfl, sz, fun tp5 ntp5 => ?_⟩
                have sX := same_upd (o := HO.tup [V.str o, V.str p]) ntp5
                have TBc := TBb.same sX
                have sc := sb.trans sX
                have join : ∀ a b : Str, ((a ∈ J ∧ b ∈ es) ∨ (a = o ∧ b ∈ L ++ [p])) → (((a ∈ J ∧ b ∈ es) ∨ (a = o ∧ b ∈ L)) ∨ (a = o ∧ b = p)) := fun a b h => by
                  rcases h with h | ⟨h1, h2⟩
                  · exact .inl (.inl h)
                  · rcases List.mem_append.mp h2 with k | k
                    · exact .inl (.inr ⟨h1, k⟩)
                    · exact .inr ⟨h1, List.mem_singleton.mp k⟩
                -- a lesser sum
                have fin : (∀ z, tbF ps f o p = some z → x + y < z) → ∀ (Hd : Hp), Same H9 Hd → ∀ (z5 z6 z7 z10 : Option V) (tq : Addr), Hd tq = some (.tup [.str o, .str p]) → ∃ (da : Addr) (H' : Hp), V.ref d = .ref da ∧ DPut Hd da (.ref tq) (.int (x + y)) H' ∧
                    ∃ (y5 y6 y7 y10 : Option V) (ps : List (Str × Str)) (f : Str × Str → Int), [some (V.ref np), some (.ref a), some (.ref en), some (.ref d), some (.str o), z5, z6, z7, some (.str m), some (.int x), z10] = [some (V.ref np), some (.ref a), some (.ref en), some (.ref d), some (.str o), y5, y6, y7, some (.str m), some (.int x), y10] ∧ Same H1 H' ∧ TbAt H' d es ps f ∧ Fw rows es (tbF ps f) ∧ Rowed rows (tbF ps f) ∧
                    (Neg es (tbF ps f) ∨ F0 o m = some x) ∧ FwMid es F0 m (fun a b => (a ∈ J ∧ b ∈ es) ∨ (a = o ∧ b ∈ L ++ [p])) (tbF ps f) := by
                  intro hlt Hd sd z5 z6 z7 z10 tq htq
                  have hle : ∀ z, tbF ps f o p = some z → x + y ≤ z := fun z ez => Int.le_of_lt (hlt z ez)
                  obtain ⟨p1, p2⟩ := (TB9.same sd).put (p := (o, p)) (k := x + y) h25 htq hone hp
                  refine ⟨d, _, rfl, p1, z5, z6, z7, z10, _, _, rfl, (s9.trans sd).later nd', p2, ?_, ?_, ?_, ?_⟩
                  · rw [tbF_put]
                    exact W9.put hone hp (told_trans tx ty) hle
                  · rw [tbF_put]
                    exact R9.down (Down.put hle)
                  · rw [tbF_put]
                    exact hx.imp (fun h => h.down (Down.put hle)) id
                  · rw [tbF_put]
                    exact (Mk.put W9 hm hx hy hlt).more fun a b h => .inl (join a b h)
                by_cases m3 : (o, p) ∈ ps
                · refine ⟨.ref d, rfl, d, _, rfl, TBc.get (p := (o, p)) upd_same m3, _, rfl, iteF ?_⟩
                  refine ⟨.int (x + y), rfl, .ref d, rfl, .str o, rfl, .str p, rfl, sz, fun tp6 ntp6 => ?_⟩
                  have sY := same_upd (o := HO.tup [V.str o, V.str p]) ntp6
                  refine ⟨d, _, rfl, (TBc.same sY).get (p := (o, p)) upd_same m3, _, _, rfl, rfl, _, rfl, ite2 (fun e => ?_) (fun e => ?_)⟩
                  · have hlt : x + y < f (o, p) := of_decide_eq_true e
                    refine ⟨.int (x + y), rfl, .ref d, rfl, .str o, rfl, .str p, rfl, sz, fun tq ntq => ?_⟩
                    refine fin (fun z ez => ?_) _ ((((sV.trans sW).trans sX).trans sY).trans (same_upd ntq)) _ _ _ _ tq upd_same
                    rw [← (in_of ez).2]
                    exact hlt
                  · have hge : ¬ x + y < f (o, p) := fun z => e (decide_eq_true z)
                    exact ⟨_, _, _, _, ps, f, rfl, sc.trans sY, TBc.same sY, W9, R9, hx, (Mk.skip hx hy (tbF_in m3) (by omega)).more fun a b h => .inl (join a b h)⟩
                · refine ⟨.ref d, rfl, d, _, rfl, TBc.get0 (p := (o, p)) upd_same m3, _, rfl, iteT (iteT ?_)⟩
                  refine ⟨.int (x + y), rfl, .ref d, rfl, .str o, rfl, .str p, rfl, sz, fun tq ntq => ?_⟩
                  exact fin (fun z ez => absurd (in_of ez).1 m3) _ (((sV.trans sW).trans sX).trans (same_upd ntq)) _ _ _ _ tq upd_same
              · refine ⟨.ref d, rfl, d, _, rfl, TBa.get0 (p := (m, p)) upd_same m2, _, rfl, iteF ?_⟩
                refine ⟨_, _, _, _, ps, f, rfl, sa, TBa, W9, R9, hx, ?_⟩
                rcases Mk with Mk | Mk
                · exact .inl Mk
                · refine FwMid.more (.inr Mk) fun a b h => ?_
                  rcases h with h | ⟨h1, h2⟩
                  · exact .inl (.inl h)
                  · rcases List.mem_append.mp h2 with k | k
                    · exact .inl (.inr ⟨h1, k⟩)
                    · refine .inr (.inr ?_)
                      rw [List.mem_singleton.mp k, ← Mk.2.1 p, tbF_out m2]
            · rintro σ H9 ⟨y5, y6, y7, y10, ps, f, rfl, s9, TB9, W9, R9, hx, Mk⟩
              rw [List.length_map, List.take_length] at Mk
              refine ⟨_, _, _, _, _, _, ps, f, rfl, s9, TB9, W9, R9, Mk.more fun a b h => .inl ?_⟩
              rcases List.mem_append.mp h.1 with k | k
              · exact .inl ⟨k, h.2⟩
              · exact .inr ⟨List.mem_singleton.mp k, h.2⟩
          · refine ⟨.ref d, rfl, d, _, rfl, TB7.get0 (p := (o, m)) upd_same m1, _, rfl, iteF ?_⟩
            refine ⟨_, _, _, _, _, _, ps, f, rfl, s7, TB7, W6, R6, ?_⟩
            rcases Mj with Mj | Mj
            · exact .inl Mj
            · refine FwMid.more (.inr Mj) fun a b h => ?_
              rcases List.mem_append.mp h.1 with k | k
              · exact .inl ⟨k, h.2⟩
              · refine .inr (.inl ?_)
                rw [List.mem_singleton.mp k, ← Mj.1 o, tbF_out m1]
        · rintro σ H6 ⟨y4, y5, y6, y7, y9, y10, ps, f, rfl, s6, TB, W6, R6, Mj⟩
          rw [List.length_map, List.take_length] at Mj
          exact ⟨_, _, _, _, _, _, _, ps, f, rfl, s6, TB, W6, R6, Mj.clo W6 W hm tsub C⟩
      · rintro σ H5 ⟨y4, y5, y6, y7, y8, y9, y10, ps, f, rfl, s5, TB, W, R, C⟩
        rw [List.length_map, List.take_length] at C
        exact ⟨_, _, _, _, _, _, _, ps, f, rfl, s5, TB, W, R, C⟩
    rintro σ5 H5 ⟨y4, y5, y6, y7, y8, y9, y10, ps, f, rfl, s5, TB, W, R, C⟩
    -- no sum below nothing
    refine ⟨fun σ' H' => ∃ (y4 : Option V), σ' = [some (.ref np), some (.ref a), some (.ref en), some (.ref d), y4, y5, y6, y7, y8, y9, y10] ∧ Same H5 H' ∧ ¬ Neg es (tbF ps f), ?_, ?_⟩
    · refine ⟨.ref en, rfl, en, rfl, ⟨_, SqT.of (s5 _ _ hen)⟩, for_tup (K := K) (a := en) (xs := es.map V.str) (fun i σ H' => ∃ (y4 : Option V), σ = [some (.ref np), some (.ref a), some (.ref en), some (.ref d), y4, y5, y6, y7, y8, y9, y10] ∧ Same H5 H' ∧ ∀ x ∈ es.take i, ¬ f (x, x) < 0)
        ⟨_, rfl, Same.refl _, fun x h => absurd h List.not_mem_nil⟩ (fun i σ H' _ ⟨_, _, e, _⟩ => SqT.of (e _ _ (s5 _ _ hen))) ?_ ?_⟩
      · rintro i z σ H6 hi ⟨y4, rfl, s6, prev⟩
        obtain ⟨hi1, rfl, etake, hm⟩ := pick hi
        rw [etake]
        generalize es[i] = x at *
        obtain ⟨k, ek, lk⟩ := W.diag x hm
        obtain ⟨mx, ekf⟩ := in_of ek
        refine ⟨.ref d, rfl, .str x, rfl, .str x, rfl, by show 2 ≤ sizeLine; decide, fun tp ntp => ?_⟩
        have sT := same_upd (o := HO.tup [V.str x, V.str x]) ntp
        refine ⟨d, _, rfl, ((TB.same s6).same sT).get (p := (x, x)) upd_same mx, _, _, rfl, rfl, _, rfl, ite2 (fun e => ?_) (fun e => ?_)⟩
        · have hlt : f (x, x) < 0 := of_decide_eq_true e
          refine q _ .non (((s1.trans s5).trans s6).trans sT) (.inl ⟨rfl, fw_none W ⟨x, hm, f (x, x), tbF_in mx, hlt⟩⟩)
        · refine ⟨_, rfl, s6.trans sT, fun w hw => ?_⟩
          rcases List.mem_append.mp hw with k | k
          · exact prev w k
          · rw [List.mem_singleton] at k
            rw [k]
            exact fun z => e (decide_eq_true z)
      · rintro σ H6 ⟨y4, rfl, s6, prev⟩
        rw [List.length_map, List.take_length] at prev
        refine ⟨_, rfl, s6, fun ⟨x, hx, k, ek, hk⟩ => ?_⟩
        have := prev x hx
        rw [(in_of ek).2] at this
        exact this hk
    rintro σ6 H6 ⟨y4, rfl, s6, ng⟩
    obtain ⟨v, hv, all⟩ := fw_some W R (C.resolve_left ng) ng fun r hr' => named r.1 ⟨r, hr', .inl rfl⟩
    exact ⟨.ref d, rfl, q H6 _ ((s1.trans s5).trans s6) (.inr ⟨d, ps, f, rfl, TB.same s6, ⟨v, hv⟩, all⟩)⟩
end
end Lo
namespace Lo
open PySem L2
abbrev sLHeads : Stmt := top 34
abbrev sLNeeded : Stmt := top 35
abbrev sLDue : Stmt := top 36
/-- the law's table tells the greatest values -/
structure Tb2 (H : Hp) (d : Addr) (rows : List SRow) (es : List Str) (ps : List (Str × Str)) (f : Str × Str → Int) : Prop where
  at_ : TbAt H d es ps f
  tell : ∀ a ∈ es, ∀ b ∈ es, D rows a b = tbF ps f a b
theorem Tb2.same {H H' : Hp} {d : Addr} {rows : List SRow} {es : List Str} {ps : List (Str × Str)} {f : Str × Str → Int} (s : Same H H') (T : Tb2 H d rows es ps f) : Tb2 H' d rows es ps f := ⟨T.at_.same s, T.tell⟩
theorem Tb2.has {H : Hp} {d : Addr} {rows : List SRow} {es : List Str} {ps : List (Str × Str)} {f : Str × Str → Int} (T : Tb2 H d rows es ps f) {a b : Str} (ha : a ∈ es) (hb : b ∈ es) : ((a, b) ∈ ps ∧ D rows a b = some (f (a, b))) ∨ ((a, b) ∉ ps ∧ D rows a b = none) := by
  by_cases m : (a, b) ∈ ps
  · exact .inl ⟨m, by rw [T.tell a ha b hb, tbF_in m]⟩
  · exact .inr ⟨m, by rw [T.tell a ha b hb, tbF_out m]⟩
/-- both are in the table -/
noncomputable def inB (ps : List (Str × Str)) (a b : Str) : Bool := decide ((a, b) ∈ ps ∧ (b, a) ∈ ps)
theorem tied_is {H : Hp} {d : Addr} {rows : List SRow} {v : Str → Int} {es : List Str} {ps : List (Str × Str)} {f : Str × Str → Int} (T : Tb2 H d rows es ps f) (hv : Sat rows v) {a b : Str} (ha : a ∈ es) (hb : b ∈ es) : eqB rows a b = (inB ps a b && decide (f (a, b) + f (b, a) = 0)) := by
  by_cases h : Eqv rows a b
  · obtain ⟨k, k1, k2⟩ := id h
    rcases T.has ha hb with ⟨m1, e1⟩ | ⟨_, e1⟩
    · rcases T.has hb ha with ⟨m2, e2⟩ | ⟨_, e2⟩
      · rw [e1] at k1
        rw [e2] at k2
        injection k1 with k1
        injection k2 with k2
        have z : f (a, b) + f (b, a) = 0 := by omega
        have i1 : inB ps a b = true := decide_eq_true ⟨m1, m2⟩
        rw [eqB_iff.mpr h, i1, decide_eq_true z]
        rfl
      · rw [e2] at k2
        cases k2
    · rw [e1] at k1
      cases k1
  · rw [eqB_no h]
    cases i1 : inB ps a b with
    | false => rfl
    | true =>
      obtain ⟨m1, m2⟩ := of_decide_eq_true i1
      have z : ¬ f (a, b) + f (b, a) = 0 := fun z => by
        rcases T.has ha hb with ⟨_, e1⟩ | ⟨n, _⟩
        · rcases T.has hb ha with ⟨_, e2⟩ | ⟨n, _⟩
          · exact h (eqv_of hv e1 e2 (by omega))
          · exact n m2
        · exact n m1
      rw [decide_eq_false z]
      rfl
theorem filter_none {p : Str → Bool} {x : Str} (h : p x = false) : [x].filter p = [] := by
  rw [List.filter_cons, h]
  rfl
/-- a place of a walk over texts -/
theorem pickG {xs : List Str} {i : Nat} {z : V} (hi : (xs.map V.str)[i]? = some z) : ∃ (h : i < xs.length), z = .str xs[i] ∧ xs.take (i + 1) = xs.take i ++ [xs[i]] ∧ xs[i] ∈ xs := by
  have hi1 : i < xs.length := by
    have := (List.getElem?_eq_some_iff.mp hi).1
    rw [List.length_map] at this
    exact this
  refine ⟨hi1, ?_, by rw [List.take_add_one, List.getElem?_eq_getElem hi1]; rfl, List.getElem_mem hi1⟩
  rw [List.getElem?_map, List.getElem?_eq_getElem hi1] at hi
  exact (Option.some.inj hi).symm
theorem filter_two (p q : Str → Bool) (l : List Str) : (l.filter p).filter q = l.filter fun x => p x && q x := by
  rw [List.filter_filter]
  exact List.filter_congr fun x _ => Bool.and_comm _ _
section
variable {P : Program} {w : World} {K : PySem.W.Frag} {mg : Str → Option Value} {base : Heap}
/-! ### _law_heads -/
def spLHeads : Sp := fun vs H Q _ => ∃ (en d : Addr) (rows : List SRow) (v : Str → Int) (es : List Str) (ps : List (Str × Str)) (f : Str × Str → Int), vs = [.ref en, .ref d] ∧ H en = some (.tup (es.map V.str)) ∧ Tb2 H d rows es ps f ∧ Sat rows v ∧ es.length ≤ 21 ∧ (∀ x ∈ es, PyData.strOk x = true) ∧
  ∀ (H' : Hp) (t hl : Addr), Same H H' → H' t = some (.tup [.ref hl, .int ((((headsOf (eqB rows) es).map fun h => if 1 < (es.filter (eqB rows h)).length then (es.filter (eqB rows h)).length else 0).sum : Nat) : Int)]) → H' hl = some (.lst ((headsOf (eqB rows) es).map V.str)) → Q (.ref t) H'
abbrev nLHeads : List Str := ["ends", "table", "heads", "many", "end", "head", "same", "members"]
theorem scLHeads : FnScope nLHeads ["ends", "table"] (defScope sLHeads) := ⟨rfl, rfl, rfl, by decide +kernel, rfl, by decide +kernel, by decide +kernel⟩
theorem ok_lheads {f : Addr} {fd : FuncData} (F : Fun K "_law_heads" "_law_heads" sLHeads f fd) (T : Blt mg) : FnOk P w K mg base CX0 1 f fd ["ends", "table"] spLHeads := by
  refine F.ok scLHeads (fun vs H Q E h => ?_) (fun cdv A outer s H vs Q E hr h => ?_)
  · obtain ⟨en, d, rows, v, es, ps, f, rfl, _⟩ := h
    rfl
  · obtain ⟨en, d, rows, v, es, ps, f, rfl, hen, TB, hv, e21, eok, q⟩ := h
    have nd := scLHeads.nd
    have hu := hu_of hr
    have eq := eqB_eqq hv
    refine ⟨_, pss_cons (ps_par (i := 2) (j := 3) rfl nd rfl rfl (by decide) rfl rfl (pa_cons (pe_lst pa_nil) (pa_cons pe_int pa_nil)) (by rfl))
      (C8.pss_cut (ps_for PassesOwn.never rfl (pi_tup (pv 0)) (pg_name (i := 4) nd rfl (.inr rfl))
        (pss_cons (ps_setLc (i := 6) (own := [("head", 5)]) (g := gName 5) rfl nd rfl rfl (sw_true rfl rfl rfl (by decide +kernel)) (pi_list (pv 2)) (blkOk_by (N := nLHeads) (sc := defScope sLHeads) (by decide +kernel))
          (fun _ _ _ _ _ => pg_name (i := 5) nd rfl (.inl rfl)) (fun _ _ _ _ _ => pts_one (PW.pt (pw_and (pt_cmp (pc_din hu (pe_tup (pa_cons (pv 5) (pa_cons (pv 4) pa_nil))) (pv 1))) (pw_and1 (pt_cmp (pc_din hu (pe_tup (pa_cons (pv 4) (pa_cons (pv 5) pa_nil))) (pv 1))))))) (fun _ _ _ _ _ => pv 5))
        (pss_cons (ps_setLc (i := 6) (own := [("head", 5)]) (g := gName 5) rfl nd rfl rfl (sw_true rfl rfl rfl (by decide +kernel)) (pi_list (pv 6)) (blkOk_by (N := nLHeads) (sc := defScope sLHeads) (by decide +kernel))
          (fun _ _ _ _ _ => pg_name (i := 5) nd rfl (.inl rfl)) (fun _ _ _ _ _ => pts_one (pt_cmpR op_eq (pe_op op_add (pe_dget hu (pv 1) (pe_tup (pa_cons (pv 5) (pa_cons (pv 4) pa_nil))) (fun _ _ => rfl)) (pe_dget hu (pv 1) (pe_tup (pa_cons (pv 4) (pa_cons (pv 5) pa_nil))) (fun _ _ => rfl))) pe_int (nomark _))) (fun _ _ _ _ _ => pv 5))
        (pss_one (ps_if (pt_cmpR (op_eqD hr.units) (pv 6) (pe_lst pa_nil) (nomark _)) (pss_one (ps_expr (pe_bm PySem.F.plainAttrs_list PySem.F.slot_list_append PySem.F.type_list_append mt_append (pv 2) (pa_cons (pv 4) pa_nil)))) pss_nil)))))
      (C8.pss_cut (ps_for PassesOwn.never rfl (pi_list (pv 2)) (pg_name (i := 5) nd rfl (.inr rfl))
        (pss_cons (ps_setLc (i := 7) (own := [("end", 4)]) (g := gName 4) rfl nd rfl rfl (sw_true rfl rfl rfl (by decide +kernel)) (pi_tup (pv 0)) (blkOk_by (N := nLHeads) (sc := defScope sLHeads) (by decide +kernel))
          (fun _ _ _ _ _ => pg_name (i := 4) nd rfl (.inl rfl)) (fun _ _ _ _ _ => pts_one (PW.pt (pw_and (pt_cmp (pc_din hu (pe_tup (pa_cons (pv 5) (pa_cons (pv 4) pa_nil))) (pv 1))) (pw_and1 (pt_cmp (pc_din hu (pe_tup (pa_cons (pv 4) (pa_cons (pv 5) pa_nil))) (pv 1))))))) (fun _ _ _ _ _ => pv 4))
        (pss_cons (ps_setLc (i := 7) (own := [("end", 4)]) (g := gName 4) rfl nd rfl rfl (sw_true rfl rfl rfl (by decide +kernel)) (pi_list (pv 7)) (blkOk_by (N := nLHeads) (sc := defScope sLHeads) (by decide +kernel))
          (fun _ _ _ _ _ => pg_name (i := 4) nd rfl (.inl rfl)) (fun _ _ _ _ _ => pts_one (pt_cmpR op_eq (pe_op op_add (pe_dget hu (pv 1) (pe_tup (pa_cons (pv 5) (pa_cons (pv 4) pa_nil))) (fun _ _ => rfl)) (pe_dget hu (pv 1) (pe_tup (pa_cons (pv 4) (pa_cons (pv 5) pa_nil))) (fun _ _ => rfl))) pe_int (nomark _))) (fun _ _ _ _ _ => pv 4))
        (pss_one (ps_if (pt_cmpR op_gt (pe_callB call_len_seq (by rfl) T.len PySem.boot_len (pa_cons (pv 7) pa_nil)) pe_int (nomark _)) (pss_one (ps_set (i := 3) nd rfl (.inl rfl) (pe_op op_add (pv 3) (pe_callB call_len_seq (by rfl) T.len PySem.boot_len (pa_cons (pv 7) pa_nil))))) pss_nil)))))
      (pss_one (ps_ret (pe_tup (pa_cons (pv 2) (pa_cons (pv 3) pa_nil))))))), ?_⟩
    have sz : 2 ≤ sizeLine := by decide
    refine ⟨Nat.zero_le _, fun hl nhl => ⟨_, _, rfl, ?_⟩⟩
    have s1 := same_upd (o := HO.lst []) nhl
    refine ⟨fun σ' H' => ∃ (y4 y6 : Option V), σ' = [some (.ref en), some (.ref d), some (.ref hl), some (.int 0), y4, none, y6, none] ∧ Same H H' ∧ H' hl = some (.lst ((headsOf (eqB rows) es).map V.str)), ?_, ?_⟩
    · refine ⟨.ref en, rfl, en, rfl, ⟨_, SqT.of (s1 _ _ hen)⟩, for_tup (K := K) (a := en) (xs := es.map V.str) (fun i σ H' => ∃ (y4 y6 : Option V), σ = [some (.ref en), some (.ref d), some (.ref hl), some (.int 0), y4, none, y6, none] ∧ Same H H' ∧ H' hl = some (.lst ((headsOf (eqB rows) (es.take i)).map V.str)))
        ⟨_, _, rfl, s1, upd_same⟩ (fun i σ H' _ ⟨_, _, _, e, _⟩ => SqT.of (e _ _ hen)) ?_ (fun σ H' h => by
          rw [List.length_map, List.take_length] at h
          exact h)⟩
      rintro i z σ H3 hi ⟨y4, y6, rfl, s3, hhl⟩
      obtain ⟨hi1, rfl, etake0, hm0⟩ := pickG hi
      rw [etake0, headsOf_snoc]
      have Hh := heads_ok eq (es.take i)
      have ksub : ∀ x ∈ headsOf (eqB rows) (es.take i), x ∈ es := fun x hx => List.mem_of_mem_take (Hh.sub x hx)
      have klen : (headsOf (eqB rows) (es.take i)).length ≤ 21 := by
        have := nodup_le _ _ (Hh.nodup eq) Hh.sub
        rw [List.length_take] at this
        omega
      have kdef : headsOf (eqB rows) (es.take i) = headsOf (eqB rows) (es.take i) := rfl
      generalize es[i] = y at *
      generalize headsOf (eqB rows) (es.take i) = ks at *
      refine ⟨.ref hl, rfl, hl, rfl, ⟨_, SqL.of hhl⟩, fun L1 nL1 => ?_⟩
      refine lc_list (K := K) (a := hl) (xs := (ks).map V.str) (fun j H' => Same H3 H' ∧ H' L1 = some (.lst ((((ks).take j).filter (fun x => inB ps x y)).map V.str))) ⟨same_upd nL1, upd_same⟩ (fun j H' _ h => SqL.of (h.1 _ _ hhl)) ?_ ?_
      · rintro j z Hc hj ⟨sc, hL⟩
        obtain ⟨hj1, rfl, etake, hm⟩ := pickG hj
        have flen := List.length_filter_le (fun x => inB ps x y) ((ks).take j)
        rw [List.length_take] at flen
        have xl : (ks).length ≤ 21 := klen
        rw [etake, List.filter_append, List.map_append]
        have xin : (ks)[j] ∈ es := ksub _ hm
        have xx := (fun _ h => h) _ hm
        generalize (ks)[j] = x at *
        generalize ((ks).take j).filter (fun x => inB ps x y) = acc at *
        have TBc := (TB.same s3).same sc
        refine ⟨rfl, ?_⟩
        have yes : (fun x => inB ps x y) x = true → ∀ (He : Hp), Same Hc He → ∃ acc', He L1 = some (.lst acc') ∧ acc'.length < sizeLine ∧ Same H3 (upd He L1 (.lst (acc' ++ [.str x]))) ∧ upd He L1 (.lst (acc' ++ [.str x])) L1 = some (.lst (acc.map V.str ++ ([x].filter (fun x => inB ps x y)).map V.str)) := fun hp He se => by
          refine ⟨_, se _ _ hL, ?_, (sc.trans se).later nL1, ?_⟩
          · rw [List.length_map]
            exact small1000 (by omega)
          · rw [upd_same, filter_one (p := fun x => inB ps x y) hp]
            rfl
        have no : (fun x => inB ps x y) x = false → ∀ (He : Hp), Same Hc He → Same H3 He ∧ He L1 = some (.lst (acc.map V.str ++ ([x].filter (fun x => inB ps x y)).map V.str)) := fun hp He se => by
          refine ⟨sc.trans se, ?_⟩
          rw [filter_none (p := fun x => inB ps x y) hp]
          show He L1 = some (.lst (acc.map V.str ++ []))
          rw [List.append_nil]
          exact se _ _ hL
        refine ⟨.str x, rfl, .str y, rfl, sz, fun tp ntp => ?_⟩
        have sT := same_upd (o := HO.tup [V.str x, V.str y]) ntp
        by_cases m1 : (x, y) ∈ ps
        · refine ⟨.ref d, rfl, d, _, rfl, (TBc.same sT).at_.get (p := (x, y)) upd_same m1, _, rfl, iteT ?_⟩
          refine ⟨.str y, rfl, .str x, rfl, sz, fun tq ntq => ?_⟩
          have sU := same_upd (o := HO.tup [V.str y, V.str x]) ntq
          by_cases m2 : (y, x) ∈ ps
          · exact ⟨.ref d, rfl, d, _, rfl, ((TBc.same sT).same sU).at_.get (p := (y, x)) upd_same m2, _, rfl, iteT ⟨.str x, rfl, yes (decide_eq_true ⟨m1, m2⟩) _ (sT.trans sU)⟩⟩
          · exact ⟨.ref d, rfl, d, _, rfl, ((TBc.same sT).same sU).at_.get0 (p := (y, x)) upd_same m2, _, rfl, iteF (no (decide_eq_false fun z => m2 z.2) _ (sT.trans sU))⟩
        · exact ⟨.ref d, rfl, d, _, rfl, (TBc.same sT).at_.get0 (p := (x, y)) upd_same m1, _, rfl, iteF (iteF (no (decide_eq_false fun z => m1 z.1) _ sT))⟩
      rintro H4 ⟨s4, hL1⟩
      rw [List.take_of_length_le (by rw [List.length_map]; exact Nat.le_refl _)] at hL1
      have s34 := s3.trans s4
      refine ⟨.ref L1, rfl, L1, rfl, ⟨_, SqL.of hL1⟩, fun L2 nL2 => ?_⟩
      refine lc_list (K := K) (a := L1) (xs := ((ks.filter fun x => inB ps x y)).map V.str) (fun j H' => Same H4 H' ∧ H' L2 = some (.lst (((((ks.filter fun x => inB ps x y)).take j).filter (fun x => decide (f (x, y) + f (y, x) = 0))).map V.str))) ⟨same_upd nL2, upd_same⟩ (fun j H' _ h => SqL.of (h.1 _ _ hL1)) ?_ ?_
      · rintro j z Hc hj ⟨sc, hL⟩
        obtain ⟨hj1, rfl, etake, hm⟩ := pickG hj
        have flen := List.length_filter_le (fun x => decide (f (x, y) + f (y, x) = 0)) (((ks.filter fun x => inB ps x y)).take j)
        rw [List.length_take] at flen
        have xl : ((ks.filter fun x => inB ps x y)).length ≤ 21 := Nat.le_trans (List.length_filter_le _ _) klen
        rw [etake, List.filter_append, List.map_append]
        have xin : ((ks.filter fun x => inB ps x y))[j] ∈ es := (fun x h => ksub x (List.mem_filter.mp h).1) _ hm
        have xx := (fun x h => (List.mem_filter.mp h).2) _ hm
        generalize ((ks.filter fun x => inB ps x y))[j] = x at *
        generalize (((ks.filter fun x => inB ps x y)).take j).filter (fun x => decide (f (x, y) + f (y, x) = 0)) = acc at *
        have TBc := (TB.same s34).same sc
        refine ⟨rfl, ?_⟩
        have yes : (fun x => decide (f (x, y) + f (y, x) = 0)) x = true → ∀ (He : Hp), Same Hc He → ∃ acc', He L2 = some (.lst acc') ∧ acc'.length < sizeLine ∧ Same H4 (upd He L2 (.lst (acc' ++ [.str x]))) ∧ upd He L2 (.lst (acc' ++ [.str x])) L2 = some (.lst (acc.map V.str ++ ([x].filter (fun x => decide (f (x, y) + f (y, x) = 0))).map V.str)) := fun hp He se => by
          refine ⟨_, se _ _ hL, ?_, (sc.trans se).later nL2, ?_⟩
          · rw [List.length_map]
            exact small1000 (by omega)
          · rw [upd_same, filter_one (p := fun x => decide (f (x, y) + f (y, x) = 0)) hp]
            rfl
        have no : (fun x => decide (f (x, y) + f (y, x) = 0)) x = false → ∀ (He : Hp), Same Hc He → Same H4 He ∧ He L2 = some (.lst (acc.map V.str ++ ([x].filter (fun x => decide (f (x, y) + f (y, x) = 0))).map V.str)) := fun hp He se => by
          refine ⟨sc.trans se, ?_⟩
          rw [filter_none (p := fun x => decide (f (x, y) + f (y, x) = 0)) hp]
          show He L2 = some (.lst (acc.map V.str ++ []))
          rw [List.append_nil]
          exact se _ _ hL
        obtain ⟨m1, m2⟩ := of_decide_eq_true xx
        refine ⟨.ref d, rfl, .str x, rfl, .str y, rfl, sz, fun tp ntp => ?_⟩
        have sT := same_upd (o := HO.tup [V.str x, V.str y]) ntp
        refine ⟨d, _, rfl, (TBc.same sT).at_.get (p := (x, y)) upd_same m1, .ref d, rfl, .str y, rfl, .str x, rfl, sz, fun tq ntq => ?_⟩
        have sU := same_upd (o := HO.tup [V.str y, V.str x]) ntq
        refine ⟨d, _, rfl, ((TBc.same sT).same sU).at_.get (p := (y, x)) upd_same m2, _, _, rfl, rfl, rfl, _, rfl, ite2 (fun c => ?_) (fun c => ?_)⟩
        · exact ⟨.str x, rfl, yes (decide_eq_true (V.int.inj (of_decide_eq_true c))) _ (sT.trans sU)⟩
        · exact no (decide_eq_false fun z => c (decide_eq_true (congrArg V.int z))) _ (sT.trans sU)
      rintro H5 ⟨s5, hL2⟩
      rw [List.take_of_length_le (by rw [List.length_map]; exact Nat.le_refl _), filter_two] at hL2
      have ef : (ks.filter fun x => inB ps x y && decide (f (x, y) + f (y, x) = 0)) = ks.filter fun x => eqB rows x y := List.filter_congr fun x hx => (tied_is TB hv (ksub x hx) hm0).symm
      rw [ef] at hL2
      have s35 := s34.trans s5
      have hhl5 := s5 _ _ (s4 _ _ hhl)
      refine ⟨.ref L2, rfl, Nat.zero_le _, fun e0 ne0 => ?_⟩
      have sE := same_upd (o := HO.lst []) ne0
      have okF : ∀ z ∈ ks.filter (fun x => eqB rows x y), PyData.strOk z = true := fun z hz => eok z (ksub z (List.mem_filter.mp hz).1)
      refine ⟨strsD (ks.filter fun x => eqB rows x y), .list [], .lst (SqL.of (sE _ _ hL2)) (dp_strs _), .lst (SqL.of upd_same) .nil, shaped_strs okF, PySem.W.ke_shaped_ints [], _, rfl, ?_⟩
      have hhl6 := sE _ _ hhl5
      have s36 := s35.trans sE
      cases ec : ks.filter (fun x => eqB rows x y) with
      | nil =>
        have st : hstep (eqB rows) ks y = ks ++ [y] := by
          unfold hstep
          refine if_neg fun k => ?_
          obtain ⟨g, hg, eg⟩ := List.any_eq_true.mp k
          have : g ∈ ks.filter fun x => eqB rows x y := List.mem_filter.mpr ⟨hg, eg⟩
          rw [ec] at this
          exact absurd this List.not_mem_nil
        rw [st]
        refine iteT ⟨.ref hl, rfl, .inl ⟨rfl, _, SqL.of hhl6⟩, .str y, rfl, hl, _, _, rfl, rfl, hhl6, by rw [List.length_map]; exact small1000 (by omega), ?_⟩
        exact ⟨_, _, rfl, s36.later nhl, by rw [upd_same, List.map_append]; rfl⟩
      | cons g gs =>
        have hg : g ∈ ks.filter fun x => eqB rows x y := by rw [ec]; exact List.mem_cons_self
        obtain ⟨g1, g2⟩ := List.mem_filter.mp hg
        have st : hstep (eqB rows) ks y = ks := by
          unfold hstep
          exact if_pos (List.any_eq_true.mpr ⟨g, g1, g2⟩)
        rw [st]
        have ne : PyData.eqv (strsD (g :: gs)) (.list []) = false := by
          unfold strsD
          simp [PyData.eqv, PyData.eqvAll]
        rw [ne]
        exact iteF ⟨_, _, rfl, s36, hhl6⟩
    rintro σ3 H3 ⟨y4, y6, rfl, s3, hhl⟩
    have Hh := heads_ok eq es
    have ksub : ∀ x ∈ headsOf (eqB rows) es, x ∈ es := fun x hx => Hh.sub x hx
    generalize eks : headsOf (eqB rows) es = ks at *
    let cnt : List Str → Nat := fun l => (l.map fun h => if 1 < (es.filter (eqB rows h)).length then (es.filter (eqB rows h)).length else 0).sum
    refine ⟨fun σ' H' => ∃ (y4 y5 y6 y7 : Option V), σ' = [some (.ref en), some (.ref d), some (.ref hl), some (.int ((cnt ks : Nat) : Int)), y4, y5, y6, y7] ∧ Same H H' ∧ H' hl = some (.lst (ks.map V.str)), ?_, ?_⟩
    · refine ⟨.ref hl, rfl, hl, rfl, ⟨_, SqL.of hhl⟩, for_list (K := K) (a := hl) (xs := ks.map V.str) (fun i σ H' => ∃ (y5 y7 : Option V), σ = [some (.ref en), some (.ref d), some (.ref hl), some (.int ((cnt (ks.take i) : Nat) : Int)), y4, y5, y6, y7] ∧ Same H3 H')
        ⟨_, _, rfl, Same.refl _⟩ (fun i σ H' _ ⟨_, _, _, e⟩ => SqL.of (e _ _ hhl)) ?_ (fun σ H' h => by
          rw [List.length_map, List.take_length] at h
          obtain ⟨y5, y7, rfl, e⟩ := h
          exact ⟨_, _, _, _, rfl, s3.trans e, e _ _ hhl⟩)⟩
      rintro i z σ H4 hi ⟨y5, y7, rfl, s4⟩
      obtain ⟨hi1, rfl, etake0, hm0⟩ := pickG hi
      rw [etake0]
      have yin := ksub _ hm0
      have ecnt : cnt (ks.take i ++ [ks[i]]) = cnt (ks.take i) + if 1 < (es.filter (eqB rows ks[i])).length then (es.filter (eqB rows ks[i])).length else 0 := by
        show ((ks.take i ++ [ks[i]]).map _).sum = _
        rw [List.map_append, List.sum_append]
        show _ + (_ + 0) = _
        rw [Nat.add_zero]
      rw [ecnt]
      generalize cnt (ks.take i) = cc at *
      generalize ks[i] = y at *
      have s34 := s3.trans s4
      have hen4 := s34 _ _ hen
      refine ⟨.ref en, rfl, en, rfl, ⟨_, SqT.of hen4⟩, fun L1 nL1 => ?_⟩
      refine lc_tup (K := K) (a := en) (xs := (es).map V.str) (fun j H' => Same H4 H' ∧ H' L1 = some (.lst ((((es).take j).filter (fun x => inB ps y x)).map V.str))) ⟨same_upd nL1, upd_same⟩ (fun j H' _ h => SqT.of (h.1 _ _ hen4)) ?_ ?_
      · rintro j z Hc hj ⟨sc, hL⟩
        obtain ⟨hj1, rfl, etake, hm⟩ := pickG hj
        have flen := List.length_filter_le (fun x => inB ps y x) ((es).take j)
        rw [List.length_take] at flen
        have xl : (es).length ≤ 21 := e21
        rw [etake, List.filter_append, List.map_append]
        have xin : (es)[j] ∈ es := (fun _ h => h) _ hm
        have xx := (fun _ h => h) _ hm
        generalize (es)[j] = x at *
        generalize ((es).take j).filter (fun x => inB ps y x) = acc at *
        have TBc := (TB.same s34).same sc
        refine ⟨rfl, ?_⟩
        have yes : (fun x => inB ps y x) x = true → ∀ (He : Hp), Same Hc He → ∃ acc', He L1 = some (.lst acc') ∧ acc'.length < sizeLine ∧ Same H4 (upd He L1 (.lst (acc' ++ [.str x]))) ∧ upd He L1 (.lst (acc' ++ [.str x])) L1 = some (.lst (acc.map V.str ++ ([x].filter (fun x => inB ps y x)).map V.str)) := fun hp He se => by
          refine ⟨_, se _ _ hL, ?_, (sc.trans se).later nL1, ?_⟩
          · rw [List.length_map]
            exact small1000 (by omega)
          · rw [upd_same, filter_one (p := fun x => inB ps y x) hp]
            rfl
        have no : (fun x => inB ps y x) x = false → ∀ (He : Hp), Same Hc He → Same H4 He ∧ He L1 = some (.lst (acc.map V.str ++ ([x].filter (fun x => inB ps y x)).map V.str)) := fun hp He se => by
          refine ⟨sc.trans se, ?_⟩
          rw [filter_none (p := fun x => inB ps y x) hp]
          show He L1 = some (.lst (acc.map V.str ++ []))
          rw [List.append_nil]
          exact se _ _ hL
        refine ⟨.str y, rfl, .str x, rfl, sz, fun tp ntp => ?_⟩
        have sT := same_upd (o := HO.tup [V.str y, V.str x]) ntp
        by_cases m1 : (y, x) ∈ ps
        · refine ⟨.ref d, rfl, d, _, rfl, (TBc.same sT).at_.get (p := (y, x)) upd_same m1, _, rfl, iteT ?_⟩
          refine ⟨.str x, rfl, .str y, rfl, sz, fun tq ntq => ?_⟩
          have sU := same_upd (o := HO.tup [V.str x, V.str y]) ntq
          by_cases m2 : (x, y) ∈ ps
          · exact ⟨.ref d, rfl, d, _, rfl, ((TBc.same sT).same sU).at_.get (p := (x, y)) upd_same m2, _, rfl, iteT ⟨.str x, rfl, yes (decide_eq_true ⟨m1, m2⟩) _ (sT.trans sU)⟩⟩
          · exact ⟨.ref d, rfl, d, _, rfl, ((TBc.same sT).same sU).at_.get0 (p := (x, y)) upd_same m2, _, rfl, iteF (no (decide_eq_false fun z => m2 z.2) _ (sT.trans sU))⟩
        · exact ⟨.ref d, rfl, d, _, rfl, (TBc.same sT).at_.get0 (p := (y, x)) upd_same m1, _, rfl, iteF (iteF (no (decide_eq_false fun z => m1 z.1) _ sT))⟩
      rintro H5 ⟨s5, hL1⟩
      rw [List.take_of_length_le (by rw [List.length_map]; exact Nat.le_refl _)] at hL1
      have s35 := s34.trans s5
      refine ⟨.ref L1, rfl, L1, rfl, ⟨_, SqL.of hL1⟩, fun L2 nL2 => ?_⟩
      refine lc_list (K := K) (a := L1) (xs := ((es.filter fun x => inB ps y x)).map V.str) (fun j H' => Same H5 H' ∧ H' L2 = some (.lst (((((es.filter fun x => inB ps y x)).take j).filter (fun x => decide (f (y, x) + f (x, y) = 0))).map V.str))) ⟨same_upd nL2, upd_same⟩ (fun j H' _ h => SqL.of (h.1 _ _ hL1)) ?_ ?_
      · rintro j z Hc hj ⟨sc, hL⟩
        obtain ⟨hj1, rfl, etake, hm⟩ := pickG hj
        have flen := List.length_filter_le (fun x => decide (f (y, x) + f (x, y) = 0)) (((es.filter fun x => inB ps y x)).take j)
        rw [List.length_take] at flen
        have xl : ((es.filter fun x => inB ps y x)).length ≤ 21 := Nat.le_trans (List.length_filter_le _ _) e21
        rw [etake, List.filter_append, List.map_append]
        have xin : ((es.filter fun x => inB ps y x))[j] ∈ es := (fun x h => (List.mem_filter.mp h).1) _ hm
        have xx := (fun x h => (List.mem_filter.mp h).2) _ hm
        generalize ((es.filter fun x => inB ps y x))[j] = x at *
        generalize (((es.filter fun x => inB ps y x)).take j).filter (fun x => decide (f (y, x) + f (x, y) = 0)) = acc at *
        have TBc := (TB.same s35).same sc
        refine ⟨rfl, ?_⟩
        have yes : (fun x => decide (f (y, x) + f (x, y) = 0)) x = true → ∀ (He : Hp), Same Hc He → ∃ acc', He L2 = some (.lst acc') ∧ acc'.length < sizeLine ∧ Same H5 (upd He L2 (.lst (acc' ++ [.str x]))) ∧ upd He L2 (.lst (acc' ++ [.str x])) L2 = some (.lst (acc.map V.str ++ ([x].filter (fun x => decide (f (y, x) + f (x, y) = 0))).map V.str)) := fun hp He se => by
          refine ⟨_, se _ _ hL, ?_, (sc.trans se).later nL2, ?_⟩
          · rw [List.length_map]
            exact small1000 (by omega)
          · rw [upd_same, filter_one (p := fun x => decide (f (y, x) + f (x, y) = 0)) hp]
            rfl
        have no : (fun x => decide (f (y, x) + f (x, y) = 0)) x = false → ∀ (He : Hp), Same Hc He → Same H5 He ∧ He L2 = some (.lst (acc.map V.str ++ ([x].filter (fun x => decide (f (y, x) + f (x, y) = 0))).map V.str)) := fun hp He se => by
          refine ⟨sc.trans se, ?_⟩
          rw [filter_none (p := fun x => decide (f (y, x) + f (x, y) = 0)) hp]
          show He L2 = some (.lst (acc.map V.str ++ []))
          rw [List.append_nil]
          exact se _ _ hL
        obtain ⟨m1, m2⟩ := of_decide_eq_true xx
        refine ⟨.ref d, rfl, .str y, rfl, .str x, rfl, sz, fun tp ntp => ?_⟩
        have sT := same_upd (o := HO.tup [V.str y, V.str x]) ntp
        refine ⟨d, _, rfl, (TBc.same sT).at_.get (p := (y, x)) upd_same m1, .ref d, rfl, .str x, rfl, .str y, rfl, sz, fun tq ntq => ?_⟩
        have sU := same_upd (o := HO.tup [V.str x, V.str y]) ntq
        refine ⟨d, _, rfl, ((TBc.same sT).same sU).at_.get (p := (x, y)) upd_same m2, _, _, rfl, rfl, rfl, _, rfl, ite2 (fun c => ?_) (fun c => ?_)⟩
        · exact ⟨.str x, rfl, yes (decide_eq_true (V.int.inj (of_decide_eq_true c))) _ (sT.trans sU)⟩
        · exact no (decide_eq_false fun z => c (decide_eq_true (congrArg V.int z))) _ (sT.trans sU)
      rintro H6 ⟨s6, hL2⟩
      rw [List.take_of_length_le (by rw [List.length_map]; exact Nat.le_refl _), filter_two] at hL2
      have ef : (es.filter fun x => inB ps y x && decide (f (y, x) + f (x, y) = 0)) = es.filter (eqB rows y) := List.filter_congr fun x hx => (tied_is TB hv yin hx).symm
      rw [ef] at hL2
      have s46 := (s4.trans s5).trans s6
      generalize es.filter (eqB rows y) = gs at *
      refine ⟨.ref L2, rfl, L2, _, rfl, .inl (SqL.of hL2), _, _, rfl, rfl, _, rfl, ?_⟩
      by_cases two : 1 < gs.length
      · rw [decide_eq_true (show (1 : Int) < (((gs.map V.str).length : Nat) : Int) by rw [List.length_map]; omega), if_pos two]
        refine iteT ⟨.int ((cc : Nat) : Int), rfl, .ref L2, rfl, L2, _, rfl, .inl (SqL.of hL2), _, _, rfl, rfl, ?_⟩
        have ei : ((cc : Nat) : Int) + (((gs.map V.str).length : Nat) : Int) = ((cc + gs.length : Nat) : Int) := by
          rw [List.length_map]
          omega
        refine ⟨some (.str y), some (.ref L2), ?_, s46⟩
        show [some (V.ref en), some (.ref d), some (.ref hl), some (.int (((cc : Nat) : Int) + (((gs.map V.str).length : Nat) : Int))), y4, some (.str y), y6, some (.ref L2)] = _
        rw [ei]
      · rw [decide_eq_false (show ¬ (1 : Int) < (((gs.map V.str).length : Nat) : Int) by rw [List.length_map]; omega), if_neg two]
        exact iteF ⟨_, _, rfl, s46⟩
    rintro σ4 H4 ⟨y4, y5, y6, y7, rfl, s4, hhl4⟩
    refine ⟨.ref hl, rfl, _, rfl, by show 2 ≤ sizeLine; decide, fun t nt => ?_⟩
    exact q _ t hl (s4.trans (same_upd nt)) upd_same (same_upd nt _ _ hhl4)
end
end Lo
namespace Lo
open PySem L2
section
variable {P : Program} {w : World} {K : PySem.W.Frag} {mg : Str → Option Value} {base : Heap}
/-! ### _law_needed -/
def spLNeeded : Sp := fun vs H Q _ => ∃ (hl d : Addr) (a b : Str) (rows : List SRow) (v : Str → Int) (es hs : List Str) (ps : List (Str × Str)) (f : Str × Str → Int), vs = [.ref hl, .ref d, .str a, .str b] ∧ H hl = some (.lst (hs.map V.str)) ∧ Tb2 H d rows es ps f ∧ Sat rows v ∧ a ∈ es ∧ b ∈ es ∧ (∀ h ∈ hs, h ∈ es) ∧ (a, b) ∈ ps ∧
  ∀ H' bb, Same H H' → (bb = true ↔ ∀ m ∈ hs, m ≠ a → m ≠ b → ¬ Tight rows a m b) → Q (.bl bb) H'
abbrev nLNeeded : List Str := ["heads", "table", "one", "other", "middle"]
theorem scLNeeded : FnScope nLNeeded ["heads", "table", "one", "other"] (defScope sLNeeded) := ⟨rfl, rfl, rfl, by decide +kernel, rfl, by decide +kernel, by decide +kernel⟩
theorem ok_lneeded {f : Addr} {fd : FuncData} (F : Fun K "_law_needed" "_law_needed" sLNeeded f fd) : FnOk P w K mg base CX0 1 f fd ["heads", "table", "one", "other"] spLNeeded := by
  refine F.ok scLNeeded (fun vs H Q E h => ?_) (fun cdv A outer s H vs Q E hr h => ?_)
  · obtain ⟨hl, d, a, b, rows, v, es, hs, ps, f, rfl, _⟩ := h
    rfl
  · obtain ⟨hl, d, a, b, rows, v, es, hs, ps, f, rfl, hhl, TB, hv, ha, hb, sub, mab, q⟩ := h
    have nd := scLNeeded.nd
    have hu := hu_of hr
    refine ⟨_, pss_cons (ps_for PassesOwn.never rfl (pi_list (pv 0)) (pg_name (i := 4) nd rfl (.inl rfl))
        (pss_one (ps_if (PW.pt (pw_and (pt_cmpR op_ne (pv 4) (pv 2) (nomark _)) (pw_and (pt_cmpR op_ne (pv 4) (pv 3) (nomark _)) (pw_and (pt_cmp (pc_din hu (pe_tup (pa_cons (pv 2) (pa_cons (pv 4) pa_nil))) (pv 1))) (pw_and1 (pt_cmp (pc_din hu (pe_tup (pa_cons (pv 4) (pa_cons (pv 3) pa_nil))) (pv 1))))))))
          (pss_one (ps_if (pt_cmpR op_eq (pe_op op_add (pe_dget hu (pv 1) (pe_tup (pa_cons (pv 2) (pa_cons (pv 4) pa_nil))) (fun _ _ => rfl)) (pe_dget hu (pv 1) (pe_tup (pa_cons (pv 4) (pa_cons (pv 3) pa_nil))) (fun _ _ => rfl))) (pe_dget hu (pv 1) (pe_tup (pa_cons (pv 2) (pa_cons (pv 3) pa_nil))) (fun _ _ => rfl)) (nomark _)) (pss_one (ps_ret pe_bl)) pss_nil)) pss_nil)))
      (pss_one (ps_ret pe_bl)), ?_⟩
    have sz : 2 ≤ sizeLine := by decide
    have dab : D rows a b = some (f (a, b)) := (TB.has ha hb).elim (fun h => h.2) fun h => absurd mab h.1
    refine ⟨.ref hl, rfl, hl, rfl, ⟨_, SqL.of hhl⟩, for_list (K := K) (a := hl) (xs := hs.map V.str) (fun i σ H' => ∃ (y4 : Option V), σ = [some (.ref hl), some (.ref d), some (.str a), some (.str b), y4] ∧ Same H H' ∧ ∀ m ∈ hs.take i, m ≠ a → m ≠ b → ¬ Tight rows a m b) ⟨_, rfl, Same.refl _, fun m h => absurd h List.not_mem_nil⟩
      (fun i σ H' _ ⟨_, _, e, _⟩ => SqL.of (e _ _ hhl)) ?_ ?_⟩
    · rintro i z σ H3 hi ⟨y4, rfl, s3, prev⟩
      obtain ⟨hi1, rfl, etake, hm⟩ := pickG hi
      rw [etake]
      generalize hs[i] = m at *
      have mn := sub m hm
      have TB3 := TB.same s3
      have no : ((m ≠ a ∧ m ≠ b) → ¬ Tight rows a m b) → ∀ (z4 : Option V) (He : Hp), Same H3 He → ∃ (y4 : Option V), [some (V.ref hl), some (.ref d), some (.str a), some (.str b), z4] = [some (V.ref hl), some (.ref d), some (.str a), some (.str b), y4] ∧ Same H He ∧ ∀ g ∈ hs.take i ++ [m], g ≠ a → g ≠ b → ¬ Tight rows a g b := fun h z4 He se => by
        refine ⟨z4, rfl, s3.trans se, fun g hg => ?_⟩
        rcases List.mem_append.mp hg with k | k
        · exact prev g k
        · rw [List.mem_singleton] at k
          subst k
          exact fun h1 h2 => h ⟨h1, h2⟩
      refine ⟨.str m, rfl, .str a, rfl, rfl, _, rfl, ?_⟩
      rw [ne_dec]
      refine ite2 (fun c1 => ?_) (fun c1 => ?_)
      · have c1 : m ≠ a := of_decide_eq_true c1
        refine ⟨.str m, rfl, .str b, rfl, rfl, _, rfl, ?_⟩
        rw [ne_dec]
        refine ite2 (fun c2 => ?_) (fun c2 => ?_)
        · have c2 : m ≠ b := of_decide_eq_true c2
          refine ⟨.str a, rfl, .str m, rfl, sz, fun t1 n1 => ?_⟩
          have sT := same_upd (o := HO.tup [V.str a, V.str m]) n1
          have TB4 := TB3.same sT
          by_cases m1 : (a, m) ∈ ps
          · refine ⟨.ref d, rfl, d, _, rfl, TB4.at_.get (p := (a, m)) upd_same m1, _, rfl, iteT ?_⟩
            refine ⟨.str m, rfl, .str b, rfl, sz, fun t2 n2 => ?_⟩
            have sU := same_upd (o := HO.tup [V.str m, V.str b]) n2
            have TB5 := TB4.same sU
            by_cases m2 : (m, b) ∈ ps
            · refine ⟨.ref d, rfl, d, _, rfl, TB5.at_.get (p := (m, b)) upd_same m2, _, rfl, iteT ?_⟩
              refine ⟨.ref d, rfl, .str a, rfl, .str m, rfl, sz, fun t3 n3 => ?_⟩
              have sV := same_upd (o := HO.tup [V.str a, V.str m]) n3
              refine ⟨d, _, rfl, (TB5.same sV).at_.get (p := (a, m)) upd_same m1, .ref d, rfl, .str m, rfl, .str b, rfl, sz, fun t4 n4 => ?_⟩
              have sW := same_upd (o := HO.tup [V.str m, V.str b]) n4
              refine ⟨d, _, rfl, ((TB5.same sV).same sW).at_.get (p := (m, b)) upd_same m2, _, _, rfl, rfl, .ref d, rfl, .str a, rfl, .str b, rfl, sz, fun t5 n5 => ?_⟩
              have sX := same_upd (o := HO.tup [V.str a, V.str b]) n5
              have s38 := ((((sT.trans sU).trans sV).trans sW).trans sX)
              have d1 : D rows a m = some (f (a, m)) := (TB.has ha mn).elim (fun h => h.2) fun h => absurd m1 h.1
              have d2 : D rows m b = some (f (m, b)) := (TB.has mn hb).elim (fun h => h.2) fun h => absurd m2 h.1
              obtain ⟨z, ez, lz⟩ := d_tri hv d1 d2
              rw [dab] at ez
              injection ez with ez
              refine ⟨d, _, rfl, (((TB5.same sV).same sW).same sX).at_.get (p := (a, b)) upd_same mab, rfl, _, rfl, ite2 (fun c5 => ?_) (fun c5 => ?_)⟩
              · have e5 : f (a, m) + f (m, b) = f (a, b) := V.int.inj (of_decide_eq_true c5)
                exact q _ false (s3.trans s38) ⟨(fun z => nomatch z), fun h => absurd ⟨_, _, _, d1, d2, dab, by omega⟩ (h m hm c1 c2)⟩
              · refine no (fun _ T => ?_) _ _ s38
                obtain ⟨x, y, z', h1, h2, h3, h4⟩ := T
                rw [d1] at h1
                rw [d2] at h2
                rw [dab] at h3
                injection h1 with h1
                injection h2 with h2
                injection h3 with h3
                refine c5 (decide_eq_true (congrArg V.int ?_))
                omega
            · refine ⟨.ref d, rfl, d, _, rfl, TB5.at_.get0 (p := (m, b)) upd_same m2, _, rfl, iteF (no (fun _ T => ?_) _ _ (sT.trans sU))⟩
              obtain ⟨x, y, z', h1, h2, h3, h4⟩ := T
              rw [TB.tell m mn b hb, tbF_out m2] at h2
              cases h2
          · refine ⟨.ref d, rfl, d, _, rfl, TB4.at_.get0 (p := (a, m)) upd_same m1, _, rfl, iteF (no (fun _ T => ?_) _ _ sT)⟩
            obtain ⟨x, y, z', h1, h2, h3, h4⟩ := T
            rw [TB.tell a ha m mn, tbF_out m1] at h1
            cases h1
        · have c2 : m = b := Classical.byContradiction fun n => c2 (decide_eq_true n)
          exact iteF (no (fun h => absurd c2 h.2) _ _ (Same.refl _))
      · have c1 : m = a := Classical.byContradiction fun n => c1 (decide_eq_true n)
        exact iteF (no (fun h => absurd c1 h.1) _ _ (Same.refl _))
    · rintro σ H3 ⟨y4, rfl, s3, prev⟩
      rw [List.length_map, List.take_length] at prev
      exact q H3 true s3 ⟨fun _ => prev, fun _ => rfl⟩
/-! ### _law_due -/
noncomputable def dueN (rows : List SRow) (es : List Str) : Nat := ((headsOf (eqB rows) es).map fun h => if 1 < (es.filter (eqB rows h)).length then (es.filter (eqB rows h)).length else 0).sum + ((headsOf (eqB rows) es).map fun a => ((headsOf (eqB rows) es).filter (cB rows (headsOf (eqB rows) es) a)).length).sum
def spLDue : Sp := fun vs H Q _ => ∃ (np d : Addr) (rows : List SRow) (v : Str → Int) (zs : List Str) (ps : List (Str × Str)) (f : Str × Str → Int), vs = [.ref np, .ref d] ∧ H np = some (.lst (zs.map V.str)) ∧ Tb2 H d rows (("0" : Str) :: zs) ps f ∧ Sat rows v ∧ zs.length ≤ 20 ∧ (∀ x ∈ (("0" : Str) :: zs), PyData.strOk x = true) ∧
  ∀ H', Same H H' → Q (.int ((dueN rows (("0" : Str) :: zs) : Nat) : Int)) H'
abbrev nLDue : List Str := ["names", "table", "heads", "many", "one", "other"]
theorem scLDue : FnScope nLDue ["names", "table"] (defScope sLDue) := ⟨rfl, rfl, rfl, by decide +kernel, rfl, by decide +kernel, by decide +kernel⟩
theorem ok_ldue {f fH fN : Addr} {fd fdH fdN : FuncData} (F : Fun K "_law_due" "_law_due" sLDue f fd) (T : Blt mg)
    (GH : FnOk P w K mg base CX0 1 fH fdH ["ends", "table"] spLHeads) (kH : PySem.W.keepIn K (.ref fH) = true) (bH : Binds K fdH ["ends", "table"] []) (gH : mg "_law_heads" = some (.ref fH))
    (GN : FnOk P w K mg base CX0 1 fN fdN ["heads", "table", "one", "other"] spLNeeded) (kN : PySem.W.keepIn K (.ref fN) = true) (bN : Binds K fdN ["heads", "table", "one", "other"] []) (gN : mg "_law_needed" = some (.ref fN)) :
    FnOk P w K mg base CX0 2 f fd ["names", "table"] spLDue := by
  refine F.ok scLDue (fun vs H Q E h => ?_) (fun cdv A outer s H vs Q E hr h => ?_)
  · obtain ⟨np, d, rows, v, zs, ps, f, rfl, _⟩ := h
    rfl
  · obtain ⟨np, d, rows, v, zs, ps, f, rfl, hN, TB, hv, z20, eok, q⟩ := h
    have nd := scLDue.nd
    have hu := hu_of hr
    refine ⟨_, C8.pss_cut (ps_asg (pe_call GH hr (by rfl) gH kH bH .nil pass0 (pa_cons (pe_op op_catT (pe_tup (pa_cons pe_str pa_nil)) (pe_callTy call_tuple_of (by rfl) T.tuple PyProof.Rows.boot_tuple (pa_cons (pv 0) pa_nil))) (pa_cons (pv 1) pa_nil))) (pg_tup rfl (pgs_cons (pg_name (i := 2) nd rfl (.inl rfl)) (pgs_cons (pg_name (i := 3) nd rfl (.inl rfl)) pgs_nil))))
      (pss_cons (ps_for PassesOwn.never rfl (pi_list (pv 2)) (pg_name (i := 4) nd rfl (.inl rfl)) (pss_one (ps_for PassesOwn.never rfl (pi_list (pv 2)) (pg_name (i := 5) nd rfl (.inl rfl))
        (pss_one (ps_if (PW.pt (pw_and (pt_cmpR op_ne (pv 4) (pv 5) (nomark _)) (pw_and (pt_cmp (pc_din hu (pe_tup (pa_cons (pv 4) (pa_cons (pv 5) pa_nil))) (pv 1))) (pw_and1 (pt_val (pe_call GN hr (by rfl) gN kN bN .nil pass0 (pa_cons (pv 2) (pa_cons (pv 1) (pa_cons (pv 4) (pa_cons (pv 5) pa_nil))))))))))
          (pss_one (ps_set (i := 3) nd rfl (.inl rfl) (pe_op op_add (pv 3) pe_int))) pss_nil)))))
      (pss_one (ps_ret (pv 3)))), ?_⟩
    have sz : 2 ≤ sizeLine := by decide
    have eq := eqB_eqq hv
    unfold dueN at q
    have Hh := heads_ok eq (("0" : Str) :: zs)
    have l21 : (("0" : Str) :: zs).length ≤ 21 := by
      rw [List.length_cons]
      omega
    let F1 : Nat := ((headsOf (eqB rows) (("0" : Str) :: zs)).map fun h => if 1 < ((("0" : Str) :: zs).filter (eqB rows h)).length then ((("0" : Str) :: zs).filter (eqB rows h)).length else 0).sum
    refine ⟨fun σ' H' => ∃ hl : Addr, σ' = [some (.ref np), some (.ref d), some (.ref hl), some (.int ((F1 : Nat) : Int)), none, none] ∧ Same H H' ∧ H' hl = some (.lst ((headsOf (eqB rows) (("0" : Str) :: zs)).map V.str)), ?_, ?_⟩
    · refine ⟨by show 1 ≤ sizeLine; decide, fun z nz => ?_⟩
      have sB := same_upd (o := HO.tup [V.str "0"]) nz
      refine ⟨.ref np, rfl, np, _, rfl, .inl ⟨SqL.of (sB _ _ hN), fun l nl => ?_⟩⟩
      have sC := same_upd (o := HO.tup (zs.map V.str)) nl
      refine ⟨z, l, _, _, rfl, rfl, SqT.of (sC _ _ upd_same), SqT.of upd_same, List.cons_ne_nil _ _, ?_, fun e => ?_, fun _ en nen => ?_⟩
      · rw [List.length_map]
        exact Nat.le_of_lt (small1000 (by show 1 + zs.length ≤ 1000; omega))
      · have ez : zs = [] := List.map_eq_nil_iff.mp e
        have hz : upd (upd H z (.tup [V.str "0"])) l (.tup (zs.map V.str)) z = some (.tup ((("0" : Str) :: zs).map V.str)) := by
          rw [ez]
          exact same_upd (by rw [← ez] at *; exact nl) _ _ upd_same
        refine ⟨.ref d, rfl, z, d, rows, v, _, ps, f, rfl, hz, TB.same (sB.trans sC), hv, l21, eok, fun H2 t hl s2 ht hhl => ?_⟩
        exact ⟨t, _, rfl, SqT.of ht, rfl, _, _, rfl, _, _, rfl, rfl, hl, rfl, (sB.trans sC).trans s2, hhl⟩
      · refine ⟨.ref d, rfl, en, d, rows, v, _, ps, f, rfl, upd_same, TB.same ((sB.trans sC).trans (same_upd nen)), hv, l21, eok, fun H2 t hl s2 ht hhl => ?_⟩
        exact ⟨t, _, rfl, SqT.of ht, rfl, _, _, rfl, _, _, rfl, rfl, hl, rfl, ((sB.trans sC).trans (same_upd nen)).trans s2, hhl⟩
    rintro σ1 H1 ⟨hl, rfl, s1, hhl⟩
    have eF1 : F1 = ((headsOf (eqB rows) (("0" : Str) :: zs)).map fun h => if 1 < ((("0" : Str) :: zs).filter (eqB rows h)).length then ((("0" : Str) :: zs).filter (eqB rows h)).length else 0).sum := rfl
    rw [← eF1] at q
    generalize F1 = F1 at *
    clear eF1
    generalize hes : (("0" : Str) :: zs) = es at *
    generalize headsOf (eqB rows) es = hs at *
    have sub : ∀ h ∈ hs, h ∈ es := Hh.sub
    refine ⟨.ref hl, rfl, hl, rfl, ⟨_, SqL.of hhl⟩, for_list (K := K) (a := hl) (xs := hs.map V.str) (fun i σ H' => ∃ (y4 y5 : Option V), σ = [some (.ref np), some (.ref d), some (.ref hl), some (.int ((F1 + ((hs.take i).map fun a => (hs.filter (cB rows hs a)).length).sum : Nat) : Int)), y4, y5] ∧ Same H1 H')
      ⟨_, _, rfl, Same.refl _⟩ (fun i σ H' _ ⟨_, _, _, e⟩ => SqL.of (e _ _ hhl)) ?_ ?_⟩
    · rintro i z σ H3 hi ⟨y4, y5, rfl, s3⟩
      obtain ⟨hi1, rfl, etake, hm⟩ := pickG hi
      have esum : ((hs.take (i + 1)).map fun a => (hs.filter (cB rows hs a)).length).sum = ((hs.take i).map fun a => (hs.filter (cB rows hs a)).length).sum + (hs.filter (cB rows hs hs[i])).length := by
        rw [etake, List.map_append, List.sum_append]
        show _ + (_ + 0) = _
        rw [Nat.add_zero]
      rw [esum]
      generalize ((hs.take i).map fun a => (hs.filter (cB rows hs a)).length).sum = cc at *
      generalize hs[i] = a at *
      have an := sub a hm
      refine ⟨.ref hl, rfl, hl, rfl, ⟨_, SqL.of (s3 _ _ hhl)⟩, for_list (K := K) (a := hl) (xs := hs.map V.str) (fun j σ H' => ∃ (y5 : Option V), σ = [some (.ref np), some (.ref d), some (.ref hl), some (.int ((F1 + cc + ((hs.take j).filter (cB rows hs a)).length : Nat) : Int)), some (.str a), y5] ∧ Same H1 H')
        ⟨_, rfl, s3⟩ (fun i σ H' _ ⟨_, _, e⟩ => SqL.of (e _ _ hhl)) ?_ (fun σ H' h => by
          rw [List.length_map, List.take_length, Nat.add_assoc] at h
          obtain ⟨y5, rfl, e⟩ := h
          exact ⟨_, _, rfl, e⟩)⟩
      rintro j z σ H4 hj ⟨y5, rfl, s4⟩
      obtain ⟨hj1, rfl, etakej, hmj⟩ := pickG hj
      rw [etakej, List.filter_append, List.length_append]
      generalize ((hs.take j).filter (cB rows hs a)).length = kk at *
      generalize hs[j] = b at *
      have bn := sub b hmj
      have TB4 := TB.same (s1.trans s4)
      have no : cB rows hs a b = false → ∀ (z5 : Option V) (He : Hp), Same H4 He → ∃ (y5 : Option V), [some (V.ref np), some (.ref d), some (.ref hl), some (.int ((F1 + cc + kk : Nat) : Int)), some (.str a), z5] = [some (V.ref np), some (.ref d), some (.ref hl), some (.int ((F1 + cc + (kk + ([b].filter (cB rows hs a)).length) : Nat) : Int)), some (.str a), y5] ∧ Same H1 He := fun hc z5 He se => by
        rw [filter_none hc]
        exact ⟨z5, rfl, s4.trans se⟩
      refine ⟨.str a, rfl, .str b, rfl, rfl, _, rfl, ?_⟩
      rw [ne_dec]
      refine ite2 (fun c1 => ?_) (fun c1 => ?_)
      · have c1 : a ≠ b := of_decide_eq_true c1
        refine ⟨.str a, rfl, .str b, rfl, sz, fun t1 n1 => ?_⟩
        have sT := same_upd (o := HO.tup [V.str a, V.str b]) n1
        have TB5 := TB4.same sT
        by_cases m1 : (a, b) ∈ ps
        · refine ⟨.ref d, rfl, d, _, rfl, TB5.at_.get (p := (a, b)) upd_same m1, _, rfl, iteT ?_⟩
          refine ⟨.ref hl, rfl, .ref d, rfl, .str a, rfl, .str b, rfl, hl, d, a, b, rows, v, es, hs, ps, f, rfl, sT _ _ (s4 _ _ hhl), TB5, hv, an, bn, sub, m1, fun H6 bb s6 hbb => ?_⟩
          have has : D rows a b ≠ none := by
            rw [TB.tell a an b bn, tbF_in m1]
            exact fun z => nomatch z
          have s46 := sT.trans s6
          cases bb with
          | true =>
            have hc : cB rows hs a b = true := cB_iff.mpr ⟨c1, has, hbb.mp rfl⟩
            refine ⟨true, rfl, iteT ⟨.int ((F1 + cc + kk : Nat) : Int), rfl, _, _, rfl, rfl, ?_⟩⟩
            rw [filter_one hc]
            exact ⟨_, rfl, s4.trans s46⟩
          | false =>
            exact ⟨false, rfl, iteF (no (cB_no fun h => nomatch hbb.mpr h.2.2) _ _ s46)⟩
        · refine ⟨.ref d, rfl, d, _, rfl, TB5.at_.get0 (p := (a, b)) upd_same m1, _, rfl, iteF (no (cB_no fun h => h.2.1 ?_) _ _ sT)⟩
          rw [TB.tell a an b bn, tbF_out m1]
      · have c1 : a = b := Classical.byContradiction fun n => c1 (decide_eq_true n)
        exact iteF (no (cB_no fun h => h.1 c1) _ _ (Same.refl _))
    · rintro σ H3 ⟨y4, y5, rfl, s3⟩
      rw [List.length_map, List.take_length]
      exact ⟨_, rfl, q H3 (s1.trans s3)⟩
end
end Lo
namespace Lo
open PySem L2
abbrev sRight : Stmt := top 37
theorem sys_less {H : Hp} {ps : List Addr} {rows : List SRow} {p : Addr} {j : Nat} (hl : ps.length = rows.length) (hj : j < rows.length) (hat : ∀ (i : Nat) (p : Addr) (r : SRow), ps[i]? = some p → rows[i]? = some r → RowT H p r) (hp : H p = some (.lst ((ps.take j ++ ps.drop (j + 1)).map V.ref))) :
    Sys RowT H p (rows.take j ++ rows.drop (j + 1)) := by
  refine ⟨_, hp, by simp [hl], fun i q r hq hr => ?_⟩
  by_cases k : i < j
  · rw [List.getElem?_append_left (by rw [List.length_take]; omega), List.getElem?_take_of_lt k] at hq hr
    exact hat i q r hq hr
  · rw [List.getElem?_append_right (by rw [List.length_take]; omega), List.getElem?_drop, List.length_take, Nat.min_eq_left (by omega)] at hq hr
    exact hat _ q r hq hr
theorem cut_drop {xs : List V} {k : Nat} (h : k ≤ xs.length) : cutV xs (some ((k : Nat) : Int)) none = xs.drop k := by
  unfold cutV
  rw [HT.sIx_none, HT.sIx_nat, Nat.min_eq_left h, List.take_of_length_le]
  rw [List.length_drop]
  exact Nat.le_refl _
theorem cut_take {xs : List V} {k : Nat} : cutV xs none (some ((k : Nat) : Int)) = xs.take k := by
  unfold cutV
  rw [HT.sIx_none, HT.sIx_nat, List.drop_zero, Nat.sub_zero]
  by_cases h : k ≤ xs.length
  · rw [Nat.min_eq_left h]
  · rw [Nat.min_eq_right (by omega), List.take_of_length_le (Nat.le_refl _), List.take_of_length_le (by omega)]
theorem sum_le_mul (g : Str → Nat) (n : Nat) : ∀ l : List Str, (∀ x ∈ l, g x ≤ n) → (l.map g).sum ≤ l.length * n
  | [], _ => Nat.zero_le _
  | x :: l, h => by
    have ih := sum_le_mul g n l fun y hy => h y (List.mem_cons_of_mem _ hy)
    have hx := h x List.mem_cons_self
    rw [List.map_cons, List.sum_cons, List.length_cons, Nat.succ_mul]
    omega
/-- what is known of the fewest rows -/
theorem few_facts {rows : List SRow} {v : Str → Int} (hv : Sat rows v) (g : Good rows) {ms : List Str} (mnd : ms.Nodup) (mem : ∀ x, x ∈ ms ↔ Named rows x) (h6 : ms.length ≤ 6) :
    Edges rows (fewestE rows ms) (headsOf (eqB rows) ms) ∧ Good (fewestE rows ms) ∧ (∀ u, Sat (fewestE rows ms) u → Sat rows u) ∧ (∀ r ∈ fewestE rows ms, r.1 ∈ ms ∧ r.2.1 ∈ ms) := by
  have eq := eqB_eqq hv
  have Hh := heads_ok eq ms
  have T := tests_ok hv (headsOf (eqB rows) ms)
  have N := edges_ok T hv mnd Hh
  have nm : ∀ x, x ∈ ms → x ≠ ("" : Str) := fun x hx => by
    obtain ⟨r, hr, e⟩ := (mem x).mp hx
    obtain ⟨_, h1, h2⟩ := g.row r hr
    rcases e with e | e
    · exact e ▸ h1
    · exact e ▸ h2
  have ins : ∀ r ∈ fewestE rows ms, r.1 ∈ ms ∧ r.2.1 ∈ ms := fun r hr => by
    obtain ⟨x, y, c⟩ := r
    rcases edges_mem (show (x, y, c) ∈ edgesE (eqB rows) (Wt rows) (cB rows (headsOf (eqB rows) ms)) (headsOf (eqB rows) ms) ms from hr) with ⟨h, _, m⟩ | m
    · obtain ⟨_, i, hi, ex, ey, _⟩ := ringE_mem m
      exact ⟨(List.mem_filter.mp (ex ▸ List.getElem_mem hi)).1, (List.mem_filter.mp (List.mem_of_getElem? ey)).1⟩
    · obtain ⟨h1, h2, _⟩ := leadE_mem.mp m
      exact ⟨Hh.sub x h1, Hh.sub y h2⟩
  refine ⟨N, ⟨fun r hr => ?_, ?_⟩, fun u hu => edges_tell T hv Hh (fun r hr => ⟨(mem _).mpr ⟨r, hr, .inl rfl⟩, (mem _).mpr ⟨r, hr, .inr rfl⟩⟩) hu, ins⟩
  · obtain ⟨x, y, c⟩ := r
    obtain ⟨i1, i2⟩ := ins _ hr
    exact ⟨(N.own x y c hr).1, nm x i1, nm y i2⟩
  · show (edgesE (eqB rows) (Wt rows) (cB rows (headsOf (eqB rows) ms)) (headsOf (eqB rows) ms) ms).length ≤ 100
    rw [edges_len]
    have hl := Nat.le_trans (nodup_le _ ms (Hh.nodup eq) Hh.sub) h6
    have a := sum_le_mul (fun h => if 1 < (ms.filter (eqB rows h)).length then (ms.filter (eqB rows h)).length else 0) 6 (headsOf (eqB rows) ms) fun x _ => by
      have := List.length_filter_le (eqB rows x) ms
      show (if _ then _ else _) ≤ 6
      split <;> omega
    have b := sum_le_mul (fun a => ((headsOf (eqB rows) ms).filter (cB rows (headsOf (eqB rows) ms) a)).length) 6 (headsOf (eqB rows) ms) fun x _ => Nat.le_trans (List.length_filter_le _ _) hl
    omega
theorem few_len {rows : List SRow} {v : Str → Int} (hv : Sat rows v) {ms zs : List Str} (mnd : ms.Nodup) (mem : ∀ x, x ∈ ms ↔ Named rows x) (end_nd : (("0" : Str) :: zs).Nodup) (zmem : ∀ x, x ∈ zs ↔ x ≠ "0" ∧ Named rows x) : (fewestE rows ms).length = dueN rows (("0" : Str) :: zs) := by
  have eq := eqB_eqq hv
  unfold fewestE dueN
  rw [edges_len]
  refine due_same hv (tests_ok hv _) (tests_ok hv _) (heads_ok eq ms) (heads_ok eq _) mnd end_nd (fun x hx => ?_) fun x hx hn y hy => ?_
  · by_cases e : x = "0"
    · exact e ▸ List.mem_cons_self
    · exact List.mem_cons_of_mem _ ((zmem x).mpr ⟨e, (mem x).mp hx⟩)
  · have nn : ¬ Named rows x := fun z => hn ((mem x).mpr z)
    refine ⟨?_, ?_⟩
    · rw [d_alone hv (fun r hr e => nn ⟨r, hr, .inl e.symm⟩) y, if_neg hy]
    · cases e : D rows y x with
      | none => rfl
      | some k =>
        rcases d_named hv e with z | z
        · exact absurd z.symm hy
        · exact absurd z nn
end Lo
set_option maxHeartbeats 2000000
namespace LoH
open PySem PySem.Spec PyProof.Rows L2 L2H HotX
section
variable {prog : Program} {w : World} {A : Around} {E : Value → Shared → Prop} {s : Shared}
theorem HotAt.keep {x1 : Addr} {h h' : Heap} (hot : HotAt A x1 h) (k : ∀ o, h.get? x1 = some o → h'.get? x1 = some o) : HotAt A x1 h' := by
  obtain ⟨e, o, vs, g, d, c⟩ := hot
  exact ⟨e, o, vs, k o g, d, c⟩
theorem HotAt.in1 {x1 : Addr} {h : Heap} (hot : HotAt A x1 h) : HotAt A.in1 x1 h := hot
/-- a StopIteration is made and raised while something is handled -/
theorem stop_hot {α : Type} {x1 : Addr} {Q : α → Shared → Prop} (hot : HotAt A x1 s.heap)
    (hE : ∀ (e : Addr) (h' : Heap), (∀ b o, s.heap.get? b = some o → h'.get? b = some o) → (∃ o, h'.get? e = some o ∧ o.cls = .type "StopIteration") → E (.ref e) { s with heap := h' }) :
    wpAny (model prog w) A (do let e ← newExc (.type "StopIteration") []; raiseNew e : Sem α) Q E s := by
  obtain ⟨hh, o1, vs1, h1, d1, c1⟩ := hot
  refine wpAny_bind ?_
  simp only [newExc, newTuple]
  refine wpAny_bind (wpAny_newObj_type ?_ (by size_fits))
  refine wpAny_bind (m := firstArgMember _ _) (wpAny_of_eq (a := Value.none) (by first | rfl | (simp only [firstArgMember]; rfl)) ?_)
  refine wpAny_newObj_type ?_ (by size_fits)
  have k1 := Heap.get?_push_of_some (h := s.heap) { cls := .type "tuple", data := .seq (#[] : Array Value) } h1
  refine raiseNew_hot ⟨hh, o1, vs1, Heap.get?_push_of_some _ k1, d1, c1⟩ (Nat.ne_of_lt (Heap.lt_size k1)) (Heap.get?_push_size _ rfl) rfl (by first | (simp; done) | (simp; omega)) ?_
  refine hE _ _ (fun b o e => ?_) ⟨_, Heap.get?_update_self _ (Heap.get?_push_size _ rfl) rfl, rfl⟩
  have k2 := Heap.get?_push_of_some (h := s.heap) { cls := .type "tuple", data := .seq (#[] : Array Value) } e
  rw [Heap.get?_update_other _ _ (Nat.ne_of_gt (Heap.lt_size k2))]
  exact Heap.get?_push_of_some _ k2
/-- all but it stands -/
theorem ext_upd {h h' : Heap} {it : Addr} {f : Obj → Obj} (k : ∀ b o, (h.update it f).get? b = some o → h'.get? b = some o) : Heap.ExtBut it h h' := fun b o n e =>
  k b o ((Heap.get?_update_other _ _ (Ne.symm n)).trans e)
theorem caught_stop {e : Addr} {Q : Option Value → Shared → Prop} (x : ∃ o, s.heap.get? e = some o ∧ o.cls = .type "StopIteration") (q : Q none s) :
    wpAny (model prog w) A (do let b ← isInstance (.ref e) (.type "StopIteration"); if b then pure none else throw (.ref e) : Sem (Option Value)) Q E s := by
  obtain ⟨o, ho, hc⟩ := x
  refine wpAny_bind (wpAny_isInstance (T := "StopIteration") (b := true) ⟨o, ho, hc⟩ isSubtype_stop ?_)
  exact wpAny_pure q
/-- the end of a list, of a tuple, of a dict's keys -/
theorem list_end {it l x1 : Addr} {i : Nat} {items : Array Value} {Q : Option Value → Shared → Prop} (hot : HotAt A x1 s.heap) (hne : x1 ≠ it)
    (hit : s.heap.IsListIter it l i) (hl : s.heap.IsList l items) (hx : items[i]? = none) (hQ : ∀ h', Heap.ExtBut it s.heap h' → Q none { s with heap := h' }) : wpAny (model prog w) A (pyNext (.ref it)) Q E s := by
  obtain ⟨ol, hol, _, nl, hdl⟩ := hl
  obtain ⟨o, ho, hc, hd⟩ := id hit
  unfold pyNext
  refine wpAny_bind (wpAny_attempt (wpAny_callSpecial?_slot (name := Str.ofString "__next__") hit.typeIs slot_listiter_next
    (wpAny_call_entry slot_listiter_next hit.typeIs entry_listiter_next ?_ (args_listiter_next _))))
  show wpAny _ A.in1 (field (.ref it) 0 >>= _) _ _ s
  refine wpAny_bind (wpAny_field ho hd (x := .ref l) rfl ?_)
  show wpAny _ A.in1 (if (Value.ref l == Value.none) = true then _ else _) _ _ s
  rw [if_neg (show ¬ ((Value.ref l == Value.none) = true) from Bool.false_ne_true)]
  show wpAny _ A.in1 (field (.ref it) 1 >>= _) _ _ s
  refine wpAny_bind (wpAny_field ho hd (x := .int i 0) rfl ?_)
  show wpAny _ A.in1 (seqItems? (.ref l) >>= _) _ _ s
  refine wpAny_bind (wpAny_seqItems hol hdl ?_)
  simp only [Int.toNat_natCast, hx]
  refine wpAny_bind (wpAny_rule (wpAny_bind (wpAny_setField ho hd (by simp) ?_)))
  refine stop_hot (A := A.in1) (x1 := x1) ?_ fun e h' k x => ?_
  · exact HotAt.keep (A := A.in1) hot fun o e => (Heap.get?_update_other _ _ (Ne.symm hne)).trans e
  · exact caught_stop x (hQ _ (ext_upd k))
theorem tuple_end {it t x1 : Addr} {i : Nat} {items : Array Value} {Q : Option Value → Shared → Prop} (hot : HotAt A x1 s.heap) (hne : x1 ≠ it)
    (hit : IsTupIter s.heap it t i) (ht : IsTup s.heap t items) (hx : items[i]? = none) (hQ : ∀ h', Heap.ExtBut it s.heap h' → Q none { s with heap := h' }) : wpAny (model prog w) A (pyNext (.ref it)) Q E s := by
  obtain ⟨ol, hol, _, nl, hdl⟩ := ht
  obtain ⟨o, ho, hc, hd⟩ := id hit
  unfold pyNext
  refine wpAny_bind (wpAny_attempt (wpAny_callSpecial?_slot (name := Str.ofString "__next__") hit.typeIs slot_tupleiter_next
    (wpAny_call_entry slot_tupleiter_next hit.typeIs entry_tupleiter_next ?_ (args_tupleiter_next _))))
  show wpAny _ A.in1 (field (.ref it) 0 >>= _) _ _ s
  refine wpAny_bind (wpAny_field ho hd (x := .ref t) rfl ?_)
  show wpAny _ A.in1 (if (Value.ref t == Value.none) = true then _ else _) _ _ s
  rw [if_neg (show ¬ ((Value.ref t == Value.none) = true) from Bool.false_ne_true)]
  show wpAny _ A.in1 (field (.ref it) 1 >>= _) _ _ s
  refine wpAny_bind (wpAny_field ho hd (x := .int i 0) rfl ?_)
  show wpAny _ A.in1 (seqItems? (.ref t) >>= _) _ _ s
  refine wpAny_bind (wpAny_seqItems hol hdl ?_)
  simp only [Int.toNat_natCast, hx]
  refine wpAny_bind (wpAny_rule (wpAny_bind (wpAny_setField ho hd (by simp) ?_)))
  refine stop_hot (A := A.in1) (x1 := x1) ?_ fun e h' k x => ?_
  · exact HotAt.keep (A := A.in1) hot fun o e => (Heap.get?_update_other _ _ (Ne.symm hne)).trans e
  · exact caught_stop x (hQ _ (ext_upd k))
theorem nextOf_end {it l x1 : Addr} {i : Nat} {items : Array Value} {Q : Value → Shared → Prop} (hot : HotAt A x1 s.heap) (hne : x1 ≠ it)
    (hit : s.heap.IsListIter it l i) (hl : s.heap.IsList l items) (hx : items[i]? = none)
    (hE : ∀ h' e, Heap.ExtBut it s.heap h' → (∃ o, h'.get? e = some o ∧ o.cls = .type "StopIteration") → E (.ref e) { s with heap := h' }) : wpAny (model prog w) A (Builtin.SmallTypes.nextOf (.ref it)) Q E s := by
  obtain ⟨ol, hol, _, nl, hdl⟩ := hl
  obtain ⟨o, ho, hc, hd⟩ := id hit
  unfold Builtin.SmallTypes.nextOf
  refine wpAny_bind (wpAny_callSpecial?_slot (name := Str.ofString "__next__") hit.typeIs slot_listiter_next
    (wpAny_call_entry slot_listiter_next hit.typeIs entry_listiter_next ?_ (args_listiter_next _)))
  show wpAny _ A.in1 (field (.ref it) 0 >>= _) _ _ s
  refine wpAny_bind (wpAny_field ho hd (x := .ref l) rfl ?_)
  show wpAny _ A.in1 (if (Value.ref l == Value.none) = true then _ else _) _ _ s
  rw [if_neg (show ¬ ((Value.ref l == Value.none) = true) from Bool.false_ne_true)]
  show wpAny _ A.in1 (field (.ref it) 1 >>= _) _ _ s
  refine wpAny_bind (wpAny_field ho hd (x := .int i 0) rfl ?_)
  show wpAny _ A.in1 (seqItems? (.ref l) >>= _) _ _ s
  refine wpAny_bind (wpAny_seqItems hol hdl ?_)
  simp only [Int.toNat_natCast, hx]
  refine wpAny_bind (wpAny_rule (wpAny_bind (wpAny_setField ho hd (by simp) ?_)))
  refine stop_hot (A := A.in1) (x1 := x1) ?_ fun e h' k x => hE h' e (ext_upd k) x
  exact HotAt.keep (A := A.in1) hot fun o e => (Heap.get?_update_other _ _ (Ne.symm hne)).trans e
theorem enum_end {e it l x1 : Addr} {i : Nat} {items : Array Value} {old : Value} {Q : Option Value → Shared → Prop} (hot : HotAt A x1 s.heap) (hne : x1 ≠ it)
    (he : IsEnum s.heap e it i old) (hit : s.heap.IsListIter it l i) (hl : s.heap.IsList l items) (hx : items[i]? = none)
    (hQ : ∀ h', Heap.ExtBut it s.heap h' → Q none { s with heap := h' }) : wpAny (model prog w) A (pyNext (.ref e)) Q E s := by
  have hT : s.TypeIs (.ref e) "enumerate" := ⟨_, he, rfl⟩
  unfold pyNext
  refine wpAny_bind (wpAny_attempt (wpAny_callSpecial?_slot (name := Str.ofString "__next__") hT F.slot_enumerate_next
    (wpAny_call_entry F.slot_enumerate_next hT F.entry_enumerate_next ?_ (F.args_enumerate_next_1 _))))
  show wpAny _ A.in1 (field (.ref e) 2 >>= _) _ _ _
  refine wpAny_bind (wpAny_field he rfl (x := .ref it) rfl ?_)
  refine wpAny_bind (nextOf_end (A := A.in1) hot hne hit hl hx fun h' x k c => ?_)
  exact caught_stop c (hQ _ k)
end
end LoH
set_option maxHeartbeats 2000000
namespace LoH
open PySem PySem.Spec PyProof.Rows L2 L2H HotX
section
variable {prog : Program} {w : World} {A : Around} {E : Value → Shared → Prop} {s : Shared}
/-- a tuple's items, each drawn -/
theorem unpack_hot {t x1 : Addr} {items : Array Value} {Q : List Value → Shared → Prop} (hot : HotAt A x1 s.heap) (ht : IsTup s.heap t items)
    (hQ : ∀ h', Heap.ExtBut s.heap.objs.size s.heap h' → Q items.toList { s with heap := h' }) : wpAny (model prog w) A (unpackItems (.ref t) items.size none) Q E s := by
  have hlt : t ≠ s.heap.objs.size := by
    obtain ⟨o, ho, _⟩ := ht
    exact Nat.ne_of_lt (Heap.lt_size ho)
  have hx1 : x1 ≠ s.heap.objs.size := by
    obtain ⟨_, o, vs, g, _⟩ := hot
    exact Nat.ne_of_lt (Heap.lt_size g)
  unfold unpackItems notIterableAtAll
  refine wpAny_bind (wpAny_bind (wpAny_specialOf ht.typeIs slot_tuple_iter.lookup (wpAny_pure ?_)))
  simp only [Bool.false_eq_true, if_false]
  refine wpAny_bind (wpAny_holding (iter_tuple ht (wpAny_bind (wpAny_holding (draw_tuple hlt items.size 0 _ _ ⟨_, Heap.get?_push_size _ rfl, rfl, rfl⟩ (ht.push _) (by omega) fun h₁ i₁ e₁ => ?_)))))
  have all : (items.toList.drop 0).take items.size = items.toList := by
    rw [List.drop_zero]
    exact List.take_of_length_le (by simp)
  rw [all, if_neg (by simp)]
  have t₁ : IsTup h₁ t items := (ht.push _).extBut e₁.extBut hlt
  have hot₁ : HotAt A x1 h₁ := HotAt.keep hot fun o g => (e₁.2 x1 hx1).trans (Heap.get?_push_of_some _ g)
  refine wpAny_bind (wpAny_holding (tuple_end hot₁ hx1 i₁ t₁ (by simp) fun h₂ e₂ => ?_))
  simp only [Option.isSome_none, Bool.false_eq_true, if_false]
  exact wpAny_pure (hQ h₂ fun b o hb g => e₂ b o hb (e₁.extBut b o hb (Heap.get?_push_of_some _ g)))
end
/-- a, b, c = a tuple -/
theorem pg_tupH {X : Cx} {pos : Pos} {es : List Expr} {k : Nat} {t : TGs} {n : Nat} (hc : HotC X) (h : PGs X es t)
    (hn : (assignEach es X.env).length = n := by rfl) (hst : (assignEach es X.env).findIdx? (·.1) = none := by rfl) : PG X (.Tuple es k pos) (gTup X.K n t) := by
  refine ⟨fun pins s σ H v u Q I r ⟨a, xs, e1, hq, hl, hw⟩ => ?_⟩
  subst e1
  cases r
  obtain ⟨its, rv, ht, hz⟩ := I.tuple hq
  obtain ⟨x1, hot⟩ := hc.at I
  have hn' : (assignEach es X.env).length = its.toArray.size := by
    have := rv.length
    simp [hn, ← hl, this]
  rw [assign_Tuple]
  refine wpAny_bind (wpAny_standAt ?_)
  unfold unpack
  rw [hn', hst]
  refine wpAny_bind (wpAny_holding (unpack_hot hot ht fun h' hx => ?_))
  have I1 : Inv X pins σ H { s with heap := h' } := I.kept (t' := s.toks) fun b o e => hx b o (Nat.ne_of_lt (Heap.lt_size e)) e
  exact h.run pins _ σ H xs _ Q I1 (by simpa using rv) hw
theorem hot_ne {X : Cx} {pins : List (Addr × Obj)} {σ : L2.St} {H : Hp} {s : Shared} {it : Addr} (hc : HotC X) (I : Inv X pins σ H s) (f5 : ∀ p ∈ X.pn ++ pins, p.1 ≠ it) : ∃ x1, HotAt X.A x1 s.heap ∧ x1 ≠ it := by
  obtain ⟨p, ⟨hh, v1, e1, c1⟩, hp⟩ := hc
  have hp' := List.mem_append_left pins hp
  exact ⟨p.1, ⟨hh, p.2, v1, (I.pin p hp').1, e1, c1⟩, f5 p hp'⟩
theorem turn_listH {P : Program} {w : World} {K : PySem.W.Frag} {tg : Expr} (a it : Addr) : TurnH P w K tg (Itl K a) [it] it (fun i h => h.IsListIter it a i) where
  mem := by simp
  obj := (turn_list (P := P) (w := w) (K := K) (tg := tg) a it).obj
  keep := (turn_list (P := P) (w := w) (K := K) (tg := tg) a it).keep
  item := by
    rintro X rfl rfl rfl hc i pins s σ H E I hf st ⟨xs, x, hq, hx⟩
    obtain ⟨f0, f1, f2, f3, f4, f5⟩ := hf it (by simp)
    obtain ⟨its, rv, p, hz⟩ := I.list hq
    obtain ⟨u, hu, ru⟩ := rv.get hx
    refine wpAny_pyNext_list_item st p.isList (x := u) (by simpa using hu) fun h' st' sb => ?_
    have I1 : Inv X pins σ H { s with heap := h' } := I.turned (t' := s.toks) (fun b o hb e => (sb.2 b hb).trans e) f0 f1 f3 f4 f5
    obtain ⟨o, e, c, d⟩ := id st'
    refine ⟨u, rfl, go_of (s := { s with heap := h' }) e c d (by decide) ⟨x, H, I1, ru, ⟨rfl, fun ys hy => ?_⟩, st', fun b hb => (hf b hb).1⟩⟩
    rw [I.list_inj hy hq]
    exact hx
  done := by
    rintro X rfl rfl rfl hc i pins s σ H E I hf st ⟨xs, hq, hx⟩
    obtain ⟨f0, f1, f2, f3, f4, f5⟩ := hf it (by simp)
    obtain ⟨its, rv, p, hz⟩ := I.list hq
    obtain ⟨x1, hot, hne⟩ := hot_ne hc I f5
    have hl := rv.length
    exact list_end hot hne st p.isList (by simp; omega) fun h' eb => ⟨rfl, I.turned (t' := s.toks) (fun b o hb e => eb b o hb e) f0 f1 f3 f4 f5⟩
  self := fun _ _ _ _ _ st h => wpAny_pyIter_listiter st h
theorem pi_listH {X : Cx} {tg l : Expr} {tl : TE} (hl : PE X l tl) : PIH X tg l (iList X.K tl) := by
  refine ⟨fun pins s σ H R I h => thn (hl.run pins s σ H _ I h) fun v s1 ⟨x, H1, I1, r1, a, e, ⟨xs, hq⟩, q⟩ => ?_⟩
  subst e
  cases r1
  obtain ⟨its, rv, p, hz⟩ := I1.list hq
  refine wpAny_pyIter_list p.isList ⟨s1.heap.objs.size, [s1.heap.objs.size], _, _, H1, rfl, I1.kept (t' := s1.toks) fun b o e => Heap.get?_push_of_some _ e, turn_listH a _, ⟨_, Heap.get?_push_size _ rfl, rfl, rfl⟩, fun b hb => ?_, q⟩
  obtain rfl : b = s1.heap.objs.size := by simpa using hb
  exact I1.fpOk (Nat.le_refl _) (I1.hok.fresh (Nat.le_refl _))
theorem turn_enumH {P : Program} {w : World} {K : PySem.W.Frag} {elts : List Expr} {kk : Nat} {tpos : Pos} (a e it : Addr) :
    TurnH P w K (.Tuple elts kk tpos) (Ite K a) [e, it] e (fun i h => (∃ old, IsEnum h e it ((i : Nat) : Int) old) ∧ h.IsListIter it a i ∧ e ≠ it) where
  mem := by simp
  obj := (turn_enum (P := P) (w := w) (K := K) (elts := elts) (kk := kk) (tpos := tpos) a e it).obj
  keep := (turn_enum (P := P) (w := w) (K := K) (elts := elts) (kk := kk) (tpos := tpos) a e it).keep
  item := by
    rintro X rfl rfl rfl hc i pins s σ H E I hf ⟨⟨old, he⟩, hit, hne⟩ ⟨xs, x, hq, hx⟩
    obtain ⟨its, rv, p, hz⟩ := I.list hq
    obtain ⟨u, hu, ru⟩ := rv.get hx
    have hel : e < s.heap.objs.size := Heap.lt_size he
    have hil : it < s.heap.objs.size := by
      obtain ⟨_, q, _⟩ := hit
      exact Heap.lt_size q
    refine wpAny_pyNext_enum_item he hit p.isList (x := u) (by simpa using hu) hne fun h' ho hit' hT hsz hk => ?_
    refine ⟨_, rfl, wpAny_letOwnedTupleGo_enum (s := { s with heap := h', toks := s.toks + 1 }) ho fun h'' he' sb => ?_⟩
    have hT2 := (sb.2 _ (Nat.ne_of_gt hel)).trans hT
    have new : ObjOk X.prog X.w (upd H s.heap.objs.size (.tup [.int (i : Nat), x])) h'' s.heap.objs.size (.tup [.int (i : Nat), x]) :=
      ⟨by show 2 ≤ sizeLine; decide, [.int i s.toks, u], .cons ⟨_, rfl⟩ (.cons ru .nil), ⟨_, hT2, rfl, _, rfl⟩⟩
    have I1 : Inv X pins σ (upd H s.heap.objs.size (.tup [.int (i : Nat), x])) { s with heap := h'', toks := s.toks + 1 } :=
      I.turnedNew (ch := [e, it]) (fun b ob hb q => (sb.2 b (fun z => hb (by simp [z]))).trans (hk b ob (fun z => hb (by simp [z])) (fun z => hb (by simp [z])) q)) hf (Nat.le_refl _) new
    refine ⟨.ref s.heap.objs.size, _, I1, rfl, ⟨_, x, rfl, I.hok.fresh (Nat.le_refl _), rfl, fun ys hy => ?_⟩, ⟨⟨u, ?_⟩, hit'.at fun o q => (sb.2 it (Ne.symm hne)).trans q, hne⟩, fun b hb => ?_⟩
    · rw [I.list_inj hy hq]
      exact hx
    · rw [show ((i + 1 : Nat) : Int) = (i : Int) + 1 by omega]
      exact he'
    · have hb' : b < s.heap.objs.size := by
        have z : b = e ∨ b = it := by simpa using hb
        rcases z with rfl | rfl
        · exact hel
        · exact hil
      rw [upd_ne (Nat.ne_of_lt hb')]
      exact (hf b hb).1
  done := by
    rintro X rfl rfl rfl hc i pins s σ H E I hf ⟨⟨old, he⟩, hit, hne⟩ ⟨xs, hq, hx⟩
    obtain ⟨f0, f1, f2, f3, f4, f5⟩ := hf it (by simp)
    obtain ⟨its, rv, p, hz⟩ := I.list hq
    obtain ⟨x1, hot, hn1⟩ := hot_ne hc I f5
    have hl := rv.length
    exact enum_end hot hn1 he hit p.isList (by simp; omega) fun h' eb => ⟨rfl, I.turned (t' := s.toks) (fun b o hb q => eb b o hb q) f0 f1 f3 f4 f5⟩
  self := fun A i s Q E st h => let ⟨⟨_, he⟩, _⟩ := st; wpAny_pyIter_enum he h
theorem pi_enumH {X : Cx} {e : Expr} {ta : TA} {p pos tpos : Pos} {elts : List Expr} {kk : Nat} (hg : Gl X "enumerate") (hm : X.mg "enumerate" = none) (ha : PA X [e] ta) (hs : starEach [e] X.env = [(false, eval e X.env)] := by rfl) :
    PIH X (.Tuple elts kk tpos) (.Call (.Name "enumerate" p) [e] [] pos) (iEnum X.K ta) := by
  refine ⟨fun pins s σ H R I h => Call_ (ld_blt I hg hm boot_enumerate (callWith_type1 (thn (ha.run pos pins s σ H _ I h) fun us s1 ⟨vs, H1, I1, r1, a, xs, ex, hq, q⟩ => ?_) hs rfl))⟩
  subst ex
  cases r1 with
  | cons r rr =>
    cases rr
    cases r
    obtain ⟨its, rv, p', hz⟩ := I1.list hq
    refine call_enumerate_list p'.isList fun h' he hit hsz hk => wpAny_pyIter_enum he ?_
    have I2 : Inv X pins σ H1 { s1 with heap := h' } := I1.kept (t' := s1.toks) hk
    refine ⟨s1.heap.objs.size + 1, [s1.heap.objs.size + 1, s1.heap.objs.size], _, _, H1, rfl, I2, turn_enumH a (s1.heap.objs.size + 1) s1.heap.objs.size, ⟨⟨.none, he⟩, hit, Nat.succ_ne_self _⟩, fun b hb => ?_, q⟩
    have z : b = s1.heap.objs.size + 1 ∨ b = s1.heap.objs.size := by simpa using hb
    have hle : s1.heap.objs.size ≤ b := z.elim (fun y => y ▸ Nat.le_add_right _ _) fun y => y ▸ Nat.le_refl _
    exact I1.fpOk hle (I1.hok.fresh hle)
section
variable {prog : Program} {w : World} {K : Type} [DecidableEq K] {knd : KeyKind prog w K} {A : Around}
/-- a dict's keys, one after the other, while something is handled -/
theorem keys_end {E : Value → Shared → Prop} {s : Shared} {it d x1 : Addr} {i ep : Nat} {kvs : List (K × Value)} {Q : Option Value → Shared → Prop} (hot : HotAt A x1 s.heap) (hne : x1 ≠ it) (hit : s.heap.IsKeyIter it d i kvs.length ep)
    (hm : s.heap.DictAt knd d kvs ep) (hx : kvs[i]? = none) (hQ : ∀ h', Heap.ExtBut it s.heap h' → Q none { s with heap := h' }) : wpAny (model prog w) A (pyNext (.ref it)) Q E s := by
  obtain ⟨od, es, hod, hcd, hdd, hk, hp, hn⟩ := id hm
  obtain ⟨o, ho, hc, hd⟩ := id hit
  have hsz : es.size = kvs.length := by rw [← hp.length]; simp
  have hge : es.size ≤ i := by rw [hsz]; simpa using hx
  have hown : Builtin.Dict_items.ownsTuple "dict_keyiterator" = false := by decide
  unfold pyNext
  refine wpAny_bind (wpAny_attempt (wpAny_callSpecial?_slot (name := Str.ofString "__next__") hit.typeIs F.slot_dict_keyiterator_next
    (wpAny_call_entry F.slot_dict_keyiterator_next hit.typeIs F.entry_dict_keyiterator_next ?_ (F.args_dict_keyiterator_next_1 _))))
  refine wpAny_bind (wpAny_pure (wpAny_bind (wpAny_bind ?_)))
  first | refine wpAny_bind (wpAny_typeNameOfWhole_keyiter hit.typeIs (wpAny_pure ?_)) | refine wpAny_bind (wpAny_typeNameOf_keyiter hit.typeIs (wpAny_pure ?_))
  refine wpAny_bind (wpAny_fieldsOf ho hd ?_)
  simp only [hown, Bool.false_eq_true, if_false]
  show wpAny _ _ (if (Value.ref d == Value.none) = true then _ else _) _ _ s
  rw [if_neg (show ¬ ((Value.ref d == Value.none) = true) from Bool.false_ne_true)]
  refine wpAny_bind (wpAny_pure (wpAny_bind (wpAny_dictEntries hod hdd ?_)))
  rw [if_neg (by rw [hsz]; simp)]
  refine wpAny_bind (wpAny_pure (wpAny_bind (wpAny_dictEpoch hod hdd ?_)))
  rw [if_neg (by simp)]
  refine wpAny_pure ?_
  simp only [show ¬ ((i : Int) < 0) from by omega, if_false, Int.toNat_natCast, Array.getElem?_eq_none hge]
  refine wpAny_bind ?_
  first | refine wpAny_bind (wpAny_typeNameOfWhole_keyiter hit.typeIs (wpAny_pure ?_)) | refine wpAny_bind (wpAny_typeNameOf_keyiter hit.typeIs (wpAny_pure ?_))
  show wpAny _ _ (setField (.ref it) 0 .none >>= _) _ _ s
  refine wpAny_bind (wpAny_setField ho hd (by simp) ?_)
  refine stop_hot (A := A.in1) (x1 := x1) ?_ fun e h' k x => ?_
  · exact HotAt.keep (A := A.in1) hot fun o e => (Heap.get?_update_other _ _ (Ne.symm hne)).trans e
  · exact caught_stop x (hQ _ (ext_upd k))
end
end LoH
set_option maxHeartbeats 2000000
namespace LoH
open PySem PySem.Spec PyProof.Rows L2 L2H HotX
section
variable {prog : Program} {w : World} {K : Type} [DecidableEq K] {knd : KeyKind prog w K} {A : Around}
theorem walks_keys {x1 : Addr} (I d : Addr) (hne : d ≠ I) (h1 : x1 ≠ I) (kvs : List (K × Value)) (ep : Nat) :
    Walks prog w A I [I, d, x1] [I] kvs.length (fun i v => ∃ k x, kvs[i]? = some (k, x) ∧ knd.is k v = true) (fun i h => (h.IsKeyIter I d i kvs.length ep ∧ h.DictAt knd d kvs ep) ∧ HotAt A x1 h) where
  sub := fun b hb => by
    obtain rfl : b = I := by simpa using hb
    simp
  frame := fun i h h' st hk => ⟨⟨st.1.1.at fun o e => hk I (by simp) o e, st.1.2.at' fun o e => hk d (by simp) o e⟩, HotAt.keep st.2 fun o e => hk x1 (by simp) o e⟩
  item := fun i s Q E hi st hQ => by
    have hx : kvs[i]? = some (kvs[i].1, kvs[i].2) := by simp [hi]
    refine wpAny_pyNext_dict_item st.1.1 st.1.2 hx fun key h' hkey it' hs => ?_
    have kp : ∀ b o, b ∉ [I] → s.heap.get? b = some o → h'.get? b = some o := fun b o hb e => hs.extBut b o (fun z => hb (by simp [z])) e
    exact hQ key h' s.toks ⟨_, _, hx, hkey⟩ ⟨⟨it', st.1.2.extBut hs.extBut hne⟩, HotAt.keep st.2 fun o e => kp x1 o (by simpa using h1) e⟩ kp
  done := fun s Q E st hQ => keys_end st.2 h1 st.1.1 st.1.2 (by simp) fun h' e => hQ h' s.toks fun b o hb g => e b o (fun z => hb (by simp [z])) g
  self := fun _ _ _ _ st hQ => wpAny_pyIter_keyiter st.1.1 hQ
theorem extend_keys {s : Shared} {R : Result → Shared → Prop} {d x1 S : Addr} {kvs : List (K × Value)} {ep : Nat} (lo : (d == sysModules) = false) (hot : HotAt A x1 s.heap) (hm : s.heap.DictAt knd d kvs ep) (hSd : S ≠ d) (hS1 : S ≠ x1) (res : Value) (c₀ : Nat)
    (hS : s.heap.get? S = some { cls := .type "list", data := .seq #[] c₀ }) (hn : kvs.length ≤ sizeLine)
    (hR : ∀ h' tk acc' c', (∀ b o, b ≠ S → s.heap.get? b = some o → h'.get? b = some o) → h'.get? S = some { cls := .type "list", dict := none, data := .seq acc' c', slots := #[] } →
      ItemsOf (fun i v => ∃ k x, kvs[i]? = some (k, x) ∧ knd.is k v = true) acc' kvs.length → R (.ok (.ret res)) { s with heap := h', toks := tk }) :
    wpAny (model prog w) A.in1 (Builtin.List.listExtendWith (.ref S) (.ref d) res)
      (fun fin s' => match fin with | .done f => R (.ok f) s' | .again c' => c'.quiet = true ∧ codeAny (model prog w) A c' R s') (fun e s' => R (.error e) s') s := by
  have hSI : S ≠ s.heap.objs.size := Nat.ne_of_lt (Heap.lt_size hS)
  have h1I : x1 ≠ s.heap.objs.size := by
    obtain ⟨_, o, vs, g, _⟩ := hot
    exact Nat.ne_of_lt (Heap.lt_size g)
  have hSf : S ∉ [s.heap.objs.size, d, x1] := by
    simp only [List.mem_cons, List.not_mem_nil, or_false, not_or]
    exact ⟨hSI, hSd, hS1⟩
  have W := walks_keys (prog := prog) (w := w) (knd := knd) (A := A.in1) s.heap.objs.size d (Nat.ne_of_lt hm.lt_size) h1I kvs ep
  have turns : ∀ (h : Heap) (c₁ tk : Nat), ((h.IsKeyIter s.heap.objs.size d 0 kvs.length ep ∧ h.DictAt knd d kvs ep) ∧ HotAt A.in1 x1 h) → (∀ b o, b ≠ S → s.heap.get? b = some o → h.get? b = some o) →
      h.get? S = some { cls := .type "list", data := .seq #[] c₁ } → codeAny (model prog w) A (.builtin "list.extend.loop" ⟨[.ref S, .ref s.heap.objs.size, res], []⟩) R { s with heap := h, toks := tk } := by
    intro h c₁ tk hst hk g
    refine codeAny_extend_loopS W.toS hn S hSf res kvs.length 0 _ #[] c₁ rfl (Nat.zero_le _) hst g (ItemsOf.nil _) fun s' acc' c' hmv hS' hacc => ?_
    rw [Moved.eq_with hmv]
    refine hR s'.heap s'.toks acc' c' (fun b o hb e => hmv.heap b o (fun hmem => ?_) (hk b o hb e)) hS' hacc
    rcases List.mem_cons.mp hmem with z | z
    · exact hb z
    · exact absurd (Heap.lt_size e) (by rw [List.mem_singleton.mp z]; exact Nat.lt_irrefl _)
  unfold Builtin.List.listExtendWith
  refine wpAny_bind (wpAny_typeOf (T := "dict") hm.dictOf.typeIs ?_)
  have hsame : Builtin.List.listSameRef (.ref S) (.ref d) = false := by simp [Builtin.List.listSameRef, hSd]
  simp only [hsame, show (Value.type "dict" == Value.type "list") = false from by decide, show (Value.type "dict" == Value.type "tuple") = false from by decide, Bool.or_false, Bool.false_eq_true, if_false]
  refine wpAny_bind (wpAny_pyIter_dict lo hm ?_)
  refine wpAny_bind (wpAny_holding (PySem.W.kdl_hint_dict (hm.push _).dictOf.typeIs ?_))
  refine wpAny_ite_split (fun _ => ?_) (fun _ => wpAny_pure ⟨plainId_quiet PySem.F.plain_extend_loop _, turns _ c₀ _ ⟨⟨⟨_, Heap.get?_push_size _ rfl, rfl, rfl⟩, hm.push _⟩, HotAt.keep hot fun o e => Heap.get?_push_of_some _ e⟩ (fun b o _ e => Heap.get?_push_of_some _ e) (Heap.get?_push_of_some _ hS)⟩)
  refine wpAny_bind (wpAny_rule (wpAny_bind ?_))
  show wpAny _ _ (updateSeq S (·.push .none) >>= fun _ => updateSeq S (·.pop)) _ _ _
  refine wpAny_bind (wpAny_updateSeq (Heap.get?_push_of_some _ hS) rfl ?_)
  have g2 := Heap.get?_update_self (Obj.mapSeq (·.push Value.none)) (Heap.get?_push_of_some (h := s.heap) { cls := .type "dict_keyiterator", data := .fields #[.ref d, rawInt 0, rawInt kvs.length, rawInt ep] } hS) rfl
  refine wpAny_updateSeq (hz := by seq_fits) g2 rfl ?_
  have g3 := Heap.get?_update_self (Obj.mapSeq (·.pop)) g2 rfl
  have far : ∀ b o, b ≠ S → (s.heap.push { cls := .type "dict_keyiterator", data := .fields #[.ref d, rawInt 0, rawInt kvs.length, rawInt ep] }).get? b = some o →
      (((s.heap.push { cls := .type "dict_keyiterator", data := .fields #[.ref d, rawInt 0, rawInt kvs.length, rawInt ep] }).update S (Obj.mapSeq (·.push Value.none))).update S (Obj.mapSeq (·.pop))).get? b = some o := fun b o hb e =>
    (Heap.get?_update_other _ _ (Ne.symm hb)).trans ((Heap.get?_update_other _ _ (Ne.symm hb)).trans e)
  refine wpAny_pure ⟨plainId_quiet PySem.F.plain_extend_loop _, turns _ _ _ (W.frame 0 _ _ ⟨⟨⟨_, Heap.get?_push_size _ rfl, rfl, rfl⟩, hm.push _⟩, HotAt.keep hot fun o e => Heap.get?_push_of_some _ e⟩ fun b hb o e => far b o (fun z => hSf (z ▸ hb)) e) (fun b o hb e => far b o hb (Heap.get?_push_of_some _ e)) g3⟩
/-- list(d) -/
theorem list_keys {E : Value → Shared → Prop} {s : Shared} {d x1 : Addr} {kvs : List (K × Value)} {ep : Nat} {Q : Value → Shared → Prop} (lo : (d == sysModules) = false) (hot : HotAt A x1 s.heap) (hm : s.heap.DictAt knd d kvs ep) (hn : kvs.length ≤ sizeLine)
    (hQ : ∀ h' tk acc' c', (∀ b o, s.heap.get? b = some o → h'.get? b = some o) → h'.get? s.heap.objs.size = some { cls := .type "list", dict := none, data := .seq acc' c', slots := #[] } →
      ItemsOf (fun i v => ∃ k x, kvs[i]? = some (k, x) ∧ knd.is k v = true) acc' kvs.length → Q (.ref s.heap.objs.size) { s with heap := h', toks := tk }) :
    wpAny (model prog w) A (call (.type "list") [.ref d]) Q E s := by
  refine callType_codes (Q₁ := fun obj s₁ => obj = .ref s.heap.objs.size ∧ s₁ = { s with heap := s.heap.push { cls := .type "list", data := .seq #[] } }) PySem.F.called_list (PySem.F.typeCall_list_1 _) PySem.F.entry_list_init
    (code_list_new _ ⟨rfl, rfl⟩) fun obj s₁ h₁ => ?_
  obtain ⟨rfl, rfl⟩ := h₁
  have g0 : (s.heap.push { cls := .type "list", data := .seq #[] }).get? s.heap.objs.size = some { cls := .type "list", data := .seq #[] } := Heap.get?_push_size _ rfl
  have g1 := Heap.get?_update_self (Obj.mapSeq (fun _ => (#[] : Array Value))) g0 rfl
  have n1 : x1 ≠ s.heap.objs.size := by
    obtain ⟨_, o, vs, g, _⟩ := hot
    exact Nat.ne_of_lt (Heap.lt_size g)
  have nd : d ≠ s.heap.objs.size := Nat.ne_of_lt hm.lt_size
  have far : ∀ b o, b ≠ s.heap.objs.size → s.heap.get? b = some o → ((s.heap.push { cls := .type "list", data := .seq #[] }).update s.heap.objs.size (Obj.mapSeq (fun _ => (#[] : Array Value)))).get? b = some o := fun b o hb e =>
    (Heap.get?_update_other _ _ (Ne.symm hb)).trans (Heap.get?_push_of_some _ e)
  refine ⟨⟨_, g0, rfl⟩, PySem.F.args_list_init_2 _ _, ?_⟩
  show wpAny _ _ (do let old ← Builtin.List.listItems (.ref s.heap.objs.size); Builtin.List.listUpdate (.ref s.heap.objs.size) (fun _ => #[]); letGo old.toList.reverse; Builtin.List.listExtendWith (.ref s.heap.objs.size) (.ref d) .none) _ _ _
  refine wpAny_bind ?_
  unfold Builtin.List.listItems
  refine wpAny_bind (wpAny_seqItems g0 rfl (wpAny_pure ?_))
  show wpAny _ _ (updateSeq s.heap.objs.size (fun _ => #[]) >>= fun _ => letGo (#[] : Array Value).toList.reverse >>= fun _ => Builtin.List.listExtendWith (.ref s.heap.objs.size) (.ref d) .none) _ _ _
  refine wpAny_bind (wpAny_updateSeq g0 rfl (wpAny_bind (wpAny_letGo ?_)))
  refine extend_keys (A := A.in1) (s := { s with heap := (s.heap.push { cls := .type "list", data := .seq #[] }).update s.heap.objs.size (Obj.mapSeq (fun _ => (#[] : Array Value))) }) lo (HotAt.keep (A := A.in1) hot fun o e => far x1 o n1 e) (hm.at' fun o e => far d o nd e) (Ne.symm nd) (Ne.symm n1) .none _ g1 hn fun h' tk acc' c' hk hS' hacc => ?_
  exact ⟨rfl, hQ h' tk acc' c' (fun b o e => hk b o (Nat.ne_of_lt (Heap.lt_size e)) (far b o (Nat.ne_of_lt (Heap.lt_size e)) e)) hS' hacc⟩
end
/-- list(d): its keys -/
theorem call_listDH {X : Cx} (hc : HotC X) : CallR X (.type "list") (fun xs H Q => ∃ (a : Addr) (kvs : List (Key × V)), xs = [.ref a] ∧ Rd H a (.dK kvs) ∧ ∀ p, H p = none → Q (.ref p) (upd H p (.lst (kvs.map fun kv => kV kv.1)))) := by
  rintro pins s σ H xs us Q I r ⟨a, kvs, rfl, hd, q⟩
  obtain ⟨u, rfl, rx⟩ := vals1 r
  cases rx
  obtain ⟨x1, hot⟩ := hc.at I
  obtain ⟨z, lo, vs, rel, dd⟩ := dk_rd I.hok hd
  obtain ⟨ep, hat⟩ := dd.dictAt
  have ek : (kvs.map fun kv => kV kv.1) = vs.map fun p => kV p.1 := by
    have e := congrArg (List.map kV) rel.keys
    rw [List.map_map, List.map_map] at e
    exact e
  refine list_keys (knd := mixKind X.prog X.w) (kvs := vs) (ep := ep) lo hot hat (by rw [← rel.length]; exact z) fun h' tk acc c' hk hD hacc => ?_
  have hv : Vals (vs.map fun p => kV p.1) acc.toList := keys_at (by rw [Array.length_toList]; exact hacc.1) fun j v e => hacc.2 j v (by rw [← Array.getElem?_toList]; exact e)
  refine ⟨.ref s.heap.objs.size, upd H s.heap.objs.size (.lst (kvs.map fun kv => kV kv.1)), I.laid (t' := tk) hk (Nat.le_refl _)
    (show ObjOk X.prog X.w _ _ _ (.lst (kvs.map fun kv => kV kv.1)) from ⟨by rw [List.length_map]; exact z, acc.toList, c', by rw [ek]; exact hv, by rw [Array.toArray_toList]; exact hD⟩), rfl, q _ (I.hok.fresh (Nat.le_refl _))⟩
end LoH
namespace LoH
open PySem PySem.Spec PyProof.Rows L2 L2H
section
variable {P : Program} {w : World} {K : PySem.W.Frag} {mg : Str → Option Value} {base : Heap}
theorem hotC_start {CX : CXT} {N : List Str} {qual : Str} {scope : Scope} {f : Addr} {cd : Value} {A : Around} {outer : List Env} {s : Shared} {H : Hp} {E : XK} {p : Addr × Obj} (h : Hot1 A p) : HotC (cxH CX P w K mg base N qual scope f cd A outer s H E p).nox := ⟨p, h, List.mem_singleton.mpr rfl⟩
/-- a def's body, called where something is handled -/
theorem okH {x qual : Str} {st : Stmt} {f : Addr} {fd : FuncData} {N ps : List Str} {k : Nat} {sp : Sp} (F : Fun K x qual st f fd) (S : FnScope N ps (defScope st)) (len : ∀ vs H Q E, sp vs H Q E → vs.length = ps.length)
    (hbody : ∀ (cdv : Value) (A : Around) (outer : List Env) (s : Shared) (H : Hp) (vs : List V) (Q : VK) (E : XK) (p : Addr × Obj), HotC (cxH CX0 P w K mg base N qual (defScope st) f cdv A outer s H E p).nox → RoomH k (A.deeper (envOfC qual (defScope st) s.heap.objs.size f cdv)) → sp vs H Q E →
      ∃ t, PSs (cxH CX0 P w K mg base N qual (defScope st) f cdv A outer s H E p).nox (defBody st) t ∧ t { nx := fun _ H' => Q .non H', rt := Q } (L2.start N vs) H) : FnH P w K mg base CX0 (k + 1) f fd ps sp := by
  obtain ⟨oc, od, kV, doc, pm, an, cdv, ct, osl, rfl, lk, hcd⟩ := F.ex
  refine fn_ofH lk hcd S len fun A outer s H vs Q E p hot hr hsp => ?_
  obtain ⟨t, h, q⟩ := hbody cdv A outer s H vs Q E p (hotC_start hot) hr hsp
  exact ⟨t, h.nox, q⟩
end
end LoH
namespace Lo
open PySem L2 L2H LoH
section
variable {P : Program} {w : World} {K : PySem.W.Frag} {mg : Str → Option Value} {base : Heap}
theorem passH {X : Cx} : ∀ σ : L2.St, PassesAt CX0 X σ E0 := fun _ _ _ _ _ _ _ h => h.elim
theorem huH {k : Nat} {A : Around} (r : RoomH k A) : A.units + 1 < cLine := by have := r.un; omega
def spDiffT : Sp := fun vs H Q _ => ∃ (p : Addr) (r : SRow), vs = [.ref p] ∧ RowT H p r ∧ Good1 r ∧ ∀ H', Same H H' → Q (.bl true) H'
def spReadT : Sp := fun vs H Q _ => ∃ (a : Addr) (rows : List SRow), vs = [.ref a] ∧ Sys RowT H a rows ∧ Good rows ∧ ∀ H' q, Same H H' → H q = none → Sys RowT H' q rows → Q (.ref q) H'
def spRingT : Sp := fun vs H Q _ => ∃ (a : Addr) (rows : List SRow), vs = [.ref a] ∧ Sys RowT H a rows ∧ Good rows ∧
  ∀ H' x, Same H H' → ((x = .non ∧ ∃ v, Sat rows v) ∨ ∃ q, x = .ref q ∧ RingAt H' q rows) → Q x H'
theorem okh_whole {f : Addr} {fd : FuncData} (F : Fun K "is_whole" "is_whole" sWhole f fd) (T : Blt mg) : FnH P w K mg base CX0 1 f fd ["thing"] spWhole := by
  refine okH F scWhole (fun vs H Q E h => ?_) (fun cdv A outer s H vs Q E pp hc hr h => ?_)
  · obtain ⟨i, rfl, _⟩ := h
    rfl
  · obtain ⟨i, rfl, q⟩ := h
    refine ⟨_, pss_one (ps_ret (pe_and (pe_callB call_isi (by rfl) T.isi PyProof.Rows.boot_isinstance (pa_cons (pv 0) (pa_cons (pe_bltn (v := .ty "int") rfl T.int PyProof.Rows.boot_int rfl) pa_nil)))
      (pe_one (pe_not (pe_callB call_isi (by rfl) T.isi PyProof.Rows.boot_isinstance (pa_cons (pv 0) (pa_cons (pe_bltn (v := .ty "bool") rfl T.bool PyProof.Rows.boot_bool rfl) pa_nil))))))), ?_⟩
    refine ⟨_, rfl, _, _, _, _, true, rfl, .ty _, .base (.int _), kit_ty (by decide +kernel), true, rfl, iteT ?_⟩
    exact ⟨_, rfl, _, _, _, _, false, rfl, .ty _, .base (.int _), kit_ty (by decide +kernel), false, rfl, q⟩
theorem okh_side {f : Addr} {fd : FuncData} (F : Fun K "is_side" "is_side" sSide f fd) (T : Blt mg) : FnH P w K mg base CX0 1 f fd ["thing"] spSide := by
  refine okH F scSide (fun vs H Q E h => ?_) (fun cdv A outer s H vs Q E pp hc hr h => ?_)
  · obtain ⟨i, rfl, _⟩ := h
    rfl
  · obtain ⟨x, rfl, hx, q⟩ := h
    refine ⟨_, pss_one (ps_ret (pe_and (pe_callB call_isi (by rfl) T.isi PyProof.Rows.boot_isinstance (pa_cons (pv 0) (pa_cons (pe_bltn (v := .ty "str") rfl T.str PyProof.Rows.boot_str rfl) pa_nil)))
      (pe_one (pe_cmpR op_ne (pv 0) pe_str (nomark _))))), ?_⟩
    refine ⟨_, rfl, _, _, _, _, true, rfl, .ty _, .base (.str _), kit_ty (by decide +kernel), true, rfl, iteT ?_⟩
    refine ⟨_, rfl, rfl, ?_⟩
    rw [decide_eq_false (fun e => hx (V.str.inj e))]
    exact q
theorem okh_diff {f fS fW : Addr} {fd fdS fdW : FuncData} (F : Fun K "is_difference" "is_difference" sDiff f fd) (T : Blt mg) (FS : Fun K "is_side" "is_side" sSide fS fdS) (bS : Binds K fdS ["thing"] []) (gS : mg "is_side" = some (.ref fS))
    (FW : Fun K "is_whole" "is_whole" sWhole fW fdW) (bW : Binds K fdW ["thing"] []) (gW : mg "is_whole" = some (.ref fW)) : FnH P w K mg base CX0 2 f fd ["thing"] spDiffT := by
  have GS : FnH P w K mg base CX0 1 fS fdS ["thing"] spSide := okh_side FS T
  have GW : FnH P w K mg base CX0 1 fW fdW ["thing"] spWhole := okh_whole FW T
  refine okH F scDiff (fun vs H Q E h => ?_) (fun cdv A outer s H vs Q E pp hc hr h => ?_)
  · obtain ⟨p, r, rfl, _⟩ := h
    rfl
  · obtain ⟨p, r, rfl, hR, ⟨g1, g2, g3⟩, q⟩ := h
    refine ⟨_, pss_cons (ps_if (PW.pt (pw_or (pt_not (pt_val (pe_callB call_isiT (by rfl) T.isi PyProof.Rows.boot_isinstance (pa_cons (pv 0)
            (pa_cons (pe_tup (pa_cons (pe_bltn (v := .ty "tuple") rfl T.tuple PyProof.Rows.boot_tuple rfl) (pa_cons (pe_bltn (v := .ty "list") rfl T.list PyProof.Rows.boot_list rfl) pa_nil))) pa_nil)))))
          (pw_or1 (pt_cmpR op_ne (pe_callB call_len_seq (by rfl) T.len PySem.boot_len (pa_cons (pv 0) pa_nil)) pe_int (nomark _)))))
        (pss_one (ps_ret pe_bl)) pss_nil)
      (pss_cons (ps_asg (pv 0) (pg_tupH hc (pgs_cons (pg_name (i := 1) scDiff.nd rfl (.inl rfl)) (pgs_cons (pg_name (i := 2) scDiff.nd rfl (.inl rfl)) (pgs_cons (pg_name (i := 3) scDiff.nd rfl (.inl rfl)) pgs_nil)))))
      (pss_one (ps_ret (pe_and (pe_callH GS hr hc (by rfl) gS FS.kp bS passH (pa_cons (pv 1) pa_nil)) (pe_and (pe_callH GS hr hc (by rfl) gS FS.kp bS passH (pa_cons (pv 2) pa_nil))
        (pe_and (pe_cmpR op_ne (pv 1) (pv 2) (nomark _)) (pe_one (pe_callH GW hr hc (by rfl) gW FW.kp bW passH (pa_cons (pv 3) pa_nil))))))))), ?_⟩
    refine ⟨_, rfl, by show 2 ≤ sizeLine; decide, fun tp ntp => ?_⟩
    have s1 : Same H (upd H tp (.tup [.ty "tuple", .ty "list"])) := same_upd ntp
    have hR1 := hR.same s1
    · refine ⟨.ref p, tp, _, _, [.type "tuple", .type "list"], true, rfl, upd_same, .cons (.ty _) (.cons (.ty _) .nil), .base (.tup hR1), ?_, ?_⟩
      · exact kitAny_cons (b := true) (kit_ty (by decide +kernel)) (fun z => nomatch z) (fun _ => rfl)
      · refine ⟨true, rfl, iteF ⟨.ref p, rfl, p, rowV r, rfl, .inr (SqT.of hR1), rfl, false, rfl, iteF ?_⟩⟩
        refine ⟨.ref p, rfl, p, rowV r, rfl, SqT.of hR1, rfl, ?_⟩
        refine ⟨_, _, rfl, _, _, rfl, _, _, rfl, rfl, ?_⟩
        refine ⟨_, rfl, _, rfl, g2, true, rfl, iteT ?_⟩
        refine ⟨_, rfl, _, rfl, g3, true, rfl, iteT ?_⟩
        refine ⟨_, rfl, _, rfl, rfl, _, rfl, ?_⟩
        rw [decide_eq_false (fun e => g1 (V.str.inj e))]
        exact iteT ⟨_, rfl, _, rfl, q _ s1⟩

end
end Lo
namespace Lo
open PySem L2 L2H LoH
section
variable {P : Program} {w : World} {K : PySem.W.Frag} {mg : Str → Option Value} {base : Heap}
theorem okh_read {f fD : Addr} {fd fdD : FuncData} (F : Fun K "read_system" "read_system" sRead f fd) (T : Blt mg) (GD : FnH P w K mg base CX0 2 fD fdD ["thing"] spDiffT) (kD : PySem.W.keepIn K (.ref fD) = true) (bD : Binds K fdD ["thing"] []) (gD : mg "is_difference" = some (.ref fD)) :
    FnH P w K mg base CX0 3 f fd ["system"] spReadT := by
  refine okH F scRead (fun vs H Q E h => ?_) (fun cdv A outer s H vs Q E pp hc hr h => ?_)
  · obtain ⟨a, rows, rfl, _⟩ := h
    rfl
  · obtain ⟨a, rows, rfl, ⟨ps, hA, hl, hat⟩, g, q⟩ := h
    refine ⟨_, pss_cons (ps_set (i := 1) scRead.nd rfl (.inl rfl) (pe_lst pa_nil))
      (pss_cons (ps_forH PassesOwn.never hc (pi_enumH (by rfl) T.enum (pa_cons (pv 0) pa_nil)) (pg_tupH hc (pgs_cons (pg_name (i := 2) scRead.nd rfl (.inl rfl)) (pgs_cons (pg_name (i := 3) scRead.nd rfl (.inl rfl)) pgs_nil)))
        (pss_cons (ps_if (pt_not (pt_val (pe_callH GD hr hc (by rfl) gD kD bD passH (pa_cons (pv 3) pa_nil)))) (pss_one ps_never) pss_nil)
        (pss_one (ps_expr (pe_bm PySem.F.plainAttrs_list PySem.F.slot_list_append PySem.F.type_list_append mt_append (pv 1)
          (pa_cons (pe_callTy call_tuple_of (by rfl) T.tuple PyProof.Rows.boot_tuple (pa_cons (pv 3) pa_nil)) pa_nil))))))
      (pss_one (ps_ret (pv 1)))), ?_⟩
    refine ⟨Nat.zero_le _, fun o no => ?_⟩
    have s1 : Same H (upd H o (.lst [])) := same_upd no
    refine ⟨.ref a, rfl, a, ps.map V.ref, rfl, SqL.of (s1 _ _ hA), for_it walk_enum (fun i σ H' => ∃ (y2 y3 : Option V) (qs : List Addr), σ = [some (.ref a), some (.ref o), y2, y3] ∧ Same H H' ∧ H' o = some (.lst (qs.map V.ref)) ∧ qs.length = i ∧
        ∀ (j : Nat) (p : Addr) (r : SRow), qs[j]? = some p → rows[j]? = some r → RowT H' p r) ⟨none, none, [], rfl, s1, upd_same, rfl, fun j p r e => nomatch e⟩ (fun i σ H' _ ⟨_, _, _, _, sm, _⟩ => SqL.of (sm _ _ hA)) ?_ ?_⟩
    · rintro i x σ H1 H2 hi ⟨y2, y3, qs, rfl, sm, ho, hq, hrow⟩ ⟨tp, x1, x2, rfl, ntp, rfl, e1, e2⟩
      obtain ⟨p, r, rfl, hp, hrr, hmem, hlt, hR⟩ := Sys.at hl hat e2
      have smT : Same H1 (upd H1 tp (.tup [x1, .ref p])) := same_upd ntp
      refine ⟨tp, _, rfl, SqT.of upd_same, rfl, _, _, rfl, _, _, rfl, rfl, ?_⟩
      refine ⟨.ref p, rfl, p, r, rfl, (hR.same sm).same smT, g.row r hmem, fun H3 s3 => ⟨true, rfl, iteF ?_⟩⟩
      have ho3 : H3 o = some (.lst (qs.map V.ref)) := s3 _ _ (smT _ _ ho)
      have sm3 : Same H1 H3 := smT.trans s3
      have fin : ∀ (H4 : Hp) (p' : Addr), Same H3 H4 → RowT H4 p' r → ∃ y2' y3' qs', [some (V.ref a), some (.ref o), some x1, some (.ref p)] = [some (.ref a), some (.ref o), y2', y3'] ∧ Same H (upd H4 o (.lst (qs.map V.ref ++ [.ref p']))) ∧
          upd H4 o (.lst (qs.map V.ref ++ [.ref p'])) o = some (.lst (List.map V.ref qs')) ∧ qs'.length = i + 1 ∧ ∀ (j : Nat) (p : Addr) (r : SRow), qs'[j]? = some p → rows[j]? = some r → RowT (upd H4 o (.lst (qs.map V.ref ++ [.ref p']))) p r := by
        intro H4 p' s4 hR4
        have out : ∀ (b : Addr) (r : SRow), RowT H4 b r → RowT (upd H4 o (.lst (qs.map V.ref ++ [.ref p']))) b r := fun b r hb => by
          have nb : b ≠ o := ne_of hb (s4 _ _ ho3) (by intro z; cases z)
          show upd H4 o _ b = _
          rw [upd_ne nb]
          exact hb
        refine ⟨_, _, qs ++ [p'], rfl, ((sm.trans sm3).trans s4).later no, ?_, by rw [List.length_append, hq]; rfl, fun j pj rj hj hr' => ?_⟩
        · rw [upd_same, List.map_append]
          rfl
        · by_cases k : j < i
          · rw [List.getElem?_append_left (by omega)] at hj
            exact out _ _ ((hrow j pj rj hj hr').same (sm3.trans s4))
          · have hj2 : j = i := by
              have := (List.getElem?_eq_some_iff.mp hj).1
              rw [List.length_append, List.length_singleton] at this
              omega
            subst hj2
            rw [List.getElem?_append_right (by omega), hq, Nat.sub_self] at hj
            have e : p' = pj := Option.some.inj hj
            rw [hrr] at hr'
            have e' : r = rj := Option.some.inj hr'
            subst e e'
            exact out _ _ hR4
      have hlen : (qs.map V.ref).length < sizeLine := by
        rw [List.length_map, hq]
        exact small1000 (by have := g.few; omega)
      have hR3 := ((hR.same sm).same sm3)
      refine ⟨.ref o, rfl, .inl ⟨rfl, _, SqL.of ho3⟩, .ref p, rfl, p, rowV r, rfl, ?_⟩
      exact .inr ⟨SqT.of hR3, o, _, _, rfl, rfl, ho3, hlen, fin H3 p (Same.refl _) hR3⟩
    · rintro σ H1 ⟨y2, y3, qs, rfl, sm, ho, hq, hrow⟩
      rw [List.length_map] at hq
      exact ⟨.ref o, rfl, q H1 o sm no ⟨qs, ho, hq.trans hl, hrow⟩⟩
theorem okh_through {f : Addr} {fd : FuncData} (F : Fun K "_ring_through" "_ring_through" sThrough f fd) : FnH P w K mg base CX0 1 f fd ["differences", "causes", "start"] spThrough := by
  refine okH F scThrough (fun vs H Q E h => ?_) (fun cdv A outer s H vs Q E pp hc hr h => ?_)
  · obtain ⟨a, c, start, rows, cs, cz, val, l, s, rfl, _⟩ := h
    rfl
  · obtain ⟨a, c, start, rows, cs, cz, val, l, sm, rfl, ⟨ps, hA, hl, hat⟩, g, hC, hcs, lk, L, hne, hch, q⟩ := h
    have hu := huH hr
    refine ⟨_, pss_cons (ps_set (i := 3) scThrough.nd rfl (.inl rfl) (pe_lst (pa_cons (pe_dget hu (pv 1) (pv 2) (fun _ _ => rfl)) pa_nil)))
      (pss_cons (ps_set (i := 4) scThrough.nd rfl (.inl rfl) (pe_ix ix_tup (pe_ix ix_list (pv 0) (pe_dget hu (pv 1) (pv 2) (fun _ _ => rfl)) (fun _ _ => rfl)) pe_int (fun _ _ => rfl)))
      (pss_cons (ps_while PassesOwn.never (pt_cmpR op_ne (pv 4) (pv 2) (nomark _))
        (pss_cons (ps_expr (pe_bm PySem.F.plainAttrs_list PySem.F.slot_list_append PySem.F.type_list_append mt_append (pv 3) (pa_cons (pe_dget hu (pv 1) (pv 4) (fun _ _ => rfl)) pa_nil)))
        (pss_one (ps_set (i := 4) scThrough.nd rfl (.inl rfl) (pe_ix ix_tup (pe_ix ix_list (pv 0) (pe_dget hu (pv 1) (pv 4) (fun _ _ => rfl)) (fun _ _ => rfl)) pe_int (fun _ _ => rfl))))))
      (pss_one (ps_ret (pv 3))))), ?_⟩
    -- the row of a name with a cause
    have rowOf : ∀ {H' : Hp} {x y : Str} {k : Int}, Same H H' → gOf rows cs cz x = some (y, k) → x ∈ cs ∧ ∃ p, (ps.map V.ref)[cz x]? = some (.ref p) ∧ H' p = some (.tup (rowV (x, y, k))) := fun {H' x y k} s1 e => by
      obtain ⟨m, e2⟩ := gOf_some lk e
      have hi : cz x < ps.length := by
        rw [hl]
        exact (List.getElem?_eq_some_iff.mp e2).1
      refine ⟨m, ps[cz x], by rw [List.getElem?_map, List.getElem?_eq_getElem hi]; rfl, ?_⟩
      exact (hat (cz x) _ _ (List.getElem?_eq_getElem hi) e2).same s1
    obtain ⟨y0, k0, s0, l0, e0, h0, hl0⟩ : ∃ y k s' l', gOf rows cs cz start = some (y, k) ∧ Ch (gOf rows cs cz) y l' start s' ∧ l = start :: l' := by
      cases hch with
      | nil => exact absurd rfl hne
      | @cons _ y _ k s' l' e h => exact ⟨y, k, s', l', e, h, rfl⟩
    obtain ⟨m0, p0, hp0, hr0⟩ := rowOf (Same.refl H) e0
    refine ⟨.ref c, rfl, .str start, rfl, c, _, rfl, dget hC m0, by show 1 ≤ sizeLine; decide, fun o no => ?_⟩
    have s1 : Same H (upd H o (.lst [.int (cz start : Nat)])) := same_upd no
    have gC1 := hC.same s1
    refine ⟨.ref a, rfl, .ref c, rfl, .str start, rfl, c, _, rfl, dget gC1 m0, a, _, _, _, rfl, rfl, SqL.of (s1 _ _ hA), atI_nat hp0, p0, _, 1, _, rfl, rfl, SqT.of (s1 _ _ hr0), atI_nat (j := 1) rfl, ?_⟩
    refine ⟨fun m σ H' => ∃ (v2 : List Str) (name : Str) (l2 : List Str) (s1 s2 : Int), σ = [some (.ref a), some (.ref c), some (.str start), some (.ref o), some (.str name)] ∧ Same H H' ∧
      H' o = some (.lst ((start :: v2).map fun x => V.int (cz x : Nat))) ∧ Ch (gOf rows cs cz) start (start :: v2) name s1 ∧ (∀ x ∈ v2, x ≠ start) ∧ Ch (gOf rows cs cz) name l2 start s2 ∧ m = l2.length,
      ⟨l0.length, [], y0, l0, _, s0, rfl, s1, upd_same, Ch.cons e0 (Ch.nil y0), fun x hx => absurd hx List.not_mem_nil, h0, rfl⟩, ?_⟩
    rintro m σ H1 ⟨v2, name, l2, t1, t2, rfl, sm1, ho, hw, hv, hw2, rfl⟩
    have few : (start :: v2).length ≤ 200 := by
      refine Nat.le_trans (nodup_le (start :: v2) cs ?_ ?_) hcs
      · exact hw.distinct hv hw2
      · intro x hx
        cases e : gOf rows cs cz x with
        | none => exact absurd e (hw.mem_some x hx)
        | some yk => exact (gOf_some lk (y := yk.1) (c := yk.2) e).1
    refine ⟨_, rfl, _, rfl, rfl, _, rfl, ?_⟩
    by_cases z : name = start
    · subst z
      have ez : (!decide (V.str name = V.str name)) = false := by rw [decide_eq_true rfl]; rfl
      rw [ez]
      refine iteF ⟨.ref o, rfl, q H1 o sm1 ⟨(name :: v2).map cz, ?_, ring_read lk L (fun r hr => (g.row r hr).1) hw hv, ?_⟩⟩
      · rw [ho, List.map_map]
        rfl
      · rw [List.length_map]
        exact few
    · have ez : (!decide (V.str name = V.str start)) = true := by
        rw [decide_eq_false fun e => z (V.str.inj e)]
        rfl
      rw [ez]
      obtain ⟨y, k, s', l', e, h, rfl⟩ : ∃ y k s' l', gOf rows cs cz name = some (y, k) ∧ Ch (gOf rows cs cz) y l' start s' ∧ l2 = name :: l' := by
        cases hw2 with
        | nil => exact absurd rfl z
        | @cons _ y _ k s' l' e h => exact ⟨y, k, s', l', e, h, rfl⟩
      obtain ⟨mN, pN, hpN, hrN⟩ := rowOf sm1 e
      have gC2 := hC.same sm1
      refine iteT ⟨fun σ' H' => ∃ (v2 : List Str) (s1 s2 : Int), σ' = [some (.ref a), some (.ref c), some (.str start), some (.ref o), some (.str y)] ∧ Same H H' ∧
        H' o = some (.lst ((start :: v2).map fun x => V.int (cz x : Nat))) ∧ Ch (gOf rows cs cz) start (start :: v2) y s1 ∧ (∀ x ∈ v2, x ≠ start) ∧ Ch (gOf rows cs cz) y l' start s2,
        fun σ' H' hN => ?_, ?_⟩
      · obtain ⟨v3, s3, s4, r1, r2, r3, r4, r5, r6⟩ := hN
        exact ⟨l'.length, Nat.lt_succ_self _, v3, y, l', s3, s4, r1, r2, r3, r4, r5, r6, rfl⟩
      · refine ⟨.ref o, rfl, .inl ⟨rfl, _, SqL.of ho⟩, .ref c, rfl, .str name, rfl, c, _, rfl, dget gC2 mN, o, _, _, rfl, rfl, ho, by rw [List.length_map]; exact small1000 (by omega), ?_⟩
        have nco : c ≠ o := ne_of gC2 ho (by intro z; cases z)
        have sm2 : Same H (upd H1 o (.lst ((start :: v2).map (fun x => V.int (cz x : Nat)) ++ [.int (cz name : Nat)]))) := sm1.later no
        obtain ⟨mN2, pN2, hpN2, hrN2⟩ := rowOf sm2 e
        refine ⟨.ref a, rfl, .ref c, rfl, .str name, rfl, c, _, rfl, dget (hC.same sm2) mN, a, _, _, _, rfl, rfl, SqL.of (sm2 _ _ hA), atI_nat hpN2, pN2, _, 1, _, rfl, rfl, SqT.of hrN2, atI_nat (j := 1) rfl, ?_⟩
        refine ⟨v2 ++ [name], _, s', rfl, sm2, ?_, hw.snoc e, fun x hx => ?_, h⟩
        · rw [upd_same, ← List.cons_append, List.map_append]
          rfl
        · rcases List.mem_append.mp hx with r | r
          · exact hv x r
          · rw [List.mem_singleton] at r
            exact r ▸ z
end
end Lo
namespace Lo
open PySem L2 L2H LoH
section
variable {P : Program} {w : World} {K : PySem.W.Frag} {mg : Str → Option Value} {base : Heap}
theorem okh_turn {f fR : Addr} {fd fdR : FuncData} (F : Fun K "_turn" "_turn" sTurn f fd) (T : Blt mg) (GR : FnH P w K mg base CX0 1 fR fdR ["differences", "causes", "start"] spThrough) (kR : PySem.W.keepIn K (.ref fR) = true)
    (bR : Binds K fdR ["differences", "causes", "start"] []) (gR : mg "_ring_through" = some (.ref fR)) : FnH P w K mg base CX0 2 f fd ["differences", "causes"] spTurn := by
  refine okH F scTurn (fun vs H Q E h => ?_) (fun cdv A outer s H vs Q E pp hc hr h => ?_)
  · obtain ⟨a, c, rows, cs, cz, val, rfl, _⟩ := h
    rfl
  · obtain ⟨a, c, rows, cs, cz, val, rfl, hS, g, hC, hcs, lk, L, q⟩ := h
    have hS0 := hS
    obtain ⟨ps, hA, hl, hat⟩ := hS
    have hu := huH hr
    refine ⟨_, pss_cons (ps_set (i := 2) scTurn.nd rfl (.inl rfl) pe_dnewK)
      (pss_cons (ps_forH PassesOwn.never hc (pi_enumH (by rfl) T.enum (pa_cons (pe_callTy (call_listDH hc) (by rfl) T.list PyProof.Rows.boot_list (pa_cons (pv 1) pa_nil)) pa_nil))
          (pg_tupH hc (pgs_cons (pg_name (i := 3) scTurn.nd rfl (.inl rfl)) (pgs_cons (pg_name (i := 4) scTurn.nd rfl (.inl rfl)) pgs_nil)))
        (pss_cons (ps_set (i := 5) scTurn.nd rfl (.inl rfl) (pv 4))
        (pss_cons (ps_while PassesOwn.never (PW.pt (pw_and (pt_cmp (pc_din hu (pv 5) (pv 1))) (pw_and1 (pt_cmp (pc_dnotin hu (pv 5) (pv 2))))))
          (pss_cons (ps_dput hu (pv 2) (pv 5) (pv 3) rfl)
          (pss_one (ps_set (i := 5) scTurn.nd rfl (.inl rfl) (pe_ix ix_tup (pe_ix ix_list (pv 0) (pe_dget hu (pv 1) (pv 5) (fun _ _ => rfl)) (fun _ _ => rfl)) pe_int (fun _ _ => rfl))))))
        (pss_one (ps_if (PW.pt (pw_and (pt_cmp (pc_din hu (pv 5) (pv 1))) (pw_and1 (pt_cmpR op_eq (pe_dget hu (pv 2) (pv 5) (fun _ _ => rfl)) (pv 3) (nomark _)))))
          (pss_one (ps_ret (pe_callH GR hr hc (by rfl) gR kR bR passH (pa_cons (pv 0) (pa_cons (pv 1) (pa_cons (pv 5) pa_nil)))))) pss_nil)))))
      (pss_one (ps_ret pe_non))), ?_⟩
    intro d nd
    have s1 : Same H (upd H d (.dK [])) := same_upd nd
    refine ⟨.ref c, rfl, c, _, rfl, Rd.of (hC.same s1), fun lc nlc => ?_⟩
    have s2 : Same (upd H d (.dK [])) (upd (upd H d (.dK [])) lc (.lst ((dS cs fun x => V.int (cz x : Nat)).map fun kv => kV kv.1))) := same_upd nlc
    have nld : lc ≠ d := fun e => by
      rw [e, upd_same] at nlc
      cases nlc
    rw [dS_keys] at s2 ⊢
    refine ⟨lc, cs.map V.str, rfl, SqL.of upd_same, for_it walk_enum (fun i σ H' => ∃ (y3 y4 y5 : Option V) (rs : List Str) (rn : Str → Nat), σ = [some (.ref a), some (.ref c), some (.ref d), y3, y4, y5] ∧ Same H H' ∧
        H' lc = some (.lst (cs.map V.str)) ∧ H' d = some (.dK (dS rs fun x => .int (rn x : Nat))) ∧ Met (gOf rows cs cz) cs rs rn i)
      ⟨none, none, none, [], fun _ => 0, rfl, s1.trans s2, upd_same, by rw [upd_ne nld.symm, upd_same]; rfl, Met.start _ _ _⟩ (fun i σ H' _ ⟨_, _, _, _, _, _, _, hlc, _⟩ => SqL.of hlc) ?_ ?_⟩
    · rintro i x σ H1 H2 hi ⟨y3, y4, y5, rs, rn, rfl, sm, hlc, hd, M⟩ ⟨tp, x1, x2, rfl, ntp, rfl, e1, e2⟩
      have hi' : i < cs.length := by
        rw [List.length_map] at hi
        exact hi
      obtain rfl : V.int ((i : Nat) : Int) = x1 := Option.some.inj e1
      obtain ⟨start, hst, rfl⟩ : ∃ start, cs[i]? = some start ∧ x2 = .str start := by
        have e2' : (cs.map V.str)[i]? = some x2 := e2
        rw [List.getElem?_map, List.getElem?_eq_getElem hi'] at e2'
        exact ⟨_, List.getElem?_eq_getElem hi', (Option.some.inj e2').symm⟩
      have smT : Same H1 (upd H1 tp (.tup [.int (i : Nat), .str start])) := same_upd ntp
      refine ⟨tp, _, rfl, SqT.of upd_same, rfl, _, _, rfl, _, _, rfl, rfl, ?_⟩
      refine ⟨.str start, rfl, ?_⟩
      refine ⟨fun m σ H' => ∃ (name : Str) (t : List Str) (rn : Str → Nat), σ = [some (.ref a), some (.ref c), some (.ref d), some (.int (i : Nat)), some (.str start), some (.str name)] ∧ Same H H' ∧
        H' lc = some (.lst (cs.map V.str)) ∧ H' d = some (.dK (dS (rs ++ t) fun x => .int (rn x : Nat))) ∧ MetIn (gOf rows cs cz) cs rs rn i start t name ∧ m = cs.length - (rs ++ t).length,
        ⟨cs.length - (rs ++ []).length, start, [], rn, rfl, sm.trans smT, smT _ _ hlc, by rw [List.append_nil]; exact smT _ _ hd, MetIn.start M start, rfl⟩, ?_⟩
      rintro m σ H3 ⟨name, t, rn3, rfl, sm3, hlc3, hd3, M3, rfl⟩
      have gC3 := hC.same sm3
      refine ⟨.str name, rfl, .ref c, rfl, c, _, rfl, dgetI name gC3, _, rfl, ?_⟩
      by_cases hc : name ∈ cs
      · rw [if_pos hc]
        refine iteT ⟨.str name, rfl, .ref d, rfl, d, _, rfl, dgetI name hd3, _, rfl, ?_⟩
        by_cases hn : name ∈ rs ++ t
        · rw [if_pos hn]
          -- met before: of this turn, or of an earlier one
          refine iteF ⟨.str name, rfl, .ref c, rfl, c, _, rfl, dget gC3 hc, _, rfl, iteT ?_⟩
          refine ⟨.ref d, rfl, .str name, rfl, d, _, rfl, dget hd3 hn, .int (i : Nat), rfl, rfl, _, rfl, ite2 (fun e => ?_) (fun e => ?_)⟩
          · have ei : ((rn3 name : Nat) : Int) = (i : Nat) := V.int.inj (of_decide_eq_true e)
            rcases List.mem_append.mp hn with k | k
            · have := (M3.ends name k).2
              omega
            · obtain ⟨_, l, s, hne, hch⟩ := M3.now name k
              refine ⟨.ref a, rfl, .ref c, rfl, .str name, rfl, a, c, name, rows, cs, cz, val, l, s, rfl, hS0.sameT sm3, g, gC3, hcs, lk, L, hne, hch, fun H' q' s' hR => ?_⟩
              exact q H' (.ref q') (sm3.trans s') (.inr ⟨q', rfl, hR⟩)
          · have hE : Ends (gOf rows cs cz) name := by
              rcases List.mem_append.mp hn with k | k
              · exact (M3.ends name k).1
              · have := (M3.now name k).1
                exact absurd (decide_eq_true (by rw [this])) e
            exact ⟨_, _, _, rs ++ t, rn3, rfl, sm3, hlc3, hd3, M3.close hst hE M.past⟩
        · rw [if_neg hn]
          obtain ⟨y, k, ey⟩ := lk name hc
          have eg := gOf_in hc ey
          have room := M3.room hc hn
          have eadd : addN (rs ++ t) name = rs ++ (t ++ [name]) := by
            unfold addN
            rw [if_neg hn, List.append_assoc]
          refine iteT ⟨fun σ' H' => ∃ (rn : Str → Nat), σ' = [some (.ref a), some (.ref c), some (.ref d), some (.int (i : Nat)), some (.str start), some (.str y)] ∧ Same H H' ∧
            H' lc = some (.lst (cs.map V.str)) ∧ H' d = some (.dK (dS (rs ++ (t ++ [name])) fun x => .int (rn x : Nat))) ∧ MetIn (gOf rows cs cz) cs rs rn i start (t ++ [name]) y, fun σ' H' hN => ?_, ?_⟩
          · obtain ⟨rn4, r1, r2, r3, r4, r5⟩ := hN
            refine ⟨cs.length - (rs ++ (t ++ [name])).length, ?_, y, t ++ [name], rn4, r1, r2, r3, r4, r5, rfl⟩
            rw [← List.append_assoc, List.length_append, List.length_singleton]
            omega
          · refine ⟨.int (i : Nat), rfl, .ref d, rfl, .str name, rfl, d, _, rfl, dput name (.int (i : Nat)) hd3 (by omega), ?_⟩
            have sm4 : ∀ o, Same H (upd H3 d o) := fun o => sm3.later nd
            have hi2 : cz name < ps.length := by
              rw [hl]
              exact (List.getElem?_eq_some_iff.mp ey).1
            have hp2 : (ps.map V.ref)[cz name]? = some (.ref ps[cz name]) := by
              rw [List.getElem?_map, List.getElem?_eq_getElem hi2]
              rfl
            have hr2 := hat (cz name) _ _ (List.getElem?_eq_getElem hi2) ey
            refine ⟨.ref a, rfl, .ref c, rfl, .str name, rfl, c, _, rfl, dget (hC.same (sm4 _)) hc, a, _, _, _, rfl, rfl, SqL.of (sm4 _ _ _ hA), atI_nat hp2, ps[cz name], _, 1, _, rfl, rfl, SqT.of (sm4 _ _ _ hr2), atI_nat (j := 1) rfl, ?_⟩
            refine ⟨put rn3 name i, rfl, sm4 _, by rw [upd_ne nld]; exact hlc3, ?_, M3.step hc hn eg⟩
            rw [upd_same, eadd, put_map (fun n : Nat => V.int (n : Int))]
      · rw [if_neg hc]
        -- a name without a cause
        refine iteF ?_
        refine iteF ⟨.str name, rfl, .ref c, rfl, c, _, rfl, dget0 gC3 hc, _, rfl, iteF (iteF ?_)⟩
        exact ⟨_, _, _, rs ++ t, rn3, rfl, sm3, hlc3, hd3, M3.close hst (ends_none (gOf_out hc)) M.past⟩
    · rintro σ H1 ⟨y3, y4, y5, rs, rn, rfl, sm, hlc, hd, M⟩
      rw [List.length_map] at M
      exact q H1 .non sm (.inl ⟨rfl, M.all fun x hx => gOf_out hx⟩)
end
end Lo
namespace Lo
open PySem L2 L2H LoH
section
variable {P : Program} {w : World} {K : PySem.W.Frag} {mg : Str → Option Value} {base : Heap}
theorem okh_settled {f fT : Addr} {fd fdT : FuncData} (F : Fun K "_settled" "_settled" sSettled f fd) (T : Blt mg) (GT : FnH P w K mg base CX0 2 fT fdT ["differences", "causes"] spTurn) (kT : PySem.W.keepIn K (.ref fT) = true)
    (bT : Binds K fdT ["differences", "causes"] []) (gT : mg "_turn" = some (.ref fT)) : FnH P w K mg base CX0 3 f fd ["differences"] spSettled := by
  refine okH F scSettled (fun vs H Q E h => ?_) (fun cdv A outer s H vs Q E pp hc hr h => ?_)
  · obtain ⟨a, rows, rfl, _⟩ := h
    rfl
  · obtain ⟨a, rows, rfl, hS, g, q⟩ := h
    have hS0 := hS
    obtain ⟨ps, hA, hl, hat⟩ := hS
    have hu := huH hr
    have nd := scSettled.nd
    refine ⟨_, pss_cons (ps_set (i := 1) nd rfl (.inl rfl) pe_dnewK)
      (pss_cons (ps_forH PassesOwn.never hc (pi_listH (pv 0)) (pg_tupH hc (pgs_cons (pg_name (i := 2) nd rfl (.inl rfl)) (pgs_cons (pg_name (i := 3) nd rfl (.inl rfl)) (pgs_cons (pg_name (i := 4) nd rfl (.inl rfl)) pgs_nil))))
        (pss_cons (ps_dput hu (pv 1) (pv 2) pe_int rfl) (pss_one (ps_dput hu (pv 1) (pv 3) pe_int rfl))))
      (pss_cons (ps_set (i := 5) nd rfl (.inl rfl) pe_dnewK)
      (pss_cons (ps_set (i := 6) nd rfl (.inl rfl) pe_bl)
      (pss_cons (ps_while PassesOwn.never (pt_val (pv 6))
        (pss_cons (ps_set (i := 6) nd rfl (.inl rfl) pe_bl)
        (pss_cons (ps_forH PassesOwn.never hc (pi_enumH (by rfl) T.enum (pa_cons (pv 0) pa_nil))
            (pg_tupH hc (pgs_cons (pg_name (i := 7) nd rfl (.inl rfl)) (pgs_cons (pg_tupH hc (pgs_cons (pg_name (i := 2) nd rfl (.inl rfl)) (pgs_cons (pg_name (i := 3) nd rfl (.inl rfl)) (pgs_cons (pg_name (i := 8) nd rfl (.inl rfl)) pgs_nil)))) pgs_nil)))
          (pss_one (ps_if (pt_cmpR op_lt (pe_op op_add (pe_dget hu (pv 1) (pv 3) (fun _ _ => rfl)) (pv 8)) (pe_dget hu (pv 1) (pv 2) (fun _ _ => rfl)) (nomark _))
            (pss_cons (ps_dput hu (pv 1) (pv 2) (pe_op op_add (pe_dget hu (pv 1) (pv 3) (fun _ _ => rfl)) (pv 8)) rfl)
            (pss_cons (ps_dput hu (pv 5) (pv 2) (pv 7) rfl)
            (pss_one (ps_set (i := 6) nd rfl (.inl rfl) pe_bl)))) pss_nil)))
        (pss_cons (ps_set (i := 9) nd rfl (.inl rfl) (pe_callH GT hr hc (by rfl) gT kT bT passH (pa_cons (pv 0) (pa_cons (pv 5) pa_nil))))
        (pss_one (ps_if (pt_cmpR op_notN (pv 9) pe_non (nomark _)) (pss_one (ps_ret (pe_tup (pa_cons (pv 9) (pa_cons pe_non pa_nil))))) pss_nil))))))
      (pss_one (ps_ret (pe_tup (pa_cons pe_non (pa_cons (pv 1) pa_nil))))))))), ?_⟩
    have few := g.few
    have hks : (namesTo rows rows.length).length ≤ 200 := by
      have := namesTo_len rows rows.length
      omega
    intro d ndd
    have s1 : Same H (upd H d (.dK [])) := same_upd ndd
    refine ⟨.ref a, rfl, a, rfl, ⟨_, SqL.of (s1 _ _ hA)⟩, for_list (K := K) (a := a) (xs := ps.map V.ref) (fun i σ H' => ∃ (y2 y3 y4 : Option V), σ = [some (.ref a), some (.ref d), y2, y3, y4, none, none, none, none, none] ∧ Same H H' ∧ H' d = some (.dK (dS (namesTo rows i) fun _ => .int 0)))
      ⟨none, none, none, rfl, s1, upd_same⟩ (fun i σ H' _ ⟨_, _, _, _, sm, _⟩ => SqL.of (sm _ _ hA)) ?_ ?_⟩
    · rintro i x σ H1 hi ⟨y2, y3, y4, rfl, sm, hd⟩
      obtain ⟨p, r, rfl, hp, hrr, hmem, hlt, hR⟩ := Sys.at hl hat hi
      have hR1 : RowT H1 p r := hR.same sm
      have l0 := namesTo_len rows i
      have l1 := length_addN (l := namesTo rows i) (x := r.1)
      refine ⟨p, rowV r, rfl, SqT.of hR1, rfl, _, _, rfl, _, _, rfl, _, _, rfl, rfl, ?_⟩
      have hput : ∀ (x : Str), (fun _ : Str => V.int 0) = put (fun _ : Str => V.int 0) x (.int 0) := fun x => by
        funext y
        unfold put
        split <;> rfl
      refine ⟨.ref d, rfl, .str r.1, rfl, d, _, rfl, dput r.1 (.int 0) hd (by omega), ?_⟩
      rw [← hput]
      refine ⟨.ref d, rfl, .str r.2.1, rfl, d, _, rfl, dput r.2.1 (.int 0) upd_same (by omega), ?_⟩
      rw [← hput]
      exact ⟨_, _, _, rfl, (sm.later ndd).later ndd, by rw [upd_same, namesTo_succ hrr]⟩
    · rintro σ H1 ⟨y2, y3, y4, rfl, sm, hd⟩
      rw [List.length_map, hl] at hd
      intro c nc
      have ndc : d ≠ c := ne_of_none hd nc
      have nc0 : H c = none := sm.free nc
      have g0 : gOf rows [] (fun _ => 0) = fun _ => none := funext fun x => gOf_out List.not_mem_nil
      have mid0 : Mid H (upd H1 c (.dK [])) d c rows [] (fun _ => 0) (fun _ => 0) := by
        refine ⟨sm.later nc0, ?_, upd_same, List.nodup_nil, fun x h => absurd h List.not_mem_nil, fun x h => absurd h List.not_mem_nil, ?_⟩
        · rw [upd_ne ndc]
          exact hd
        · rw [g0]
          exact Low.start rows
      refine ⟨fun m σ H' => ∃ (y2 y3 y4 y7 y8 y9 : Option V) (b : Bool) (cs : List Str) (cz : Str → Nat) (val : Str → Int), σ = [some (.ref a), some (.ref d), y2, y3, y4, some (.ref c), some (.bl b), y7, y8, y9] ∧
        Mid H H' d c rows cs cz val ∧ (∀ x, Ends (gOf rows cs cz) x) ∧ (b = false → Sat rows val) ∧ m = if b = true then (pot rows (namesTo rows rows.length) val).toNat + 1 else 0,
        ⟨_, y2, y3, y4, none, none, none, true, [], fun _ => 0, fun _ => 0, rfl, mid0, fun x => by rw [g0]; exact ends_none rfl, (fun h => nomatch h), rfl⟩, ?_⟩
      rintro m σ H2 ⟨y2, y3, y4, y7, y8, y9, b, cs, cz, val, rfl, M, hE, hsat, rfl⟩
      refine ⟨_, rfl, b, rfl, ?_⟩
      cases b with
      | false =>
        refine iteF ⟨.ref d, rfl, by show 2 ≤ sizeLine; decide, fun t nt => ?_⟩
        have s3 : Same H2 (upd H2 t (.tup [.non, .ref d])) := same_upd nt
        exact q _ t (M.same.trans s3) (.inr ⟨d, namesTo rows rows.length, val, upd_same, s3 _ _ M.vals, fun x => namesTo_all, hks, hsat rfl⟩)
      | true =>
        have p0 := pot_nonneg (namesTo rows rows.length) M.low hE
        refine iteT ⟨fun σ' H' => ∃ (y2 y3 y4 y7 y8 y9 : Option V) (b : Bool) (cs : List Str) (cz : Str → Nat) (val' : Str → Int), σ' = [some (.ref a), some (.ref d), y2, y3, y4, some (.ref c), some (.bl b), y7, y8, y9] ∧
          Mid H H' d c rows cs cz val' ∧ (∀ x, Ends (gOf rows cs cz) x) ∧ (b = false → Sat rows val') ∧ (b = true → pot rows (namesTo rows rows.length) val' < pot rows (namesTo rows rows.length) val), fun σ' H' hN => ?_, ?_⟩
        · obtain ⟨z2, z3, z4, z7, z8, z9, b, cs', cz', val', e1, M', hE', hs', hp'⟩ := hN
          refine ⟨_, ?_, z2, z3, z4, z7, z8, z9, b, cs', cz', val', e1, M', hE', hs', rfl⟩
          cases b with
          | false =>
            rw [if_neg Bool.false_ne_true, if_pos rfl]
            exact Nat.succ_pos _
          | true =>
            have p1 := pot_nonneg (namesTo rows rows.length) M'.low hE'
            have := hp' rfl
            rw [if_pos rfl, if_pos rfl]
            omega
        · refine ⟨.ref a, rfl, a, ps.map V.ref, rfl, SqL.of (M.same _ _ hA), for_it walk_enum (fun i σ H' => ∃ (y2 y3 y4 y7 y8 y9 : Option V) (b : Bool) (cs : List Str) (cz : Str → Nat) (val' : Str → Int), σ = [some (.ref a), some (.ref d), y2, y3, y4, some (.ref c), some (.bl b), y7, y8, y9] ∧
            Mid H H' d c rows cs cz val' ∧ (b = false → ∀ (j : Nat) (r : SRow), j < i → rows[j]? = some r → val' r.1 - val' r.2.1 ≤ r.2.2) ∧ (pot rows (namesTo rows rows.length) val' ≤ pot rows (namesTo rows rows.length) val ∧ (b = true → pot rows (namesTo rows rows.length) val' < pot rows (namesTo rows rows.length) val)))
            ⟨y2, y3, y4, y7, y8, y9, false, cs, cz, val, rfl, M, fun _ j r h => absurd h (Nat.not_lt_zero _), Int.le_refl _, fun h => nomatch h⟩ (fun i σ H' _ ⟨_, _, _, _, _, _, _, _, _, _, _, M, _⟩ => SqL.of (M.same _ _ hA)) ?_ ?_⟩
          · rintro i x σ H3 H4 hi ⟨y2, y3, y4, y7, y8, y9, b, cs, cz, val', rfl, M3, hb, hp⟩ ⟨tp, x1, x2, rfl, ntp, rfl, e1, e2⟩
            obtain ⟨p, ⟨x, y, k⟩, rfl, hpp, hrr, hmem, hlt, hR⟩ := Sys.at hl hat e2
            obtain rfl : V.int ((i : Nat) : Int) = x1 := Option.some.inj e1
            have smT : Same H3 (upd H3 tp (.tup [.int (i : Nat), .ref p])) := same_upd ntp
            have nxy : x ≠ y := (g.row _ hmem).1
            have hx : x ∈ namesTo rows rows.length := namesTo_all.mpr ⟨_, hmem, .inl rfl⟩
            have hy : y ∈ namesTo rows rows.length := namesTo_all.mpr ⟨_, hmem, .inr rfl⟩
            have hd4 := smT _ _ M3.vals
            have hc4 : Caus (upd H3 tp (.tup [.int (i : Nat), .ref p])) c cs cz := M3.caus.same smT
            have sm4 := M3.same.trans smT
            have hR4 := hR.same sm4
            refine ⟨tp, _, rfl, SqT.of upd_same, rfl, _, _, rfl, _, _, rfl, ⟨p, _, rfl, SqT.of hR4, rfl, _, _, rfl, _, _, rfl, _, _, rfl, rfl, rfl, ?_⟩⟩
            refine ⟨.ref d, rfl, .str y, rfl, d, _, rfl, dget hd4 hy, .int k, rfl, _, _, rfl, rfl, .ref d, rfl, .str x, rfl, d, _, rfl, dget hd4 hx, _, _, rfl, rfl, _, rfl, ite2 (fun e => ?_) (fun e => ?_)⟩
            · have hlt2 : val' y + k < val' x := of_decide_eq_true e
              refine ⟨.ref d, rfl, .str y, rfl, d, _, rfl, dget hd4 hy, .int k, rfl, _, _, rfl, rfl, .ref d, rfl, .str x, rfl, d, _, rfl, dput x (.int (val' y + k)) hd4 (by omega), ?_⟩
              have hcs : cs.length ≤ 200 := Nat.le_trans (nodup_le cs _ M3.nd M3.sub) hks
              have hc5 : Caus (upd (upd H3 tp (.tup [.int (i : Nat), .ref p])) d (.dK (dS (addN (namesTo rows rows.length) x) (put (fun x => V.int (val' x)) x (.int (val' y + k)))))) c cs cz := by
                show upd _ d _ c = _
                rw [upd_ne ndc.symm]
                exact hc4
              refine ⟨.int (i : Nat), rfl, .ref c, rfl, .str x, rfl, c, _, rfl, dput x (.int (i : Nat)) hc5 (by omega), ?_⟩
              have ead : addN (namesTo rows rows.length) x = namesTo rows rows.length := if_pos hx
              rw [ead, put_map (fun n : Int => V.int n), put_map (fun n : Nat => V.int (n : Int))]
              refine ⟨_, _, _, _, _, _, true, addN cs x, put cz x i, put val' x (val' y + k), rfl, ⟨(sm4.later ndd).later nc0, ?_, upd_same, nodup_addN M3.nd, fun z hz => ?_, lk_put M3.lk hrr, ?_⟩, (fun h => nomatch h), ?_⟩
              · rw [upd_ne ndc, upd_same]
              · exact (mem_addN.mp hz).elim (M3.sub z) fun z => z ▸ hx
              · rw [gOf_put hrr]
                exact M3.low.step hmem nxy hlt2
              · have h1 := pot_put (rows := rows) (val := val') hx hlt2
                exact ⟨Int.le_of_lt (Int.lt_of_lt_of_le h1 hp.1), fun _ => Int.lt_of_lt_of_le h1 hp.1⟩
            · have hge : ¬ val' y + k < val' x := fun z => e (decide_eq_true z)
              refine ⟨_, _, _, _, _, _, b, cs, cz, val', rfl, ⟨sm4, hd4, hc4, M3.nd, M3.sub, M3.lk, M3.low⟩, fun hbf j r hj hjr => ?_, hp⟩
              by_cases ji : j = i
              · subst ji
                rw [hrr] at hjr
                have := Option.some.inj hjr
                subst this
                show val' x - val' y ≤ k
                omega
              · exact hb hbf j r (by omega) hjr
          · rintro σ H3 ⟨y2, y3, y4, y7, y8, y9, b, cs, cz, val', rfl, M3, hb, hp⟩
            rw [List.length_map, hl] at hb
            have hcs : cs.length ≤ 200 := Nat.le_trans (nodup_le cs _ M3.nd M3.sub) hks
            refine ⟨.ref a, rfl, .ref c, rfl, a, c, rows, cs, cz, val', rfl, hS0.sameT M3.same, g, M3.caus, hcs, M3.lk, M3.low, fun H4 x s4 hx => ?_⟩
            rcases hx with ⟨rfl, hE4⟩ | ⟨t, rfl, hR⟩
            · refine ⟨_, rfl, rfl, _, rfl, iteF ?_⟩
              refine ⟨_, _, _, _, _, _, b, cs, cz, val', rfl, ⟨M3.same.trans s4, s4 _ _ M3.vals, M3.caus.same s4, M3.nd, M3.sub, M3.lk, M3.low⟩, hE4, fun h r hr => ?_, hp.2⟩
              obtain ⟨j, hj, e⟩ := List.getElem_of_mem hr
              exact hb h j r hj (by rw [List.getElem?_eq_getElem hj, e])
            · refine ⟨_, rfl, rfl, _, rfl, iteT ⟨.ref t, rfl, by show 2 ≤ sizeLine; decide, fun tt nt => ?_⟩⟩
              have s5 : Same H4 (upd H4 tt (.tup [.ref t, .non])) := same_upd nt
              exact q _ tt ((M3.same.trans s4).trans s5) (.inl ⟨t, upd_same, hR.same s5⟩)
theorem okh_ring {f fS fR : Addr} {fd fdS fdR : FuncData} (F : Fun K "ring" "ring" sRing f fd) (GS : FnH P w K mg base CX0 3 fS fdS ["differences"] spSettled) (kS : PySem.W.keepIn K (.ref fS) = true) (bS : Binds K fdS ["differences"] []) (gS : mg "_settled" = some (.ref fS))
    (GR : FnH P w K mg base CX0 3 fR fdR ["system"] spReadT) (kR : PySem.W.keepIn K (.ref fR) = true) (bR : Binds K fdR ["system"] []) (gR : mg "read_system" = some (.ref fR)) : FnH P w K mg base CX0 4 f fd ["system"] spRingT := by
  refine okH F scRing (fun vs H Q E h => ?_) (fun cdv A outer s H vs Q E pp hc hr h => ?_)
  · obtain ⟨a, rows, rfl, _⟩ := h
    rfl
  · obtain ⟨a, rows, rfl, hS, g, q⟩ := h
    refine ⟨_, pss_one (ps_ret (pe_ix ix_tup (pe_callH GS hr hc (by rfl) gS kS bS passH (pa_cons (pe_callH GR hr hc (by rfl) gR kR bR passH (pa_cons (pv 0) pa_nil)) pa_nil)) pe_int (fun _ _ => rfl))), ?_⟩
    refine ⟨.ref a, rfl, a, rows, rfl, hS, g, fun H1 r s1 _ hr1 => ?_⟩
    refine ⟨r, rows, rfl, hr1, g, fun H2 t s2 hT => ?_⟩
    rcases hT with ⟨u, ht, hR⟩ | ⟨d, ks, val, ht, _, _, _, hs⟩
    · exact ⟨t, _, 0, _, rfl, rfl, SqT.of ht, atI_nat (j := 0) rfl, q _ _ (s1.trans s2) (.inr ⟨u, rfl, hR⟩)⟩
    · exact ⟨t, _, 0, _, rfl, rfl, SqT.of ht, atI_nat (j := 0) rfl, q _ _ (s1.trans s2) (.inl ⟨rfl, val, hs⟩)⟩
end
end Lo
namespace Lo
open PySem L2 L2H LoH
theorem takes0N {X : Cx} : L2N.Takes X (fun _ _ _ _ => False) := fun _ _ x => by
  obtain ⟨_, _, _, _, _, _, _, _, _, _, _, _, _, _, _, _, z⟩ := x
  exact z.elim
theorem hotC_suite {X : Cx} {a : Addr} {oe : Obj} {cls : Value} {d : Option Addr} {pn : List (Addr × Obj)} (hz : L2N.Zn cls d oe) (hd : ∃ vs, oe.data = .fields vs) : HotC (X.suite a ((a, oe) :: pn)) := by
  obtain ⟨vs, e⟩ := hd
  exact ⟨(a, oe), ⟨rfl, vs, e, hz.2.2 vs e⟩, List.mem_cons_self⟩
theorem roomH_suite {X : Cx} {k : Nat} {a : Addr} {pn : List (Addr × Obj)} (hr : Room k X.A) : RoomH k (X.suite a pn).A := ⟨hr.dp, hr.un⟩
section
variable {P : Program} {w : World} {K : PySem.W.Frag} {mg : Str → Option Value} {base : Heap}
/-- a def that may raise where nothing is handled -/
theorem okXN {x qual : Str} {st : Stmt} {f : Addr} {fd : FuncData} {N ps : List Str} {k : Nat} {sp : Sp} (F : Fun K x qual st f fd) (S : FnScope N ps (defScope st)) (len : ∀ vs H Q E, sp vs H Q E → vs.length = ps.length)
    (hbody : ∀ (cdv : Value) (A : Around) (outer : List Env) (s : Shared) (H : Hp) (vs : List V) (Q : VK) (E : XK), Room k (A.deeper (PyProof.Rows.envOfC qual (defScope st) s.heap.objs.size f cdv)) → sp vs H Q E →
      ∃ t, PSs (cxOf (L2N.CX P w) P w K mg base N qual (defScope st) f cdv A outer s H E) (defBody st) t ∧ t { nx := fun _ H' => Q .non H', rt := Q } (L2.start N vs) H) : FnOk P w K mg base (L2N.CX P w) (k + 1) f fd ps sp := by
  obtain ⟨oc, od, kV, doc, pm, an, cdv, ct, osl, rfl, lk, hcd⟩ := F.ex
  exact fn_of lk hcd S len fun A outer s H vs Q E hr hsp => hbody cdv A outer s H vs Q E hr hsp
theorem ok_fewestXN {C f fT fR : Addr} {fd fdT fdR : FuncData} (F : Fun K "fewest" "fewest" sFewest f fd) (N : Err K mg "NoSolution" C)
    (GT : FnOk P w K mg base CX0 4 fT fdT ["differences"] spTableOf) (kT : PySem.W.keepIn K (.ref fT) = true) (bT : Binds K fdT ["differences"] []) (gT : mg "table_of" = some (.ref fT))
    (GR : FnOk P w K mg base CX0 3 fR fdR ["system"] spRead) (kR : PySem.W.keepIn K (.ref fR) = true) (bR : Binds K fdR ["system"] []) (gR : mg "read_system" = some (.ref fR)) :
    FnOk P w K mg base (L2N.CX P w) 5 f fd ["system"] (spFewestX C) := by
  refine okXN F scFewest (fun vs H Q E h => ?_) (fun cdv A outer s H vs Q E hr h => ?_)
  · obtain ⟨a, rows, rfl, _⟩ := h
    rfl
  · obtain ⟨a, rows, rfl, hS, g, no, q⟩ := h
    have nd := scFewest.nd
    refine ⟨_, pss_cons (ps_set (i := 1) nd rfl (.inl rfl) (pe_call GT hr (by rfl) gT kT bT .nil pass0 (pa_cons (pe_call GR (hr.mono (by decide)) (by rfl) gR kR bR .nil pass0 (pa_cons (pv 0) pa_nil)) pa_nil)))
      (pss_cons (ps_if (pt_cmpR op_isN (pv 1) pe_non (nomark _)) (pss_one (L2N.ps_raise rfl (L2N.takes_of rfl rfl rfl rfl) (L2N.pmk_own PySem.F.excBase_ValueError N.x N.g N.k (raises_own N.b N.t) rfl))) pss_nil)
      (pss_one ps_never)), ?_⟩
    refine ⟨.ref a, rfl, a, rows, rfl, hS, g, fun H1 r s1 _ hr1 => ?_⟩
    refine ⟨r, rows, rfl, hr1, g, fun H2 x s2 hx => ?_⟩
    rcases hx with ⟨rfl, _⟩ | ⟨t, ns, ra, rk, rv, rfl, T, v, hv⟩
    · exact ⟨_, rfl, rfl, _, rfl, iteT (q H2 (s1.trans s2))⟩
    · exact absurd hv (no v)
end
end Lo
namespace Lo
open PySem L2 L2H LoH
section
variable {P : Program} {w : World} {K : PySem.W.Frag} {mg : Str → Option Value} {base : Heap}
/-! ### _law_right -/
def spRight : Sp := fun vs H Q _ => ∃ (a : Addr) (rows : List SRow) (ns : List Str), vs = [.ref a] ∧ Sys RowT H a rows ∧ Good rows ∧ rows.length ≤ 25 ∧ (∀ r ∈ rows, OkR r ∧ In2 ns r) ∧ ns.length ≤ 4 ∧ ∀ H', Same H H' → Q (.bl true) H'
abbrev nRight : List Str := ["system", "names", "table", "found", "row", "at"]
theorem scRight : FnScope nRight ["system"] (defScope sRight) := ⟨rfl, rfl, rfl, by decide +kernel, rfl, by decide +kernel, by decide +kernel⟩
/-- the refusal is caught; a ring is asked for -/
def tTry (K : PySem.W.Frag) (C : Addr) : TS := fun D σ H =>
  tSeq (tDrop (tCallS (spFewestX C) (WE (wMany K (fun _ _ _ _ => False) D [(.ref C, fun _ _ _ => tRet (tOp (fun x y H Q => y = V.non ∧ Q (.bl (!decide (x = V.non))) H) (tCallS spRingT (fun _ => E0) (tCons (tVar 0) tNil)) (tC .non)))])) (tCons (tVar 0) tNil))) (tRet (tC (.bl false))) D σ H
theorem ok_right {C f fL fT fF fR fU fI : Addr} {fd fdL fdT fdF fdR fdU fdI : FuncData} (F : Fun K "_law_right" "_law_right" sRight f fd) (T : Blt mg) (N : Err K mg "NoSolution" C)
    (GL : FnOk P w K mg base CX0 1 fL fdL ["system"] spLNames) (kL : PySem.W.keepIn K (.ref fL) = true) (bL : Binds K fdL ["system"] []) (gL : mg "_law_names_of" = some (.ref fL))
    (GT : FnOk P w K mg base CX0 1 fT fdT ["names", "system"] spLTable) (kT : PySem.W.keepIn K (.ref fT) = true) (bT : Binds K fdT ["names", "system"] []) (gT : mg "_law_table" = some (.ref fT))
    (GF : FnOk P w K mg base CX0 5 fF fdF ["system"] spFewest) (kF : PySem.W.keepIn K (.ref fF) = true) (bF : Binds K fdF ["system"] []) (gF : mg "fewest" = some (.ref fF))
    (GX : FnOk P w K mg base (L2N.CX P w) 5 fF fdF ["system"] (spFewestX C))
    (GR : FnH P w K mg base CX0 4 fR fdR ["system"] spRingT) (kR : PySem.W.keepIn K (.ref fR) = true) (bR : Binds K fdR ["system"] []) (gR : mg "ring" = some (.ref fR))
    (GU : FnOk P w K mg base CX0 2 fU fdU ["names", "table"] spLDue) (kU : PySem.W.keepIn K (.ref fU) = true) (bU : Binds K fdU ["names", "table"] []) (gU : mg "_law_due" = some (.ref fU))
    (GI : FnOk P w K mg base CX0 4 fI fdI ["system", "difference"] spImplied) (kI : PySem.W.keepIn K (.ref fI) = true) (bI : Binds K fdI ["system", "difference"] []) (gI : mg "implied" = some (.ref fI)) :
    FnOk P w K mg base CX0 6 f fd ["system"] spRight := by
  refine F.ok scRight (fun vs H Q E h => ?_) (fun cdv A outer s H vs Q E hr h => ?_)
  · obtain ⟨a, rows, ns, rfl, _⟩ := h
    rfl
  · obtain ⟨a, rows, ns, rfl, hS, g, h25, hin, n4, q⟩ := h
    have nd := scRight.nd
    have r1 := hr.mono (show 1 ≤ 5 by decide)
    have r2 := hr.mono (show 2 ≤ 5 by decide)
    have r4 := hr.mono (show 4 ≤ 5 by decide)
    refine ⟨_, pss_cons (ps_set (i := 1) nd rfl (.inl rfl) (pe_call GL r1 (by rfl) gL kL bL .nil pass0 (pa_cons (pv 0) pa_nil)))
      (pss_cons (ps_set (i := 2) nd rfl (.inl rfl) (pe_call GT r1 (by rfl) gT kT bT .nil pass0 (pa_cons (pv 1) (pa_cons (pv 0) pa_nil))))
      (pss_cons (ps_if (pt_cmpR op_isN (pv 2) pe_non (nomark _)) (pss_one (t := tTry K C) (L2N.ps_try_many (tb := fun W => tSeq (tDrop (tCallS (spFewestX C) (WE W) (tCons (tVar 0) tNil))) (tRet (tC (.bl false)))) (Wout := fun _ _ _ _ => False) rfl rfl takes0N
          (fun W pn xe tk _ => pss_cons (ps_expr (pe_callS GX hr (by rfl) gF kF bF (fun σ => L2N.passAt tk σ) (pa_cons (pv 0) pa_nil))) (pss_one (ps_ret pe_bl)))
          (.cons ⟨rfl, by decide, .inl N.g⟩ (fun a' oe cls d pn hz hd => pss_one (ps_ret (pe_cmpR op_notN (pe_callH GR (roomH_suite r4) (hotC_suite hz hd) (by rfl) gR kR bR passH (pa_cons (pv 0) pa_nil)) pe_non (nomark _)))) .nil))) pss_nil)
      (pss_cons (ps_set (i := 3) nd rfl (.inr rfl) (pe_call GF hr (by rfl) gF kF bF .nil pass0 (pa_cons (pv 0) pa_nil)))
      (pss_cons (ps_if (PW.pt (pw_or (pt_not (pt_val (pe_callB call_isi (by rfl) T.isi PyProof.Rows.boot_isinstance (pa_cons (pv 3) (pa_cons (pe_bltn (v := .ty "list") rfl T.list PyProof.Rows.boot_list rfl) pa_nil)))))
          (pw_or1 (pt_cmpR op_ne (pe_callB call_len_seq (by rfl) T.len PySem.boot_len (pa_cons (pv 3) pa_nil)) (pe_call GU r2 (by rfl) gU kU bU .nil pass0 (pa_cons (pv 1) (pa_cons (pv 2) pa_nil))) (nomark _))))) (pss_one (ps_ret pe_bl)) pss_nil)
      (pss_cons (ps_for PassesOwn.never rfl (pi_list (pv 3)) (pg_name (i := 4) nd rfl (.inl rfl))
        (pss_cons (ps_if (PW.pt (pw_or (pt_not (pt_val (pe_callB call_isi (by rfl) T.isi PyProof.Rows.boot_isinstance (pa_cons (pv 4) (pa_cons (pe_bltn (v := .ty "tuple") rfl T.tuple PyProof.Rows.boot_tuple rfl) pa_nil)))))
            (pw_or (pt_cmpR op_ne (pe_callB call_len_seq (by rfl) T.len PySem.boot_len (pa_cons (pv 4) pa_nil)) pe_int (nomark _))
            (pw_or (pt_cmpR op_notIn_seq (pe_ix ix_tup (pv 4) pe_int (fun _ _ => rfl)) (pe_op op_cat (pv 1) (pe_lst (pa_cons pe_str pa_nil))) (by rfl))
            (pw_or1 (pt_cmpR op_notIn_seq (pe_ix ix_tup (pv 4) pe_int (fun _ _ => rfl)) (pe_op op_cat (pv 1) (pe_lst (pa_cons pe_str pa_nil))) (by rfl))))))) (pss_one (ps_ret pe_bl)) pss_nil)
        (pss_one (ps_if (pt_not (pt_val (pe_call GI r4 (by rfl) gI kI bI .nil pass0 (pa_cons (pv 0) (pa_cons (pv 4) pa_nil))))) (pss_one (ps_ret pe_bl)) pss_nil))))
      (pss_cons (ps_for PassesOwn.never rfl (pi_range1 (by rfl) T.range (pa_cons (pe_callB call_len_seq (by rfl) T.len PySem.boot_len (pa_cons (pv 3) pa_nil)) pa_nil)) (pg_name (i := 5) nd rfl (.inl rfl))
        (pss_one (ps_if (pt_val (pe_call GI r4 (by rfl) gI kI bI .nil pass0 (pa_cons (pe_op op_cat (pe_slice sl_list (pv 3) po_none (po_some (pv 5))) (pe_slice sl_list (pv 3) (po_some (pe_op op_add (pv 5) pe_int)) po_none)) (pa_cons (pe_ix ix_list (pv 3) (pv 5) (fun _ _ => rfl)) pa_nil))))
          (pss_one (ps_ret pe_bl)) pss_nil)))
      (pss_one (ps_ret (pe_callB (cr_all rfl) (by rfl) T.all PyProof.Rows.boot_all (pa_cons (pe_lc (own := [("row", 4)]) (g := gName 4) (tt := tYes) rfl nd (pi_list (pv 0)) (blkOk_by (N := nRight) (sc := defScope sRight) (by decide +kernel))
        (fun _ _ _ _ _ => pg_name (i := 4) nd rfl (.inl rfl)) (fun _ _ _ _ _ => pts_nil) (fun _ _ _ _ _ => pe_call GI r4 (by rfl) gI kI bI .nil pass0 (pa_cons (pv 3) (pa_cons (pv 4) pa_nil)))) pa_nil)))))))))), ?_⟩
    have hne : ∀ x, Named rows x → x ∈ (("0" : Str) :: ns) := fun x ⟨r, hr, e⟩ => by
      obtain ⟨_, i1, i2⟩ := hin r hr
      rcases e with e | e
      · exact e ▸ i1
      · exact e ▸ i2
    refine ⟨.ref a, rfl, a, rows, rfl, hS, g, fun H1 np zs s1 hz znd _ zmem => ?_⟩
    have z5 : zs.length ≤ 5 := by
      have := nodup_le zs (("0" : Str) :: ns) znd fun x hx => hne x ((zmem x).mp hx).2
      rw [List.length_cons] at this
      omega
    have end_nd : (("0" : Str) :: zs).Nodup := List.nodup_cons.mpr ⟨fun h => ((zmem _).mp h).1 rfl, znd⟩
    have inz : ∀ x, Named rows x → x ∈ (("0" : Str) :: zs) := fun x hx => by
      by_cases e : x = "0"
      · exact e ▸ List.mem_cons_self
      · exact List.mem_cons_of_mem _ ((zmem x).mpr ⟨e, hx⟩)
    have eok : ∀ x ∈ (("0" : Str) :: zs), PyData.strOk x = true := fun x hx => by
      rcases List.mem_cons.mp hx with e | h
      · rw [e]
        decide +kernel
      · obtain ⟨_, r, hr, e⟩ := (zmem x).mp h
        rcases e with e | e
        · exact e ▸ (hin r hr).1.1
        · exact e ▸ (hin r hr).1.2
    refine ⟨.ref np, rfl, .ref a, rfl, np, a, zs, rows, rfl, hz, hS.sameT s1, g, end_nd, by omega, inz, fun H2 x s2 hx => ?_⟩
    have s12 := s1.trans s2
    rcases hx with ⟨rfl, no⟩ | ⟨d, ps, f, rfl, TA, ⟨v, hv⟩, tell⟩
    · -- no solution: refused, and a ring
      refine ⟨_, rfl, rfl, _, rfl, iteT ?_⟩
      refine ⟨.ref a, rfl, a, rows, rfl, (hS.sameT s12).any, g, no, fun H3 s3 => ?_⟩
      refine ⟨true, N.e, fun _ a0 _ => ?_, fun z => Bool.noConfusion z⟩
      refine ⟨.ref a, rfl, a, rows, rfl, (hS.sameT s12).sameT s3, g, fun H4 x s4 hx => ⟨rfl, ?_⟩⟩
      rcases hx with ⟨_, u, hu⟩ | ⟨t, rfl, _⟩
      · exact absurd hu (no u)
      · exact q H4 ((s12.trans s3).trans s4)
    · refine ⟨_, rfl, rfl, _, rfl, iteF ?_⟩
      refine ⟨.ref a, rfl, a, rows, v, ("0" : Str) :: zs, rfl, (hS.sameT s12).any, g, hv, by rw [List.length_cons]; omega, inz, fun H3 p ms s3 mnd mem hE => ?_⟩
      have m6 : ms.length ≤ 6 := by
        have := nodup_le ms (("0" : Str) :: ns) mnd fun x hx => hne x ((mem x).mp hx)
        rw [List.length_cons] at this
        omega
      obtain ⟨ED, gE, back, insE⟩ := few_facts hv g mnd mem m6
      have lenE := few_len hv mnd mem end_nd zmem
      obtain ⟨qs, hp, hl, hat⟩ := id hE
      have s13 := s12.trans s3
      have s23 := s2.trans s3
      refine ⟨.ref p, rfl, _, _, _, _, true, rfl, .ty _, .base (.lst hp), kit_ty (by decide +kernel), true, rfl, iteF ?_⟩
      refine ⟨.ref p, rfl, p, _, rfl, .inl (SqL.of hp), .ref np, rfl, .ref d, rfl, np, d, rows, v, zs, ps, f, rfl, s23 _ _ hz, ⟨TA.same s3, tell⟩, hv, by omega, eok, fun H4 s4 => ?_⟩
      refine ⟨rfl, _, rfl, ?_⟩
      rw [List.length_map, hl, lenE, decide_eq_true rfl]
      refine iteF ?_
      have hp4 := s4 _ _ hp
      have hE4 := hE.sameT s4
      have hz4 : H4 np = some (.lst (zs.map V.str)) := s4 _ _ (s23 _ _ hz)
      have s14 := s13.trans s4
      have ecat : zs.map V.str ++ [V.str "0"] = (zs ++ [("0" : Str)]).map V.str := by rw [List.map_append]; rfl
      have inE : ∀ {x : Str}, x ∈ ms → x ∈ zs ++ [("0" : Str)] := fun {x} hx => by
        rcases List.mem_cons.mp (inz x ((mem x).mp hx)) with e | h
        · exact List.mem_append_right _ (e ▸ List.mem_singleton.mpr rfl)
        · exact List.mem_append_left _ h
      refine ⟨.ref p, rfl, p, rfl, ⟨_, SqL.of hp4⟩, for_list (K := K) (a := p) (xs := qs.map V.ref) (fun i σ H' => ∃ (y4 : Option V), σ = [some (.ref a), some (.ref np), some (.ref d), some (.ref p), y4, none] ∧ Same H4 H')
        ⟨none, rfl, Same.refl _⟩ (fun i σ H' _ ⟨_, _, sm⟩ => SqL.of (sm _ _ hp4)) ?_ ?_⟩
      · rintro i x σ H5 hi ⟨y4, rfl, s5⟩
        obtain ⟨t, r, rfl, hpt, hrr, hmem, hlt, hR⟩ := Sys.at hl hat hi
        obtain ⟨i1, i2⟩ := insE r hmem
        have hR5 : RowT H5 t r := (hR.same s4).same s5
        refine ⟨.ref t, rfl, _, _, _, _, true, rfl, .ty _, .base (.tup hR5), kit_ty (by decide +kernel), true, rfl, iteF ?_⟩
        refine ⟨.ref t, rfl, t, rowV r, rfl, .inr (SqT.of hR5), rfl, false, rfl, iteF ?_⟩
        have csz : (zs.map V.str).length + [V.str "0"].length ≤ sizeLine := by
          rw [List.length_map, List.length_singleton]
          exact Nat.le_of_lt (small1000 (by omega))
        refine ⟨.ref t, rfl, t, _, 0, _, rfl, rfl, SqT.of hR5, atI_nat (j := 0) rfl, .ref np, rfl, by show 1 ≤ sizeLine; decide, fun l1 nl1 => ?_⟩
        have sL1 := same_upd (o := HO.lst [V.str "0"]) nl1
        refine ⟨np, l1, _, _, rfl, rfl, sL1 _ _ (s5 _ _ hz4), upd_same, csz, fun c1 nc1 => ?_⟩
        have sC1 := same_upd (o := HO.lst (zs.map V.str ++ [V.str "0"])) nc1
        refine ⟨c1, (zs ++ [("0" : Str)]).map V.str, rfl, .inl (SqL.of (by rw [upd_same, ecat])), rfl, flat_all _, _, rfl, ?_⟩
        rw [inV_strs, decide_eq_true (inE i1)]
        refine iteF ?_
        have s6 := sL1.trans sC1
        generalize upd (upd H5 l1 (.lst [V.str "0"])) c1 (.lst (zs.map V.str ++ [V.str "0"])) = H6 at s6 ⊢
        have hR6 := hR5.same s6
        refine ⟨.ref t, rfl, t, _, 1, _, rfl, rfl, SqT.of hR6, atI_nat (j := 1) rfl, .ref np, rfl, by show 1 ≤ sizeLine; decide, fun l2 nl2 => ?_⟩
        have sL2 := same_upd (o := HO.lst [V.str "0"]) nl2
        refine ⟨np, l2, _, _, rfl, rfl, sL2 _ _ (s6 _ _ (s5 _ _ hz4)), upd_same, csz, fun c2 nc2 => ?_⟩
        have sC2 := same_upd (o := HO.lst (zs.map V.str ++ [V.str "0"])) nc2
        refine ⟨c2, (zs ++ [("0" : Str)]).map V.str, rfl, .inl (SqL.of (by rw [upd_same, ecat])), rfl, flat_all _, _, rfl, ?_⟩
        rw [inV_strs, decide_eq_true (inE i2)]
        refine iteF ?_
        have s7 := (s5.trans s6).trans (sL2.trans sC2)
        generalize upd (upd H6 l2 (.lst [V.str "0"])) c2 (.lst (zs.map V.str ++ [V.str "0"])) = H7 at s7 ⊢
        obtain ⟨x, y, c⟩ := r
        refine ⟨.ref a, rfl, .ref t, rfl, a, t, rows, (x, y, c), rfl, (hS.sameT (s14.trans s7)).any, g, .inl ((hR.same s4).same s7), gE.row _ hmem, fun H8 b s8 hb => ?_⟩
        have eb : b = true := hb.mpr fun u hu => ED.told hu _ hmem
        subst eb
        exact ⟨true, rfl, iteF ⟨_, rfl, s7.trans s8⟩⟩
      · rintro σ H5 ⟨y4, rfl, s5⟩
        have hp5 := s5 _ _ hp4
        have len100 : (fewestE rows ms).length ≤ 100 := gE.few
        refine ⟨.ref p, rfl, p, _, rfl, .inl (SqL.of hp5), _, rfl, by omega, by rw [List.length_map]; omega, ?_⟩
        rw [Int.toNat_natCast]
        refine for_range (lo := 0) (fun i σ H' => ∃ (y5 : Option V), σ = [some (.ref a), some (.ref np), some (.ref d), some (.ref p), y4, y5] ∧ Same H4 H') ⟨none, rfl, s5⟩ ?_ ?_
        · rintro i σ H6 hi ⟨y5, rfl, s6⟩
          rw [Int.zero_add]
          have hi2 : i < (fewestE rows ms).length := by
            rw [List.length_map, hl] at hi
            exact hi
          obtain ⟨qt, hqt⟩ : ∃ qt, qs[i]? = some qt := ⟨_, List.getElem?_eq_getElem (by omega)⟩
          obtain ⟨⟨x, y, c⟩, hrow⟩ : ∃ r, (fewestE rows ms)[i]? = some r := ⟨_, List.getElem?_eq_getElem hi2⟩
          have hqt' : (qs.map V.ref)[i]? = some (.ref qt) := by
            rw [List.getElem?_map, hqt]
            rfl
          have hE6 := hE4.sameT s6
          have hp6 := s6 _ _ hp4
          have hat6 : ∀ (i : Nat) (p : Addr) (r : SRow), qs[i]? = some p → (fewestE rows ms)[i]? = some r → RowT H6 p r := fun i p r h1 h2 => ((hat i p r h1 h2).same s4).same s6
          refine ⟨.ref p, rfl, _, rfl, (i : Nat), rfl, p, _, rfl, SqL.of hp6, fun c1 n1 => ?_⟩
          have sC1 := same_upd (o := HO.lst (cutV (qs.map V.ref) none (some ((i : Nat) : Int)))) n1
          refine ⟨.ref p, rfl, _, rfl, _, _, rfl, rfl, _, rfl, p, _, rfl, SqL.of (sC1 _ _ hp6), fun c2 n2 => ?_⟩
          have sC2 := same_upd (o := HO.lst (cutV (qs.map V.ref) (some (((i : Nat) : Int) + 1)) none)) n2
          refine ⟨c1, c2, _, _, rfl, rfl, sC2 _ _ upd_same, upd_same, ?_, fun c3 n3 => ?_⟩
          · have a1 := cutV_length (qs.map V.ref) (some (((i : Nat) : Int) + 1)) none
            have a2 := cutV_length (qs.map V.ref) none (some ((i : Nat) : Int))
            rw [List.length_map] at a1 a2
            exact Nat.le_of_lt (small1000 (by omega))
          have sC3 := same_upd (o := HO.lst (cutV (qs.map V.ref) none (some ((i : Nat) : Int)) ++ cutV (qs.map V.ref) (some (((i : Nat) : Int) + 1)) none)) n3
          have ecut : cutV (qs.map V.ref) none (some ((i : Nat) : Int)) ++ cutV (qs.map V.ref) (some (((i : Nat) : Int) + 1)) none = (qs.take i ++ qs.drop (i + 1)).map V.ref := by
            have e : ((i : Nat) : Int) + 1 = ((i + 1 : Nat) : Int) := by omega
            rw [e, cut_take, cut_drop (by rw [List.length_map]; omega), List.map_append, List.map_take, List.map_drop]
          have s67 := (sC1.trans sC2).trans sC3
          have hless := sys_less (p := c3) (H := upd (upd (upd H6 c1 (.lst (cutV (qs.map V.ref) none (some ((i : Nat) : Int))))) c2 (.lst (cutV (qs.map V.ref) (some (((i : Nat) : Int) + 1)) none))) c3 (.lst (cutV (qs.map V.ref) none (some ((i : Nat) : Int)) ++ cutV (qs.map V.ref) (some (((i : Nat) : Int) + 1)) none)))
            hl hi2 (fun i p r h1 h2 => (hat6 i p r h1 h2).same s67) (by rw [upd_same, ecut])
          have hp7 := s67 _ _ hp6
          have hR7 := (hat6 i qt _ hqt hrow).same s67
          generalize upd (upd (upd H6 c1 (.lst (cutV (qs.map V.ref) none (some ((i : Nat) : Int))))) c2 (.lst (cutV (qs.map V.ref) (some (((i : Nat) : Int) + 1)) none))) c3 (.lst (cutV (qs.map V.ref) none (some ((i : Nat) : Int)) ++ cutV (qs.map V.ref) (some (((i : Nat) : Int) + 1)) none)) = H7 at s67 hless hp7 hR7 ⊢
          have sub : ∀ r ∈ (fewestE rows ms).take i ++ (fewestE rows ms).drop (i + 1), r ∈ fewestE rows ms := fun r hr => (List.mem_append.mp hr).elim List.mem_of_mem_take List.mem_of_mem_drop
          refine ⟨.ref p, rfl, _, rfl, p, _, _, _, rfl, rfl, SqL.of hp7, atI_nat hqt', c3, qt, _, (x, y, c), rfl, hless.any, ⟨fun r hr => gE.row r (sub r hr), by simp; omega⟩, .inl hR7, gE.row _ (List.mem_of_getElem? hrow), fun H8 b s8 hb => ?_⟩
          have eb : b = false := by
            cases b with
            | false => rfl
            | true =>
              refine absurd (hb.mp rfl) (ED.needed hv ?_)
              rw [List.getElem?_eq_getElem hi2] at hrow
              have er := Option.some.inj hrow
              rw [← er, List.getElem_cons_drop, List.take_append_drop]
          subst eb
          exact ⟨false, rfl, iteF ⟨_, rfl, (s6.trans s67).trans s8⟩⟩
        · rintro σ H6 ⟨y5, rfl, s6⟩
          have s16 := s14.trans s6
          obtain ⟨ps1, hA, hl1, hat1⟩ := hS.sameT s16
          refine ⟨.ref a, rfl, a, rfl, ⟨_, SqL.of hA⟩, fun dd ndd => ?_⟩
          refine lc_list (K := K) (a := a) (xs := ps1.map V.ref) (fun j H' => Same H6 H' ∧ H' dd = some (.lst ((List.replicate j true).map V.bl))) ⟨same_upd ndd, upd_same⟩ (fun j H' _ h => SqL.of (h.1 _ _ hA)) ?_ ?_
          · rintro j x H7 hj ⟨s7, hD⟩
            obtain ⟨t, ⟨x1, x2, c⟩, rfl, hpt, hrr, hmem, hlt, hR⟩ := Sys.at hl1 hat1 hj
            refine ⟨rfl, ?_⟩
            unfold tYes
            refine iteT ?_
            refine ⟨.ref p, rfl, .ref t, rfl, p, t, fewestE rows ms, (x1, x2, c), rfl, ((hE4.sameT s6).sameT s7).any, gE, .inl (hR.same s7), g.row _ hmem, fun H8 b s8 hb => ?_⟩
            have eb : b = true := hb.mpr fun u hu => back u hu _ hmem
            subst eb
            refine ⟨_, s8 _ _ hD, ?_, (s7.trans s8).later ndd, ?_⟩
            · rw [List.length_map, List.length_replicate]
              exact small1000 (by omega)
            · rw [upd_same, List.replicate_succ', List.map_append]
              rfl
          · rintro H7 ⟨s7, hD⟩
            have ea : (List.replicate (ps1.map V.ref).length true).all id = true := List.all_eq_true.mpr fun b hb => (List.mem_replicate.mp hb).2
            refine ⟨dd, _, rfl, SqL.of hD, ?_⟩
            rw [ea]
            exact q H7 (s16.trans s7)
end
end Lo
namespace Lo
open PySem L2
abbrev sLaw : Stmt := top 38
theorem names_of_pool {xs : List Str} (h : xs ∈ pools) {k : Nat} (h2 : 2 ≤ k) (h4 : k ≤ 4) : Names (xs.take k) := by
  have l := pools_len xs h
  refine ⟨by rw [List.length_take]; omega, by rw [List.length_take]; omega, (List.take_sublist k xs).nodup (pools_nd xs h), fun x hx => pools_ok xs h x (List.mem_of_mem_take hx)⟩
section
variable {P : Program} {w : World} {K : PySem.W.Frag} {mg : Str → Option Value} {base : Heap}
def spLaw (K : PySem.W.Frag) : Sp := fun vs H Q _ => ∃ (s : Addr), vs = [.ref s] ∧ Scr K H s ∧ ∀ H', Q (.bl true) H'
abbrev nLaw : List Str := ["script", "turn", "names", "system", "step", "spot", "one", "other", "shift", "kept"]
theorem scLaw : FnScope nLaw ["script"] (defScope sLaw) := ⟨rfl, rfl, rfl, by decide +kernel, rfl, by decide +kernel, by decide +kernel⟩
/-- a system of the law at sy -/
structure SysN (H : Hp) (sy : Addr) (rows : List SRow) (ns : List Str) (m : Nat) : Prop where
  sys : Sys RowT H sy rows
  good : ∀ r ∈ rows, Good1 r
  few : rows.length ≤ m
  ins : ∀ r ∈ rows, OkR r ∧ In2 ns r
theorem SysN.same {H H' : Hp} {sy : Addr} {rows : List SRow} {ns : List Str} {m : Nat} (s : Same H H') (h : SysN H sy rows ns m) : SysN H' sy rows ns m := ⟨h.sys.sameT s, h.good, h.few, h.ins⟩
/-- two rows more -/
theorem SysN.two {H H' : Hp} {sy t1 t2 q : Addr} {rows : List SRow} {ns : List Str} {m : Nat} {ps : List Addr} {r1 r2 : SRow} (s : Same H H') (h : SysN H sy rows ns m) (hA : H sy = some (.lst (ps.map V.ref))) (hq : H' q = some (.lst (ps.map V.ref ++ [.ref t1, .ref t2])))
    (e1 : RowT H' t1 r1) (e2 : RowT H' t2 r2) (g1 : Good1 r1) (g2 : Good1 r2) (o1 : OkR r1 ∧ In2 ns r1) (o2 : OkR r2 ∧ In2 ns r2) : SysN H' q (rows ++ [r1, r2]) ns (m + 2) := by
  obtain ⟨ps', h1, h2, h3⟩ := h.sys
  rw [hA] at h1
  have e : ps.map V.ref = ps'.map V.ref := HO.lst.inj (Option.some.inj h1)
  have inj : ∀ (l l' : List Addr), l.map V.ref = l'.map V.ref → l = l' := fun l => by
    induction l with
    | nil => intro l' z; cases l' with
      | nil => rfl
      | cons _ _ => exact nomatch z
    | cons x l ih => intro l' z; cases l' with
      | nil => exact nomatch z
      | cons y l' =>
        have z1 := List.cons.inj z
        rw [V.ref.inj z1.1, ih l' z1.2]
  obtain rfl := inj _ _ e
  refine ⟨⟨ps ++ [t1, t2], by rw [hq, List.map_append]; rfl, by simp [h2], fun i p r hp hr => ?_⟩, fun r hr => ?_, ?_, fun r hr => ?_⟩
  · by_cases k : i < ps.length
    · rw [List.getElem?_append_left k] at hp
      rw [List.getElem?_append_left (by omega)] at hr
      exact (h3 i p r hp hr).same s
    · rw [List.getElem?_append_right (by omega)] at hp
      rw [List.getElem?_append_right (by omega), ← h2] at hr
      match i - ps.length, hp, hr with
      | 0, hp, hr =>
        have a1 : t1 = p := Option.some.inj hp
        have a2 : r1 = r := Option.some.inj hr
        exact a1 ▸ a2 ▸ e1
      | 1, hp, hr =>
        have a1 : t2 = p := Option.some.inj hp
        have a2 : r2 = r := Option.some.inj hr
        exact a1 ▸ a2 ▸ e2
      | _ + 2, hp, _ => exact nomatch hp
  · rcases List.mem_append.mp hr with z | z
    · exact h.good r z
    · rcases List.mem_cons.mp z with z | z
      · exact z ▸ g1
      · exact List.mem_singleton.mp z ▸ g2
  · have := h.few
    rw [List.length_append]
    show rows.length + 2 ≤ m + 2
    omega
  · rcases List.mem_append.mp hr with z | z
    · exact h.ins r z
    · rcases List.mem_cons.mp z with z | z
      · exact z ▸ o1
      · exact List.mem_singleton.mp z ▸ o2
theorem ok_law {f fP fD fY fG : Addr} {fd fdP fdD fdY fdG : FuncData} (F : Fun K "law" "law" sLaw f fd) (T : Blt mg)
    (GP : FnOk P w K mg base CX0 2 fP fdP ["script", "at"] (spPool K)) (kP : PySem.W.keepIn K (.ref fP) = true) (bP : Binds K fdP ["script", "at"] []) (gP : mg "_law_pool" = some (.ref fP))
    (GD : FnOk P w K mg base CX0 1 fD fdD ["script", "at", "many"] (spDraw K)) (kD : PySem.W.keepIn K (.ref fD) = true) (bD : Binds K fdD ["script", "at", "many"] []) (gD : mg "_law_draw" = some (.ref fD))
    (GY : FnOk P w K mg base CX0 2 fY fdY ["script", "at", "names", "most"] (spSystem K)) (kY : PySem.W.keepIn K (.ref fY) = true) (bY : Binds K fdY ["script", "at", "names", "most"] []) (gY : mg "_law_system" = some (.ref fY))
    (GG : FnOk P w K mg base CX0 6 fG fdG ["system"] spRight) (kG : PySem.W.keepIn K (.ref fG) = true) (bG : Binds K fdG ["system"] []) (gG : mg "_law_right" = some (.ref fG)) : FnOk P w K mg base CX0 7 f fd ["script"] (spLaw K) := by
  refine F.ok scLaw (fun vs H Q E h => ?_) (fun cdv A outer s H vs Q E hr h => ?_)
  · obtain ⟨s, rfl, _⟩ := h
    rfl
  · obtain ⟨s, rfl, hS, q⟩ := h
    have nd := scLaw.nd
    have r1 := hr.mono (show 1 ≤ 6 by decide)
    have r2 := hr.mono (show 2 ≤ 6 by decide)
    refine ⟨_, pss_cons (ps_for PassesOwn.never rfl (pi_range1 (by rfl) T.range (pa_cons pe_int pa_nil)) (pg_name (i := 1) nd rfl (.inl rfl))
      (C8.pss_cut (ps_set (i := 2) nd rfl (.inl rfl) (pe_slice sl_tupA (pe_call GP r2 (by rfl) gP kP bP .nil pass0 (pa_cons (pv 0) (pa_cons (pe_op op_mul pe_int (pv 1)) pa_nil))) po_none
          (po_some (pe_op op_add pe_int (pe_call GD r1 (by rfl) gD kD bD .nil pass0 (pa_cons (pv 0) (pa_cons (pe_op op_add (pe_op op_mul pe_int (pv 1)) pe_int) (pa_cons pe_int pa_nil))))))))
      (pss_cons (ps_set (i := 3) nd rfl (.inl rfl) (pe_call GY r2 (by rfl) gY kY bY .nil pass0 (pa_cons (pv 0) (pa_cons (pe_op op_add (pe_op op_mul pe_int (pv 1)) pe_int) (pa_cons (pv 2) (pa_cons pe_int pa_nil))))))
      (pss_cons (ps_for PassesOwn.never rfl (pi_range1 (by rfl) T.range (pa_cons (pe_call GD r1 (by rfl) gD kD bD .nil pass0 (pa_cons (pv 0) (pa_cons (pe_op op_add (pe_op op_mul pe_int (pv 1)) pe_int) (pa_cons pe_int pa_nil)))) pa_nil)) (pg_name (i := 4) nd rfl (.inl rfl))
        (pss_cons (ps_set (i := 5) nd rfl (.inl rfl) (pe_op op_add (pe_op op_add (pe_op op_mul pe_int (pv 1)) pe_int) (pe_op op_mul pe_int (pv 4))))
        (pss_cons (ps_set (i := 6) nd rfl (.inl rfl) (pe_ix ix_tup (pv 2) (pe_call GD r1 (by rfl) gD kD bD .nil pass0 (pa_cons (pv 0) (pa_cons (pv 5) (pa_cons (pe_callB call_len_seq (by rfl) T.len PySem.boot_len (pa_cons (pv 2) pa_nil)) pa_nil)))) (fun _ _ => rfl)))
        (pss_cons (ps_set (i := 7) nd rfl (.inl rfl) (pe_ix ix_tup (pe_op op_catT (pe_tup (pa_cons pe_str pa_nil)) (pv 2)) (pe_call GD r1 (by rfl) gD kD bD .nil pass0 (pa_cons (pv 0) (pa_cons (pe_op op_add (pv 5) pe_int) (pa_cons (pe_op op_add (pe_callB call_len_seq (by rfl) T.len PySem.boot_len (pa_cons (pv 2) pa_nil)) pe_int) pa_nil)))) (fun _ _ => rfl)))
        (pss_cons (ps_set (i := 8) nd rfl (.inl rfl) (pe_op op_sub (pe_call GD r1 (by rfl) gD kD bD .nil pass0 (pa_cons (pv 0) (pa_cons (pe_op op_add (pv 5) pe_int) (pa_cons pe_int pa_nil)))) pe_int))
        (pss_one (ps_if (pt_cmpR op_ne (pv 6) (pv 7) (nomark _))
          (pss_one (ps_set (i := 3) nd rfl (.inl rfl) (pe_op op_cat (pv 3) (pe_lst (pa_cons (pe_tup (pa_cons (pv 6) (pa_cons (pv 7) (pa_cons (pv 8) pa_nil)))) (pa_cons (pe_tup (pa_cons (pv 7) (pa_cons (pv 6) (pa_cons (pe_op op_sub pe_int (pv 8)) pa_nil)))) pa_nil)))))) pss_nil)))))))
      (pss_cons (ps_set (i := 9) nd rfl (.inl rfl) (pe_callTy call_list_of (by rfl) T.list PyProof.Rows.boot_list (pa_cons (pv 3) pa_nil)))
      (pss_one (ps_if (PW.pt (pw_or (pt_not (pt_val (pe_call GG hr (by rfl) gG kG bG .nil pass0 (pa_cons (pv 3) pa_nil)))) (pw_or1 (pt_cmpR (op_neD hr.units) (pv 3) (pv 9) (nomark _))))) (pss_one (ps_ret pe_bl)) pss_nil)))))))
      (pss_one (ps_ret pe_bl)), ?_⟩
    refine ⟨2, rfl, by decide, by decide, for_range (lo := 0) (n := 2) (fun i σ H' => ∃ (y1 y2 y3 y4 y5 y6 y7 y8 y9 : Option V), σ = [some (.ref s), y1, y2, y3, y4, y5, y6, y7, y8, y9] ∧ Same H H')
      ⟨_, _, _, _, _, _, _, _, _, rfl, Same.refl H⟩ ?_ (fun σ H' _ => q H')⟩
    rintro i σ H1 hi ⟨y1, y2, y3, y4, y5, y6, y7, y8, y9, rfl, s1⟩
    -- names
    refine ⟨fun σ' H' => ∃ (np : Addr) (ns : List Str), σ' = [some (.ref s), some (.int (0 + (i : Int))), some (.ref np), y3, y4, y5, y6, y7, y8, y9] ∧ Same H H' ∧ H' np = some (.tup (ns.map V.str)) ∧ Names ns, ?_, ?_⟩
    · refine ⟨.ref s, rfl, _, rfl, _, _, rfl, rfl, .inl ⟨by decide, by decide⟩, s, _, rfl, hS.same s1, fun H2 p xs s2 hp hx => ?_⟩
      refine ⟨.ref s, rfl, _, rfl, _, _, rfl, rfl, .inl ⟨by decide, by decide⟩, _, _, rfl, rfl, s, _, 3, rfl, hS.same (s1.trans s2), by decide, fun H3 k s3 k0 k1 => ?_⟩
      have hp3 := s3 _ _ hp
      have s13 := (s1.trans s2).trans s3
      have lx := pools_len xs hx
      obtain ⟨k', rfl⟩ : ∃ k' : Nat, k = (k' : Nat) := ⟨k.toNat, by omega⟩
      have ek : (2 : Int) + (k' : Nat) = ((2 + k' : Nat) : Int) := by omega
      refine ⟨_, _, rfl, rfl, (2 : Int) + (k' : Nat), rfl, p, _, rfl, SqT.of hp3, fun hc => ?_, fun hc p' np' => ?_⟩
      · have hk : k' = 2 := by
          have h2 := hc.2
          rw [ek, HT.sIx_nat, List.length_map, lx] at h2
          omega
        refine ⟨p, xs, rfl, s13, hp3, ?_⟩
        have := names_of_pool hx (k := 4) (by decide) (by decide)
        rw [List.take_of_length_le (by omega)] at this
        exact this
      · refine ⟨p', xs.take (2 + k'), rfl, s13.trans (same_upd np'), ?_, names_of_pool hx (by omega) (by omega)⟩
        rw [upd_same, ek, cut_take, List.map_take]
    rintro σ2 H2 ⟨np, ns, rfl, s2, hnp, N⟩
    -- system
    refine ⟨.ref s, rfl, _, rfl, _, _, rfl, rfl, .inl ⟨by decide, by decide⟩, _, _, rfl, rfl, .ref np, rfl, s, np, _, 8, ns, rfl, hS.same s2, hnp, N, by decide, by decide, fun H3 sy rows s3 _ hsy g hlen hok => ?_⟩
    have s03 := s2.trans s3
    refine ⟨.ref s, rfl, _, rfl, _, _, rfl, rfl, .inl ⟨by decide, by decide⟩, _, _, rfl, rfl, s, _, 4, rfl, hS.same s03, by decide, fun H4 m s4 m0 m1 => ?_⟩
    refine ⟨m, rfl, by omega, by omega, ?_⟩
    have l2 := N.two
    have l4 := N.few
    refine for_range (lo := 0) (n := m.toNat) (fun j σ H' => ∃ (y4 y5 y6 y7 y8 : Option V) (sy : Addr) (rows : List SRow), σ = [some (.ref s), some (.int (0 + (i : Int))), some (.ref np), some (.ref sy), y4, y5, y6, y7, y8, y9] ∧ Same H H' ∧ H' np = some (.tup (ns.map V.str)) ∧ SysN H' sy rows ns (10 + 2 * j))
      ⟨_, _, _, _, _, sy, rows, rfl, s03.trans s4, s4 _ _ (s3 _ _ hnp), (SysN.mk hsy g.row (by omega) hok : SysN H3 sy rows ns 10).same s4⟩ ?_ ?_
    · clear hsy g hlen hok
      rintro j σ H5 hj ⟨y4, y5, y6, y7, y8, sy, rows, rfl, s5, hnp5, Y⟩
      have eln : (((ns.map V.str).length : Nat) : Int) = (ns.length : Int) := by rw [List.length_map]
      -- spot, one
      refine ⟨_, rfl, _, _, rfl, rfl, .inl ⟨by decide, by decide⟩, _, _, rfl, rfl, _, rfl, _, _, rfl, rfl, .inl ⟨by decide, by decide⟩, _, _, rfl, rfl, ?_⟩
      refine ⟨.ref np, rfl, .ref s, rfl, _, rfl, .ref np, rfl, np, _, rfl, .inr (SqT.of hnp5), s, _, _, rfl, hS.same s5, by rw [eln]; omega, fun H6 k s6 k0 k1 => ?_⟩
      rw [eln] at k1
      obtain ⟨a, rfl, ha⟩ : ∃ a : Nat, k = (a : Nat) ∧ a < ns.length := ⟨k.toNat, by omega, by omega⟩
      have hnp6 := s6 _ _ hnp5
      have at1 : (ns.map V.str)[a]? = some (.str ns[a]) := by
        rw [List.getElem?_map, List.getElem?_eq_getElem ha]
        rfl
      refine ⟨np, _, _, _, rfl, rfl, SqT.of hnp6, atI_nat at1, ?_⟩
      -- other
      refine ⟨by show 1 ≤ sizeLine; decide, fun z nz => ?_⟩
      have sZ := same_upd (o := HO.tup [V.str "0"]) nz
      have nsne : ns.map V.str ≠ [] := fun e => by
        have e2 := congrArg List.length e
        rw [List.length_map] at e2
        have : ns.length = 0 := e2
        omega
      refine ⟨.ref np, rfl, z, np, _, _, rfl, rfl, SqT.of upd_same, SqT.of (sZ _ _ hnp6), List.cons_ne_nil _ _, ?_, fun e => absurd e nsne, fun _ en nen => ?_⟩
      · rw [List.length_map]
        exact Nat.le_of_lt (small1000 (by show 1 + ns.length ≤ 1000; omega))
      have sE := same_upd (o := HO.tup ([V.str "0"] ++ ns.map V.str)) nen
      have s7 := (s6.trans sZ).trans sE
      have he7 : upd (upd H6 z (.tup [V.str "0"])) en (.tup ([V.str "0"] ++ ns.map V.str)) en = some (.tup ((("0" : Str) :: ns).map V.str)) := upd_same
      generalize upd (upd H6 z (.tup [V.str "0"])) en (.tup ([V.str "0"] ++ ns.map V.str)) = H7 at s7 he7 ⊢
      have hnp7 := s7 _ _ hnp5
      refine ⟨.ref s, rfl, _, rfl, _, _, rfl, rfl, .ref np, rfl, np, _, rfl, .inr (SqT.of hnp7), _, _, rfl, rfl, s, _, _, rfl, hS.same (s5.trans s7), by rw [eln]; omega, fun H8 k s8 k0 k1 => ?_⟩
      rw [eln] at k1
      obtain ⟨b, rfl, hb⟩ : ∃ b : Nat, k = (b : Nat) ∧ b < (("0" : Str) :: ns).length := ⟨k.toNat, by omega, by rw [List.length_cons]; omega⟩
      have at2 : ((("0" : Str) :: ns).map V.str)[b]? = some (.str (("0" : Str) :: ns)[b]) := by
        rw [List.getElem?_map, List.getElem?_eq_getElem hb]
        rfl
      refine ⟨en, _, _, _, rfl, rfl, SqT.of (s8 _ _ he7), atI_nat at2, ?_⟩
      -- shift
      refine ⟨.ref s, rfl, _, rfl, _, _, rfl, rfl, s, _, 5, rfl, hS.same ((s5.trans s7).trans s8), by decide, fun H9 sh s9 sh0 sh1 => ?_⟩
      refine ⟨_, _, rfl, rfl, ?_⟩
      have s59 := (s7.trans s8).trans s9
      have Y9 := Y.same s59
      have hnp9 := s59 _ _ hnp5
      obtain ⟨end_nd, end_ok⟩ := N.ends
      have m1 : ns[a] ∈ (("0" : Str) :: ns) := List.mem_cons_of_mem _ (List.getElem_mem ha)
      have m2 : (("0" : Str) :: ns)[b] ∈ (("0" : Str) :: ns) := List.getElem_mem hb
      refine ⟨_, rfl, _, rfl, rfl, _, rfl, ?_⟩
      rw [ne_dec]
      refine ite2 (fun e => ?_) (fun e => ⟨_, _, _, _, _, sy, rows, rfl, s5.trans s59, hnp9, Y9.sys, Y9.good, by have := Y9.few; omega, Y9.ins⟩)
      have dif : ns[a] ≠ (("0" : Str) :: ns)[b] := of_decide_eq_true e
      obtain ⟨ps, hA, hl, hat⟩ := id Y9.sys
      have few := Y9.few
      refine ⟨.ref sy, rfl, _, rfl, _, rfl, _, rfl, by show 3 ≤ sizeLine; decide, fun t1 nt1 => ?_⟩
      have sT1 := same_upd (o := HO.tup [V.str ns[a], V.str (("0" : Str) :: ns)[b], V.int (sh - 2)]) nt1
      refine ⟨_, rfl, _, rfl, _, rfl, _, _, rfl, rfl, by show 3 ≤ sizeLine; decide, fun t2 nt2 => ?_⟩
      have sT2 := same_upd (o := HO.tup [V.str (("0" : Str) :: ns)[b], V.str ns[a], V.int (0 - (sh - 2))]) nt2
      refine ⟨by show 2 ≤ sizeLine; decide, fun l nl => ?_⟩
      have sL := same_upd (o := HO.lst [V.ref t1, V.ref t2]) nl
      have sTL := (sT1.trans sT2).trans sL
      refine ⟨sy, l, _, _, rfl, rfl, sTL _ _ hA, upd_same, ?_, fun qn nq => ?_⟩
      · rw [List.length_map, hl]
        exact Nat.le_of_lt (small1000 (by show rows.length + 2 ≤ 1000; omega))
      have sQ := same_upd (o := HO.lst (ps.map V.ref ++ [V.ref t1, V.ref t2])) nq
      have sAll := sTL.trans sQ
      have e1 := (sL.trans sQ) _ _ (sT2 _ _ (upd_same (H := H9) (a := t1) (o := HO.tup [V.str ns[a], V.str (("0" : Str) :: ns)[b], V.int (sh - 2)])))
      have e2 := (sL.trans sQ) _ _ (upd_same (H := upd H9 t1 (.tup [V.str ns[a], V.str (("0" : Str) :: ns)[b], V.int (sh - 2)])) (a := t2) (o := HO.tup [V.str (("0" : Str) :: ns)[b], V.str ns[a], V.int (0 - (sh - 2))]))
      have Z := Y9.two (r1 := (ns[a], (("0" : Str) :: ns)[b], sh - 2)) (r2 := ((("0" : Str) :: ns)[b], ns[a], 0 - (sh - 2))) sAll hA upd_same e1 e2
        ⟨dif, (end_ok _ m1).1, (end_ok _ m2).1⟩ ⟨dif.symm, (end_ok _ m2).1, (end_ok _ m1).1⟩ ⟨⟨(end_ok _ m1).2.2.2, (end_ok _ m2).2.2.2⟩, m1, m2⟩ ⟨⟨(end_ok _ m2).2.2.2, (end_ok _ m1).2.2.2⟩, m2, m1⟩
      exact ⟨_, _, _, _, _, qn, _, rfl, (s5.trans s59).trans sAll, sAll _ _ hnp9, Z⟩
    · clear hsy g hlen hok
      rintro σ H5 ⟨y4, y5, y6, y7, y8, sy, rows, rfl, s5, hnp5, Y⟩
      have few := Y.few
      obtain ⟨ps, hA, hl, hat⟩ := id Y.sys
      refine ⟨.ref sy, rfl, sy, _, rfl, .inl (SqL.of hA), fun kp nkp => ?_⟩
      have sK := same_upd (o := HO.lst (ps.map V.ref)) nkp
      have Y6 := Y.same sK
      have hkp : Sys RowT (upd H5 kp (.lst (ps.map V.ref))) kp rows := ⟨ps, upd_same, hl, fun i p r hp hr => (hat i p r hp hr).same sK⟩
      have s6 := s5.trans sK
      generalize upd H5 kp (.lst (ps.map V.ref)) = H6 at s6 Y6 hkp ⊢
      have ok : ∀ r ∈ rows, OkR r := fun r hr => (Y.ins r hr).1
      refine ⟨.ref sy, rfl, sy, rows, ns, rfl, Y6.sys, ⟨Y6.good, by omega⟩, by omega, Y6.ins, l4, fun H7 s7 => ⟨true, rfl, iteF ?_⟩⟩
      refine ⟨.ref sy, rfl, .ref kp, rfl, rowsD rows, rowsD rows, dp_sys (Y6.sys.sameT s7), dp_sys (hkp.sameT s7), shaped_rows ok, shaped_rows ok, _, rfl, ?_⟩
      rw [eqv_rowsD]
      exact iteF ⟨_, _, _, _, _, _, _, _, _, rfl, s6.trans s7⟩
end
end Lo
namespace Lo
open PySem L2
/-- a def of the top, as it stands behind it -/
structure Df (K : PySem.W.Frag) (x : Str) (st : Stmt) (f : Addr) (fd : FuncData) : Prop where
  ns : PySem.W.nsIn K mainGlobals x = some (some (.ref f))
  fn : Fun K x x st f fd
theorem df_mk {K : PySem.W.Frag} {x : Str} {st : Stmt} {f : Addr} {oc : Value} {od an : Option Addr} {osl : Array (Option Value)} {kV doc pm cdv ct : Value} (a : PySem.W.nsIn K mainGlobals x = some (some (.ref f)))
    (l : K.lookup f = some ⟨oc, od, .func (PySem.W.fnOf x x (defArgs st) (defBody st) (defScope st) .none kV doc pm an cdv ct), osl⟩) (c : PySem.W.codeIn K cdv x = true) (k : PySem.W.keepIn K (.ref f) = true) :
    Df K x st f (PySem.W.fnOf x x (defArgs st) (defBody st) (defScope st) .none kV doc pm an cdv ct) := ⟨a, fun_mk l c k⟩
theorem err_self {K : PySem.W.Frag} {C : Addr} (h1 : PySem.W.subIn K (.ref C) (.type "BaseException") = some true) (h2 : PySem.W.isClsIn K C = true) (h3 : PySem.W.typeIn K (.ref C) = some (.type "type")) (h4 : PySem.W.subIn K (.ref C) (.ref C) = some true) : PySem.W.exmOne K (.ref C) (.ref C) = some true := by
  unfold PySem.W.isClsIn at h2
  simp [PySem.W.exmOne, PySem.W.kitCls, h1, h2, h3, h4]
theorem all_mk {l : PySem.W.OpenLaw} {w : World} {K : PySem.W.Frag} {h : Heap} {mg : Str → Option Value} {fa f1 f2 f3 f4 f5 f6 f7 f8 f9 f10 f11 f12 f13 f14 f15 f16 f17 f18 f19 f20 f21 f22 f23 f24 f25 f26 f27 f28 f29 f30 cNoSolution : Addr} (X : K.In h) (G : h.Ns mainGlobals mg) (hfa : mg "law" = some (.ref fa))
    {fd1 fd2 fd3 fd4 fd5 fd6 fd7 fd8 fd9 fd10 fd11 fd12 fd13 fd14 fd15 fd16 fd17 fd18 fd19 fd20 fd21 fd22 fd23 fd24 fd25 fd26 fd27 fd28 fd29 : FuncData}
    (D1 : Df K "is_whole" sWhole f1 fd1)
    (D2 : Df K "is_side" sSide f2 fd2)
    (D3 : Df K "is_difference" sDiff f3 fd3)
    (D4 : Df K "read_system" sRead f4 fd4)
    (D5 : Df K "tightened" sTightened f5 fd5)
    (D6 : Df K "_with_rows" sWithRows f6 fd6)
    (D7 : Df K "_lowered" sLowered f7 fd7)
    (D8 : Df K "table_of" sTableOf f8 fd8)
    (D9 : Df K "fewest_of" sFewestOf f9 fd9)
    (D10 : Df K "_groups" sGroups f10 fd10)
    (D11 : Df K "_in_order" sInOrder f11 fd11)
    (D12 : Df K "_leader" sLeader f12 fd12)
    (D13 : Df K "_follows" sFollows f13 fd13)
    (D14 : Df K "fewest" sFewest f14 fd14)
    (D15 : Df K "ring" sRing f15 fd15)
    (D16 : Df K "implied" sImplied f16 fd16)
    (D17 : Df K "_settled" sSettled f17 fd17)
    (D18 : Df K "_turn" sTurn f18 fd18)
    (D19 : Df K "_ring_through" sThrough f19 fd19)
    (D20 : Df K "_reached" sReached f20 fd20)
    (D21 : Df K "_law_draw" sDraw f21 fd21)
    (D22 : Df K "_law_names_of" sLNames f22 fd22)
    (D23 : Df K "_law_pool" sPool f23 fd23)
    (D24 : Df K "_law_system" sSystem f24 fd24)
    (D25 : Df K "_law_table" sLTable f25 fd25)
    (D26 : Df K "_law_heads" sLHeads f26 fd26)
    (D27 : Df K "_law_needed" sLNeeded f27 fd27)
    (D28 : Df K "_law_due" sLDue f28 fd28)
    (D29 : Df K "_law_right" sRight f29 fd29)
    {od an : Option Addr} {sl : Array (Option Value)} {oc kV dc pm cd ct : Value}
    (aL : PySem.W.nsIn K mainGlobals "law" = some (some (.ref f30))) (lL : K.lookup f30 = some ⟨oc, od, .func (PySem.W.fnOf "law" "law" (defArgs sLaw) (defBody sLaw) (defScope sLaw) .none kV dc pm an cd ct), sl⟩) (cL : PySem.W.codeIn K cd "law" = true) (kL : PySem.W.keepIn K (.ref f30) = true)
    (z_isi : PySem.W.nsIn K mainGlobals "isinstance" = some none)
    (z_int : PySem.W.nsIn K mainGlobals "int" = some none)
    (z_bool : PySem.W.nsIn K mainGlobals "bool" = some none)
    (z_str : PySem.W.nsIn K mainGlobals "str" = some none)
    (z_tuple : PySem.W.nsIn K mainGlobals "tuple" = some none)
    (z_list : PySem.W.nsIn K mainGlobals "list" = some none)
    (z_len : PySem.W.nsIn K mainGlobals "len" = some none)
    (z_enum : PySem.W.nsIn K mainGlobals "enumerate" = some none)
    (z_range : PySem.W.nsIn K mainGlobals "range" = some none)
    (z_all : PySem.W.nsIn K mainGlobals "all" = some none)
    (z_sorted : PySem.W.nsIn K mainGlobals "sorted" = some none)
    (z_set : PySem.W.nsIn K mainGlobals "set" = some none)
    (z_sum : PySem.W.nsIn K mainGlobals "sum" = some none)
    (z_dict : PySem.W.nsIn K mainGlobals "dict" = some none)
    (eaNoSolution : PySem.W.nsIn K mainGlobals "NoSolution" = some (some (.ref cNoSolution))) (exNoSolution : PySem.W.excIn K cNoSolution [.type "ValueError", .type "Exception", .type "BaseException", .type "object"] "ValueError.__new__" = true) (ekNoSolution : PySem.W.keepIn K (.ref cNoSolution) = true)
    (ebNoSolution : PySem.W.subIn K (.ref cNoSolution) (.type "BaseException") = some true) (etNoSolution : PySem.W.typeIn K (.ref cNoSolution) = some (.type "type")) (eiNoSolution : PySem.W.isClsIn K cNoSolution = true) (esNoSolution : PySem.W.subIn K (.ref cNoSolution) (.ref cNoSolution) = some true)
    : ∃ fd : FuncData, (∀ (s : Shared) (v : Value), BindsTo s fd ⟨[v], []⟩ [("script", v)]) ∧ ∀ base : Heap, K.In base → base.Ns mainGlobals mg → FnOk l.prog w K mg base CX0 7 fa fd ["script"] (spLaw K) := by
  have e := hfa.symm.trans (PySem.W.mg_of X G aL)
  cases e
  have T : Blt mg := ⟨PySem.W.mg_none_of X G z_isi, PySem.W.mg_none_of X G z_int, PySem.W.mg_none_of X G z_bool, PySem.W.mg_none_of X G z_str, PySem.W.mg_none_of X G z_tuple, PySem.W.mg_none_of X G z_list, PySem.W.mg_none_of X G z_len, PySem.W.mg_none_of X G z_enum, PySem.W.mg_none_of X G z_range, PySem.W.mg_none_of X G z_all⟩
  have U : Blt2 mg := ⟨PySem.W.mg_none_of X G z_sorted, PySem.W.mg_none_of X G z_set, PySem.W.mg_none_of X G z_sum, PySem.W.mg_none_of X G z_dict⟩
  have NNoSolution : Err K mg "NoSolution" cNoSolution := ⟨PySem.W.mg_of X G eaNoSolution, exNoSolution, ekNoSolution, ebNoSolution, etNoSolution, err_self ebNoSolution eiNoSolution etNoSolution esNoSolution⟩
  have m1 := PySem.W.mg_of X G D1.ns
  have k1 := D1.fn.kp
  have b1 := D1.fn.binds (ps := ["thing"]) fun _ _ _ _ _ _ us hl => match us, hl with | [_], _ => rfl
  have m2 := PySem.W.mg_of X G D2.ns
  have k2 := D2.fn.kp
  have b2 := D2.fn.binds (ps := ["thing"]) fun _ _ _ _ _ _ us hl => match us, hl with | [_], _ => rfl
  have m3 := PySem.W.mg_of X G D3.ns
  have k3 := D3.fn.kp
  have b3 := D3.fn.binds (ps := ["thing"]) fun _ _ _ _ _ _ us hl => match us, hl with | [_], _ => rfl
  have m4 := PySem.W.mg_of X G D4.ns
  have k4 := D4.fn.kp
  have b4 := D4.fn.binds (ps := ["system"]) fun _ _ _ _ _ _ us hl => match us, hl with | [_], _ => rfl
  have m5 := PySem.W.mg_of X G D5.ns
  have k5 := D5.fn.kp
  have b5 := D5.fn.binds (ps := ["table", "left", "right", "limit"]) fun _ _ _ _ _ _ us hl => match us, hl with | [_, _, _, _], _ => rfl
  have m6 := PySem.W.mg_of X G D6.ns
  have k6 := D6.fn.kp
  have b6 := D6.fn.binds (ps := ["table", "left", "right"]) fun _ _ _ _ _ _ us hl => match us, hl with | [_, _, _], _ => rfl
  have m7 := PySem.W.mg_of X G D7.ns
  have k7 := D7.fn.kp
  have b7 := D7.fn.binds (ps := ["row", "base", "further"]) fun _ _ _ _ _ _ us hl => match us, hl with | [_, _, _], _ => rfl
  have m8 := PySem.W.mg_of X G D8.ns
  have k8 := D8.fn.kp
  have b8 := D8.fn.binds (ps := ["differences"]) fun _ _ _ _ _ _ us hl => match us, hl with | [_], _ => rfl
  have m9 := PySem.W.mg_of X G D9.ns
  have k9 := D9.fn.kp
  have b9 := D9.fn.binds (ps := ["table"]) fun _ _ _ _ _ _ us hl => match us, hl with | [_], _ => rfl
  have m10 := PySem.W.mg_of X G D10.ns
  have k10 := D10.fn.kp
  have b10 := D10.fn.binds (ps := ["table"]) fun _ _ _ _ _ _ us hl => match us, hl with | [_], _ => rfl
  have m11 := PySem.W.mg_of X G D11.ns
  have k11 := D11.fn.kp
  have b11 := D11.fn.binds (ps := ["table"]) fun _ _ _ _ _ _ us hl => match us, hl with | [_], _ => rfl
  have m12 := PySem.W.mg_of X G D12.ns
  have k12 := D12.fn.kp
  have b12 := D12.fn.binds (ps := ["table", "name", "leaders"]) fun _ _ _ _ _ _ us hl => match us, hl with | [_, _, _], _ => rfl
  have m13 := PySem.W.mg_of X G D13.ns
  have k13 := D13.fn.kp
  have b13 := D13.fn.binds (ps := ["table", "left", "right", "leaders"]) fun _ _ _ _ _ _ us hl => match us, hl with | [_, _, _, _], _ => rfl
  have m14 := PySem.W.mg_of X G D14.ns
  have k14 := D14.fn.kp
  have b14 := D14.fn.binds (ps := ["system"]) fun _ _ _ _ _ _ us hl => match us, hl with | [_], _ => rfl
  have m15 := PySem.W.mg_of X G D15.ns
  have k15 := D15.fn.kp
  have b15 := D15.fn.binds (ps := ["system"]) fun _ _ _ _ _ _ us hl => match us, hl with | [_], _ => rfl
  have m16 := PySem.W.mg_of X G D16.ns
  have k16 := D16.fn.kp
  have b16 := D16.fn.binds (ps := ["system", "difference"]) fun _ _ _ _ _ _ us hl => match us, hl with | [_, _], _ => rfl
  have m17 := PySem.W.mg_of X G D17.ns
  have k17 := D17.fn.kp
  have b17 := D17.fn.binds (ps := ["differences"]) fun _ _ _ _ _ _ us hl => match us, hl with | [_], _ => rfl
  have m18 := PySem.W.mg_of X G D18.ns
  have k18 := D18.fn.kp
  have b18 := D18.fn.binds (ps := ["differences", "causes"]) fun _ _ _ _ _ _ us hl => match us, hl with | [_, _], _ => rfl
  have m19 := PySem.W.mg_of X G D19.ns
  have k19 := D19.fn.kp
  have b19 := D19.fn.binds (ps := ["differences", "causes", "start"]) fun _ _ _ _ _ _ us hl => match us, hl with | [_, _, _], _ => rfl
  have m20 := PySem.W.mg_of X G D20.ns
  have k20 := D20.fn.kp
  have b20 := D20.fn.binds (ps := ["differences", "left", "right"]) fun _ _ _ _ _ _ us hl => match us, hl with | [_, _, _], _ => rfl
  have m21 := PySem.W.mg_of X G D21.ns
  have k21 := D21.fn.kp
  have b21 := D21.fn.binds (ps := ["script", "at", "many"]) fun _ _ _ _ _ _ us hl => match us, hl with | [_, _, _], _ => rfl
  have m22 := PySem.W.mg_of X G D22.ns
  have k22 := D22.fn.kp
  have b22 := D22.fn.binds (ps := ["system"]) fun _ _ _ _ _ _ us hl => match us, hl with | [_], _ => rfl
  have m23 := PySem.W.mg_of X G D23.ns
  have k23 := D23.fn.kp
  have b23 := D23.fn.binds (ps := ["script", "at"]) fun _ _ _ _ _ _ us hl => match us, hl with | [_, _], _ => rfl
  have m24 := PySem.W.mg_of X G D24.ns
  have k24 := D24.fn.kp
  have b24 := D24.fn.binds (ps := ["script", "at", "names", "most"]) fun _ _ _ _ _ _ us hl => match us, hl with | [_, _, _, _], _ => rfl
  have m25 := PySem.W.mg_of X G D25.ns
  have k25 := D25.fn.kp
  have b25 := D25.fn.binds (ps := ["names", "system"]) fun _ _ _ _ _ _ us hl => match us, hl with | [_, _], _ => rfl
  have m26 := PySem.W.mg_of X G D26.ns
  have k26 := D26.fn.kp
  have b26 := D26.fn.binds (ps := ["ends", "table"]) fun _ _ _ _ _ _ us hl => match us, hl with | [_, _], _ => rfl
  have m27 := PySem.W.mg_of X G D27.ns
  have k27 := D27.fn.kp
  have b27 := D27.fn.binds (ps := ["heads", "table", "one", "other"]) fun _ _ _ _ _ _ us hl => match us, hl with | [_, _, _, _], _ => rfl
  have m28 := PySem.W.mg_of X G D28.ns
  have k28 := D28.fn.kp
  have b28 := D28.fn.binds (ps := ["names", "table"]) fun _ _ _ _ _ _ us hl => match us, hl with | [_, _], _ => rfl
  have m29 := PySem.W.mg_of X G D29.ns
  have k29 := D29.fn.kp
  have b29 := D29.fn.binds (ps := ["system"]) fun _ _ _ _ _ _ us hl => match us, hl with | [_], _ => rfl
  refine ⟨PySem.W.fnOf "law" "law" (defArgs sLaw) (defBody sLaw) (defScope sLaw) .none kV dc pm an cd ct, fun s v => .of_eq rfl, fun base _ _ => ?_⟩
  have G2 : FnOk l.prog w K mg base CX0 1 f2 fd2 ["thing"] spSide := ok_side D2.fn T
  have G3 : FnOk l.prog w K mg base CX0 2 f3 fd3 ["thing"] spDiff := ok_diff D3.fn T D2.fn b2 m2 D1.fn b1 m1
  have G4 : FnOk l.prog w K mg base CX0 3 f4 fd4 ["system"] spRead := ok_read D4.fn T G3 k3 b3 m3
  have G19 : FnOk l.prog w K mg base CX0 1 f19 fd19 ["differences", "causes", "start"] spThrough := ok_through D19.fn 
  have G18 : FnOk l.prog w K mg base CX0 2 f18 fd18 ["differences", "causes"] spTurn := ok_turn D18.fn T G19 k19 b19 m19
  have G17 : FnOk l.prog w K mg base CX0 3 f17 fd17 ["differences"] spSettled := ok_settled D17.fn T G18 k18 b18 m18
  have G20 : FnOk l.prog w K mg base CX0 1 f20 fd20 ["differences", "left", "right"] spReached := ok_reached D20.fn T
  have G16 : FnOk l.prog w K mg base CX0 4 f16 fd16 ["system", "difference"] spImplied := ok_implied D16.fn G17 k17 b17 m17 G4 k4 b4 m4 G3 k3 b3 m3 G20 k20 b20 m20
  have G7 : FnOk l.prog w K mg base CX0 1 f7 fd7 ["row", "base", "further"] spLowered := ok_lowered D7.fn U
  have G6 : FnOk l.prog w K mg base CX0 1 f6 fd6 ["table", "left", "right"] spWithRows := ok_withrows D6.fn U
  have Ga5 : FnOk l.prog w K mg base CX0 2 f5 fd5 ["table", "left", "right", "limit"] spTight1 := ok_tight1 D5.fn U G7 k7 b7 m7
  have Gb5 : FnOk l.prog w K mg base CX0 3 f5 fd5 ["table", "left", "right", "limit"] spTight0 := ok_tight0 D5.fn b5 m5 Ga5 G6 k6 b6 m6
  have G5 : FnOk l.prog w K mg base CX0 3 f5 fd5 ["table", "left", "right", "limit"] spTight' := ok_tightened Ga5 Gb5
  have G8 : FnOk l.prog w K mg base CX0 4 f8 fd8 ["differences"] spTableOf := ok_tableof D8.fn G5 k5 b5 m5
  have G11 : FnOk l.prog w K mg base CX0 1 f11 fd11 ["table"] spInOrder := ok_inorder D11.fn U
  have G12 : FnOk l.prog w K mg base CX0 1 f12 fd12 ["table", "name", "leaders"] spLeader := ok_leader D12.fn 
  have G13 : FnOk l.prog w K mg base CX0 1 f13 fd13 ["table", "left", "right", "leaders"] spFollows := ok_follows D13.fn 
  have G10 : FnOk l.prog w K mg base CX0 2 f10 fd10 ["table"] spGroups := ok_groups D10.fn T G11 k11 b11 m11 G12 k12 b12 m12
  have G9 : FnOk l.prog w K mg base CX0 3 f9 fd9 ["table"] spFewestOf := ok_fewestof D9.fn T G10 k10 b10 m10 G13 k13 b13 m13
  have G14 : FnOk l.prog w K mg base CX0 5 f14 fd14 ["system"] spFewest := ok_fewest D14.fn G8 k8 b8 m8 G4 k4 b4 m4 G9 k9 b9 m9
  have GX14 : FnOk l.prog w K mg base (L2N.CX l.prog w) 5 f14 fd14 ["system"] (spFewestX cNoSolution) := ok_fewestXN D14.fn NNoSolution G8 k8 b8 m8 G4 k4 b4 m4
  have GH3 : L2H.FnH l.prog w K mg base CX0 2 f3 fd3 ["thing"] spDiffT := okh_diff D3.fn T D2.fn b2 m2 D1.fn b1 m1
  have GH4 : L2H.FnH l.prog w K mg base CX0 3 f4 fd4 ["system"] spReadT := okh_read D4.fn T GH3 k3 b3 m3
  have GH19 : L2H.FnH l.prog w K mg base CX0 1 f19 fd19 ["differences", "causes", "start"] spThrough := okh_through D19.fn 
  have GH18 : L2H.FnH l.prog w K mg base CX0 2 f18 fd18 ["differences", "causes"] spTurn := okh_turn D18.fn T GH19 k19 b19 m19
  have GH17 : L2H.FnH l.prog w K mg base CX0 3 f17 fd17 ["differences"] spSettled := okh_settled D17.fn T GH18 k18 b18 m18
  have GH15 : L2H.FnH l.prog w K mg base CX0 4 f15 fd15 ["system"] spRingT := okh_ring D15.fn GH17 k17 b17 m17 GH4 k4 b4 m4
  have G21 : FnOk l.prog w K mg base CX0 1 f21 fd21 ["script", "at", "many"] (spDraw K) := ok_draw D21.fn T
  have G22 : FnOk l.prog w K mg base CX0 1 f22 fd22 ["system"] spLNames := ok_lnames D22.fn 
  have G23 : FnOk l.prog w K mg base CX0 2 f23 fd23 ["script", "at"] (spPool K) := ok_pool D23.fn G21 k21 b21 m21
  have G24 : FnOk l.prog w K mg base CX0 2 f24 fd24 ["script", "at", "names", "most"] (spSystem K) := ok_system D24.fn T G21 k21 b21 m21
  have G25 : FnOk l.prog w K mg base CX0 1 f25 fd25 ["names", "system"] spLTable := ok_ltable D25.fn T
  have G26 : FnOk l.prog w K mg base CX0 1 f26 fd26 ["ends", "table"] spLHeads := ok_lheads D26.fn T
  have G27 : FnOk l.prog w K mg base CX0 1 f27 fd27 ["heads", "table", "one", "other"] spLNeeded := ok_lneeded D27.fn 
  have G28 : FnOk l.prog w K mg base CX0 2 f28 fd28 ["names", "table"] spLDue := ok_ldue D28.fn T G26 k26 b26 m26 G27 k27 b27 m27
  have G29 : FnOk l.prog w K mg base CX0 6 f29 fd29 ["system"] spRight := ok_right D29.fn T NNoSolution G22 k22 b22 m22 G25 k25 b25 m25 G14 k14 b14 m14 GX14 GH15 k15 b15 m15 G28 k28 b28 m28 G16 k16 b16 m16
  exact ok_law (fun_mk (st := sLaw) lL cL kL) T G23 k23 b23 m23 G21 k21 b21 m21 G24 k24 b24 m24 G29 k29 b29 m29
end Lo
open PySem PySem.W PyProof.Rows
set_option maxHeartbeats 0 in
theorem PySem.Challenge.cw_loopsheds_k05_fewest_holds : PySem.Challenge.rw_loopsheds_k05_fewest.Holds := by
  w_on; o_law; k_head; (case hw => w_witness2)
  k_fill
  refine L2.walk_of (l := PySem.Challenge.rw_loopsheds_k05_fewest) (n := 63) (k := 7) (x := "script") (CX := fun _ => L2.CX0) (sp := fun w => Lo.spLaw _) rfl (by decide) rfl ⟨rfl, by decide, by decide⟩ (fun w h Y => PySem.W.kIn_of Y) ?F (fun _ _ a ns hl _ hS => ⟨a, rfl, ⟨ns, hS, hl⟩, fun _ => rfl⟩) (fun _ _ _ _ _ h => h)
  case F =>
    intro w mg fa h KX G hmg
    refine' Lo.all_mk KX G hmg (Lo.df_mk ?a1 ?l1 ?c1 ?k1) (Lo.df_mk ?a2 ?l2 ?c2 ?k2) (Lo.df_mk ?a3 ?l3 ?c3 ?k3) (Lo.df_mk ?a4 ?l4 ?c4 ?k4) (Lo.df_mk ?a5 ?l5 ?c5 ?k5) (Lo.df_mk ?a6 ?l6 ?c6 ?k6) (Lo.df_mk ?a7 ?l7 ?c7 ?k7) (Lo.df_mk ?a8 ?l8 ?c8 ?k8) (Lo.df_mk ?a9 ?l9 ?c9 ?k9) (Lo.df_mk ?a10 ?l10 ?c10 ?k10) (Lo.df_mk ?a11 ?l11 ?c11 ?k11) (Lo.df_mk ?a12 ?l12 ?c12 ?k12) (Lo.df_mk ?a13 ?l13 ?c13 ?k13) (Lo.df_mk ?a14 ?l14 ?c14 ?k14) (Lo.df_mk ?a15 ?l15 ?c15 ?k15) (Lo.df_mk ?a16 ?l16 ?c16 ?k16) (Lo.df_mk ?a17 ?l17 ?c17 ?k17) (Lo.df_mk ?a18 ?l18 ?c18 ?k18) (Lo.df_mk ?a19 ?l19 ?c19 ?k19) (Lo.df_mk ?a20 ?l20 ?c20 ?k20) (Lo.df_mk ?a21 ?l21 ?c21 ?k21) (Lo.df_mk ?a22 ?l22 ?c22 ?k22) (Lo.df_mk ?a23 ?l23 ?c23 ?k23) (Lo.df_mk ?a24 ?l24 ?c24 ?k24) (Lo.df_mk ?a25 ?l25 ?c25 ?k25) (Lo.df_mk ?a26 ?l26 ?c26 ?k26) (Lo.df_mk ?a27 ?l27 ?c27 ?k27) (Lo.df_mk ?a28 ?l28 ?c28 ?k28) (Lo.df_mk ?a29 ?l29 ?c29 ?k29) ?aL ?lL ?cL ?kL ?z_isi ?z_int ?z_bool ?z_str ?z_tuple ?z_list ?z_len ?z_enum ?z_range ?z_all ?z_sorted ?z_set ?z_sum ?z_dict ?eaNoSolution ?exNoSolution ?ekNoSolution ?ebNoSolution ?etNoSolution ?eiNoSolution ?esNoSolution
    (case a1 => k_is)
    (case l1 => k_is)
    (case c1 => k_is)
    (case k1 => k_is)
    (case a2 => k_is)
    (case l2 => k_is)
    (case c2 => k_is)
    (case k2 => k_is)
    (case a3 => k_is)
    (case l3 => k_is)
    (case c3 => k_is)
    (case k3 => k_is)
    (case a4 => k_is)
    (case l4 => k_is)
    (case c4 => k_is)
    (case k4 => k_is)
    (case a5 => k_is)
    (case l5 => k_is)
    (case c5 => k_is)
    (case k5 => k_is)
    (case a6 => k_is)
    (case l6 => k_is)
    (case c6 => k_is)
    (case k6 => k_is)
    (case a7 => k_is)
    (case l7 => k_is)
    (case c7 => k_is)
    (case k7 => k_is)
    (case a8 => k_is)
    (case l8 => k_is)
    (case c8 => k_is)
    (case k8 => k_is)
    (case a9 => k_is)
    (case l9 => k_is)
    (case c9 => k_is)
    (case k9 => k_is)
    (case a10 => k_is)
    (case l10 => k_is)
    (case c10 => k_is)
    (case k10 => k_is)
    (case a11 => k_is)
    (case l11 => k_is)
    (case c11 => k_is)
    (case k11 => k_is)
    (case a12 => k_is)
    (case l12 => k_is)
    (case c12 => k_is)
    (case k12 => k_is)
    (case a13 => k_is)
    (case l13 => k_is)
    (case c13 => k_is)
    (case k13 => k_is)
    (case a14 => k_is)
    (case l14 => k_is)
    (case c14 => k_is)
    (case k14 => k_is)
    (case a15 => k_is)
    (case l15 => k_is)
    (case c15 => k_is)
    (case k15 => k_is)
    (case a16 => k_is)
    (case l16 => k_is)
    (case c16 => k_is)
    (case k16 => k_is)
    (case a17 => k_is)
    (case l17 => k_is)
    (case c17 => k_is)
    (case k17 => k_is)
    (case a18 => k_is)
    (case l18 => k_is)
    (case c18 => k_is)
    (case k18 => k_is)
    (case a19 => k_is)
    (case l19 => k_is)
    (case c19 => k_is)
    (case k19 => k_is)
    (case a20 => k_is)
    (case l20 => k_is)
    (case c20 => k_is)
    (case k20 => k_is)
    (case a21 => k_is)
    (case l21 => k_is)
    (case c21 => k_is)
    (case k21 => k_is)
    (case a22 => k_is)
    (case l22 => k_is)
    (case c22 => k_is)
    (case k22 => k_is)
    (case a23 => k_is)
    (case l23 => k_is)
    (case c23 => k_is)
    (case k23 => k_is)
    (case a24 => k_is)
    (case l24 => k_is)
    (case c24 => k_is)
    (case k24 => k_is)
    (case a25 => k_is)
    (case l25 => k_is)
    (case c25 => k_is)
    (case k25 => k_is)
    (case a26 => k_is)
    (case l26 => k_is)
    (case c26 => k_is)
    (case k26 => k_is)
    (case a27 => k_is)
    (case l27 => k_is)
    (case c27 => k_is)
    (case k27 => k_is)
    (case a28 => k_is)
    (case l28 => k_is)
    (case c28 => k_is)
    (case k28 => k_is)
    (case a29 => k_is)
    (case l29 => k_is)
    (case c29 => k_is)
    (case k29 => k_is)
    (case aL => k_is)
    (case lL => k_is)
    (case cL => k_is)
    (case kL => k_is)
    (case z_isi => k_is)
    (case z_int => k_is)
    (case z_bool => k_is)
    (case z_str => k_is)
    (case z_tuple => k_is)
    (case z_list => k_is)
    (case z_len => k_is)
    (case z_enum => k_is)
    (case z_range => k_is)
    (case z_all => k_is)
    (case z_sorted => k_is)
    (case z_set => k_is)
    (case z_sum => k_is)
    (case z_dict => k_is)
    (case eaNoSolution => k_is)
    (case exNoSolution => k_exc)
    (case ekNoSolution => k_is)
    (case ebNoSolution => k_is)
    (case etNoSolution => k_is)
    (case eiNoSolution => k_is)
    (case esNoSolution => first | rfl | k_is)
