import PyProof.Rows.All
import Wide.All
import OpenK.AllK
import Wide.FinOn
import HandS.ForMost
import HandS.Walk
import HandS.IsInst
import HandS.More
import HandS.NoneIn
import HandS.SetKeys
import HandS.DictComp
import HandS.TupAny
import HandS.Wide
import KE.KEqSeq
import HandS.Set
import HandS.SetFor
import HandS.Strs
import PyProof.Rows.SetFrom
import PyProof.Rows.SortStr
import HandS.ForExc
import HandS.Codes
import HandS.Star
import KE.KDictList
import HandS.IterVal
import HandS.Rev
import HandS.ClsMeth
import HandS.ExcInit
import HandS.ExcField
import KE.KSortKeySt
import HandS.FromBytesMap
import HandS.SortKw
import HandS.Words
import HandS.Iter
import HandS.Call
import HandS.Small
import HandS.SlotsOwn
import HandS.Property
import HandS.Sort
import HandS.Flow
import PyProof.EqAt
import KE.GoesMore
import HandS.HeadHook2
import PySem.Challenge.RW_loopsheds_k06_regions
set_option Elab.async false
set_option linter.all false
set_option maxRecDepth 100000
/-! Systems of differences: rings, solutions, the graph of last causes, and why lowering comes to an end. Plain Lean. -/
namespace Lo
section
variable {α : Type} [DecidableEq α]

abbrev Row (α : Type) := α × α × Int
def Sat (rows : List (Row α)) (v : α → Int) : Prop := ∀ r ∈ rows, v r.1 - v r.2.1 ≤ r.2.2
def put {β : Type} (f : α → β) (a : α) (b : β) : α → β := fun x => if x = a then b else f x
theorem put_at {β : Type} (f : α → β) (a : α) (b : β) : put f a b a = b := if_pos rfl
theorem put_off {β : Type} {f : α → β} {a x : α} {b : β} (h : x ≠ a) : put f a b x = f x := if_neg h

/-- the ring of rows es: each right is the next left, no left twice, a negative sum -/
structure IsRing (es : List (Row α)) : Prop where
  two : 2 ≤ es.length
  nd : (es.map (·.1)).Nodup
  turn : es.map (·.2.1) = (es.map (·.1)).drop 1 ++ (es.map (·.1)).take 1
  neg : (es.map (·.2.2)).sum < 0
/-- found are the places of a ring -/
def RingOk (rows : List (Row α)) (found : List Nat) : Prop :=
  ∃ es : List (Row α), found.map (fun i => rows[i]?) = es.map some ∧ IsRing es

theorem sum_map_sub {β : Type} (f g : β → Int) : ∀ l : List β, (l.map fun x => f x - g x).sum = (l.map f).sum - (l.map g).sum
  | [] => rfl
  | x :: l => by
    have ih := sum_map_sub f g l
    simp only [List.map_cons, List.sum_cons]
    omega
theorem sum_le {β : Type} (f g : β → Int) : ∀ l : List β, (∀ x ∈ l, f x ≤ g x) → (l.map f).sum ≤ (l.map g).sum
  | [], _ => Int.le_refl _
  | x :: l, h => by
    have ih := sum_le f g l fun y hy => h y (List.mem_cons_of_mem _ hy)
    have h0 := h x List.mem_cons_self
    simp only [List.map_cons, List.sum_cons]
    omega
theorem sum_lt {β : Type} (f g : β → Int) : ∀ (l : List β) (a : β), a ∈ l → (∀ x ∈ l, f x ≤ g x) → f a < g a → (l.map f).sum < (l.map g).sum
  | [], _, h, _, _ => absurd h List.not_mem_nil
  | x :: l, a, ha, h, hl => by
    have h0 := h x List.mem_cons_self
    have ht : ∀ y ∈ l, f y ≤ g y := fun y hy => h y (List.mem_cons_of_mem _ hy)
    simp only [List.map_cons, List.sum_cons]
    rcases List.mem_cons.mp ha with e | e
    · subst e
      have := sum_le f g l ht
      omega
    · have := sum_lt f g l a e ht hl
      omega
theorem sum_turn {β : Type} (f : β → Int) (l : List β) : ((l.drop 1 ++ l.take 1).map f).sum = (l.map f).sum := by
  cases l with
  | nil => rfl
  | cons x l =>
    simp only [List.drop_succ_cons, List.drop_zero, List.take_succ_cons, List.take_zero, List.map_append, List.sum_append, List.map_cons, List.map_nil, List.sum_cons, List.sum_nil]
    omega
theorem ring_not_sat {rows es : List (Row α)} (h : ∀ e ∈ es, e ∈ rows) (R : IsRing es) (v : α → Int) : ¬ Sat rows v := fun s => by
  have h1 : (es.map fun e => v e.1 - v e.2.1).sum ≤ (es.map (·.2.2)).sum := sum_le _ _ es fun e he => s e (h e he)
  rw [sum_map_sub (fun e : Row α => v e.1) (fun e : Row α => v e.2.1)] at h1
  have h2 : (es.map fun e : Row α => v e.2.1).sum = (es.map fun e : Row α => v e.1).sum := by
    have e1 : (es.map fun e : Row α => v e.2.1) = (es.map (·.2.1)).map v := by rw [List.map_map]; rfl
    have e2 : (es.map fun e : Row α => v e.1) = (es.map (·.1)).map v := by rw [List.map_map]; rfl
    rw [e1, e2, R.turn, sum_turn]
  have := R.neg
  omega
theorem ringOk_not_sat {rows : List (Row α)} {found : List Nat} (h : RingOk rows found) (v : α → Int) : ¬ Sat rows v := by
  obtain ⟨es, e, R⟩ := h
  refine ring_not_sat (fun x hx => ?_) R v
  have h1 : some x ∈ es.map some := List.mem_map_of_mem hx
  rw [← e] at h1
  obtain ⟨i, _, hi⟩ := List.mem_map.mp h1
  exact List.mem_of_getElem? hi

/-- pigeons -/
theorem nodup_le : ∀ (l m : List α), l.Nodup → (∀ x ∈ l, x ∈ m) → l.length ≤ m.length
  | [], _, _, _ => Nat.zero_le _
  | x :: l, m, hd, hs => by
    obtain ⟨h1, h2⟩ := List.nodup_cons.mp hd
    have hx := hs x List.mem_cons_self
    have hl : ∀ y ∈ l, y ∈ m.erase x := fun y hy => by
      have ne : y ≠ x := fun e => h1 (e ▸ hy)
      exact (List.mem_erase_of_ne ne).mpr (hs y (List.mem_cons_of_mem _ hy))
    have ih := nodup_le l (m.erase x) h2 hl
    have z := List.length_erase_of_mem hx
    have p := List.length_pos_of_mem hx
    simp only [List.length_cons]
    omega

/-! ### walks in the graph of the causes -/
abbrev Gr (α : Type) := α → Option (α × Int)
inductive Ch (g : Gr α) : α → List α → α → Int → Prop
  | nil (x : α) : Ch g x [] x 0
  | cons {x y z : α} {c s : Int} {l : List α} : g x = some (y, c) → Ch g y l z s → Ch g x (x :: l) z (c + s)
variable {g : Gr α}
theorem Ch.snoc {x y z : α} {l : List α} {c s : Int} (h : Ch g x l y s) (e : g y = some (z, c)) : Ch g x (l ++ [y]) z (s + c) := by
  induction h with
  | nil x =>
    have q := Ch.cons e (Ch.nil z)
    have z : c + 0 = 0 + c := by omega
    rw [z] at q
    exact q
  | @cons x y z' c' s' l e' _ ih =>
    have q := Ch.cons e' (ih e)
    have z : c' + (s' + c) = c' + s' + c := by omega
    rw [z] at q
    exact q
theorem Ch.from_mem {x y a : α} {l : List α} {s : Int} (h : Ch g x l y s) (ha : a ∈ l) : ∃ p q t, l = p ++ a :: q ∧ Ch g a (a :: q) y t := by
  induction h with
  | nil x => exact absurd ha List.not_mem_nil
  | @cons x y z c s l e h ih =>
    by_cases k : a = x
    · subst k
      exact ⟨[], l, _, rfl, Ch.cons e h⟩
    · have hm : a ∈ l := by
        rcases List.mem_cons.mp ha with q | q
        · exact absurd q k
        · exact q
      obtain ⟨p, q, t, e2, h2⟩ := ih hm
      exact ⟨x :: p, q, t, by rw [e2]; rfl, h2⟩
/-- the walk up to the first stop is told by its start -/
theorem Ch.det {S : α → Prop} {x y y' : α} {l l' : List α} {s s' : Int} (h : Ch g x l y s) (h' : Ch g x l' y' s') (hy : S y) (hy' : S y') (hl : ∀ a ∈ l, ¬ S a) (hl' : ∀ a ∈ l', ¬ S a) : l = l' := by
  induction h generalizing l' s' with
  | nil x =>
    cases h' with
    | nil => rfl
    | cons e h2 => exact absurd hy (hl' _ List.mem_cons_self)
  | @cons x y0 z c s l e h ih =>
    cases h' with
    | nil => exact absurd hy' (hl _ List.mem_cons_self)
    | @cons _ y1 _ c1 s1 l1 e1 h1 =>
      rw [e] at e1
      have q := Option.some.inj e1
      have q1 : y0 = y1 := congrArg Prod.fst q
      subst q1
      have := ih h1 hy (fun a ha => hl a (List.mem_cons_of_mem _ ha)) (fun a ha => hl' a (List.mem_cons_of_mem _ ha))
      rw [this]
theorem Ch.nodup {S : α → Prop} {x y : α} {l : List α} {s : Int} (h : Ch g x l y s) (hy : S y) (hl : ∀ a ∈ l, ¬ S a) : l.Nodup := by
  induction h with
  | nil x => exact List.nodup_nil
  | @cons x y0 z c s l e h ih =>
    have ht : ∀ a ∈ l, ¬ S a := fun a ha => hl a (List.mem_cons_of_mem _ ha)
    refine List.nodup_cons.mpr ⟨fun hm => ?_, ih hy ht⟩
    obtain ⟨p, q, t, e2, h2⟩ := h.from_mem hm
    have hq : ∀ a ∈ x :: q, ¬ S a := fun a ha => ht a (by rw [e2]; exact List.mem_append_right _ ha)
    have z := (Ch.cons e h).det h2 hy hy hl hq
    have z2 := congrArg List.length z
    rw [e2] at z2
    simp only [List.length_cons, List.length_append] at z2
    omega
theorem Ch.le {val : α → Int} (hw : ∀ x y c, g x = some (y, c) → val y + c ≤ val x) {x y : α} {l : List α} {s : Int} (h : Ch g x l y s) : s ≤ val x - val y := by
  induction h with
  | nil x => omega
  | cons e h ih =>
    have := hw _ _ _ e
    omega
theorem Ch.low {M : Int} (hM : ∀ x y c, g x = some (y, c) → -M ≤ c) {x y : α} {l : List α} {s : Int} (h : Ch g x l y s) : -(M * (l.length : Int)) ≤ s := by
  induction h with
  | nil x => simp
  | @cons x y0 z c s l e h ih =>
    have := hM _ _ _ e
    simp only [List.length_cons]
    have e1 : M * ((l.length + 1 : Nat) : Int) = M * (l.length : Int) + M := by
      rw [Int.natCast_add, Int.mul_add]; omega
    rw [e1]
    omega

/-- what holds between the values and the causes -/
structure Low (rows : List (Row α)) (val : α → Int) (g : Gr α) : Prop where
  edge : ∀ x y c, g x = some (y, c) → (x, y, c) ∈ rows ∧ val y + c ≤ val x
  root : ∀ x, g x = none → val x = 0
  neg : ∀ x l s, l ≠ [] → Ch g x l x s → s < 0
theorem Low.start (rows : List (Row α)) : Low rows (fun _ => 0) (fun _ => none) := by
  refine ⟨(fun x y c e => nomatch e), fun _ _ => rfl, fun x l s hl h => ?_⟩
  cases h with
  | nil => exact absurd rfl hl
  | cons e _ => cases e
theorem Low.step {rows : List (Row α)} {val : α → Int} {x0 y0 : α} {c0 : Int} (L : Low rows val g) (hr : (x0, y0, c0) ∈ rows) (hne : x0 ≠ y0) (hlt : val y0 + c0 < val x0) :
    Low rows (put val x0 (val y0 + c0)) (put g x0 (some (y0, c0))) := by
  have weak : ∀ x y c, put g x0 (some (y0, c0)) x = some (y, c) → val y + c ≤ val x := fun x y c e => by
    by_cases k : x = x0
    · subst k
      rw [put_at] at e
      injection e with e
      injection e with e1 e2
      subst e1 e2
      omega
    · rw [put_off k] at e
      exact (L.edge x y c e).2
  have split : ∀ (x z : α) (l : List α) (s : Int), Ch (put g x0 (some (y0, c0))) x l z s → Ch g x l z s ∨ s < val x - val z := fun x z l s h => by
    induction h with
    | nil x => exact .inl (Ch.nil x)
    | @cons x y z c s l e h ih =>
      have hs : s ≤ val y - val z := h.le weak
      by_cases k : x = x0
      · subst k
        rw [put_at] at e
        injection e with e
        injection e with e1 e2
        subst e1 e2
        exact .inr (by omega)
      · rw [put_off k] at e
        have he := (L.edge x y c e).2
        rcases ih with i | i
        · exact .inl (Ch.cons e i)
        · exact .inr (by omega)
  refine ⟨fun x y c e => ?_, fun x e => ?_, fun x l s hl h => ?_⟩
  · by_cases k : x = x0
    · subst k
      rw [put_at] at e
      injection e with e
      injection e with e1 e2
      subst e1 e2
      refine ⟨hr, ?_⟩
      rw [put_at, put_off hne.symm]
      omega
    · rw [put_off k] at e
      have he := L.edge x y c e
      refine ⟨he.1, ?_⟩
      rw [put_off k]
      by_cases j : y = x0
      · subst j
        rw [put_at]
        omega
      · rw [put_off j]
        exact he.2
  · by_cases k : x = x0
    · subst k
      rw [put_at] at e
      cases e
    · rw [put_off k] at e ⊢
      exact L.root x e
  · rcases split x x l s h with i | i
    · exact L.neg x l s hl i
    · omega

/-- from x a name without a cause is reached -/
def Ends (g : Gr α) (x : α) : Prop := ∃ l y s, Ch g x l y s ∧ g y = none
theorem ends_none {x : α} (h : g x = none) : Ends g x := ⟨[], x, 0, Ch.nil x, h⟩
theorem ends_next {x y : α} {c : Int} (e : g x = some (y, c)) (h : Ends g y) : Ends g x := by
  obtain ⟨l, z, s, h1, h2⟩ := h
  exact ⟨_, z, _, Ch.cons e h1, h2⟩
theorem Ch.mem_some {x y : α} {l : List α} {s : Int} (h : Ch g x l y s) : ∀ a ∈ l, g a ≠ none := by
  induction h with
  | nil x => exact fun a ha => absurd ha List.not_mem_nil
  | @cons x y z c s l e h ih =>
    intro a ha
    rcases List.mem_cons.mp ha with q | q
    · rw [q, e]; exact fun z => nomatch z
    · exact ih a q
/-- how low a value can be -/
theorem Low.floor {rows : List (Row α)} {val : α → Int} (L : Low rows val g) (hE : ∀ x, Ends g x) {M : Int} (hM0 : 0 ≤ M) (hM : ∀ r ∈ rows, -M ≤ r.2.2) (x : α) : -(M * (rows.length : Int)) ≤ val x := by
  obtain ⟨l, y, s, h, hy⟩ := hE x
  have hd : l.Nodup := h.nodup (S := fun a => g a = none) hy h.mem_some
  have hl : l.length ≤ (rows.map (·.1)).length := nodup_le l _ hd fun a ha => by
    have k := h.mem_some a ha
    cases e : g a with
    | none => exact absurd e k
    | some p => exact List.mem_map.mpr ⟨_, (L.edge a p.1 p.2 e).1, rfl⟩
  rw [List.length_map] at hl
  have h1 := h.le fun x y c e => (L.edge x y c e).2
  have h2 := h.low (M := M) fun x y c e => hM _ (L.edge x y c e).1
  have h3 := L.root y hy
  have h4 : M * (l.length : Int) ≤ M * (rows.length : Int) := Int.mul_le_mul_of_nonneg_left (by omega) hM0
  omega
end
end Lo
/-! The graph that a table of causes makes, the ring that is read off it, the passes and their measure; least sums of chains. -/
namespace Lo
section
variable {α : Type} [DecidableEq α]
theorem nd_one (x : α) : [x].Nodup := List.nodup_cons.mpr ⟨List.not_mem_nil, List.nodup_nil⟩
theorem Ch.append {g : Gr α} {x y z : α} {l l' : List α} {s s' : Int} (h : Ch g x l y s) (h' : Ch g y l' z s') : Ch g x (l ++ l') z (s + s') := by
  induction h with
  | nil x =>
    have e : (0 : Int) + s' = s' := by omega
    rw [e]
    exact h'
  | @cons x y c0 c s l e _ ih =>
    have q := Ch.cons e (ih h')
    have e2 : c + (s + s') = c + s + s' := by omega
    rw [e2] at q
    exact q
theorem ends_of {g : Gr α} {x y : α} {l : List α} {s : Int} (h : Ch g x l y s) (hy : Ends g y) : Ends g x := by
  obtain ⟨l2, z, s2, h2, hz⟩ := hy
  exact ⟨_, z, _, h.append h2, hz⟩

/-- names cs have causes: the places cz of rows -/
def gOf (rows : List (Row α)) (cs : List α) (cz : α → Nat) : Gr α := fun x => if x ∈ cs then (rows[cz x]?).map fun r => r.2 else none
/-- each cause of a name is a row that begins with it -/
def Lk (rows : List (Row α)) (cs : List α) (cz : α → Nat) : Prop := ∀ x ∈ cs, ∃ y c, rows[cz x]? = some (x, y, c)
variable {rows : List (Row α)} {cs : List α} {cz : α → Nat}
theorem gOf_out {x : α} (h : x ∉ cs) : gOf rows cs cz x = none := if_neg h
theorem gOf_in {x y : α} {c : Int} (h : x ∈ cs) (e : rows[cz x]? = some (x, y, c)) : gOf rows cs cz x = some (y, c) := by
  unfold gOf
  rw [if_pos h, e]
  rfl
theorem gOf_some (k : Lk rows cs cz) {x y : α} {c : Int} (h : gOf rows cs cz x = some (y, c)) : x ∈ cs ∧ rows[cz x]? = some (x, y, c) := by
  by_cases m : x ∈ cs
  · obtain ⟨y', c', e⟩ := k x m
    rw [gOf_in m e] at h
    injection h with h
    injection h with h1 h2
    subst h1 h2
    exact ⟨m, e⟩
  · rw [gOf_out m] at h
    cases h
theorem gOf_none (k : Lk rows cs cz) {x : α} (h : gOf rows cs cz x = none) : x ∉ cs := fun m => by
  obtain ⟨y, c, e⟩ := k x m
  rw [gOf_in m e] at h
  cases h
/-- a list with one more, unless it is there -/
def addN (l : List α) (x : α) : List α := if x ∈ l then l else l ++ [x]
theorem mem_addN {l : List α} {x y : α} : y ∈ addN l x ↔ y ∈ l ∨ y = x := by
  unfold addN
  split
  · rename_i h
    exact ⟨Or.inl, fun z => z.elim id fun e => e ▸ h⟩
  · rw [List.mem_append, List.mem_singleton]
theorem nodup_addN {l : List α} {x : α} (h : l.Nodup) : (addN l x).Nodup := by
  unfold addN
  split
  · exact h
  · rename_i n
    refine List.nodup_append.mpr ⟨h, nd_one x, fun a ha b hb => ?_⟩
    rw [List.mem_singleton] at hb
    subst hb
    exact fun e => n (e ▸ ha)
theorem length_addN {l : List α} {x : α} : (addN l x).length ≤ l.length + 1 := by
  unfold addN
  split <;> simp
theorem lk_put (k : Lk rows cs cz) {x y : α} {c : Int} {i : Nat} (e : rows[i]? = some (x, y, c)) : Lk rows (addN cs x) (put cz x i) := fun z hz => by
  by_cases j : z = x
  · subst j
    exact ⟨y, c, by rw [put_at]; exact e⟩
  · rw [put_off j]
    exact k z ((mem_addN.mp hz).resolve_right j)
theorem gOf_put {x y : α} {c : Int} {i : Nat} (e : rows[i]? = some (x, y, c)) : gOf rows (addN cs x) (put cz x i) = put (gOf rows cs cz) x (some (y, c)) := by
  funext z
  by_cases j : z = x
  · subst j
    rw [put_at]
    refine gOf_in (mem_addN.mpr (.inr rfl)) ?_
    rw [put_at]
    exact e
  · rw [put_off j]
    unfold gOf
    have m : z ∈ addN cs x ↔ z ∈ cs := by
      rw [mem_addN]
      exact ⟨fun h => h.resolve_right j, .inl⟩
    rw [put_off j]
    by_cases h : z ∈ cs
    · rw [if_pos h, if_pos (m.mpr h)]
    · rw [if_neg h, if_neg fun q => h (m.mp q)]

/-! ### the ring -/
theorem Ch.rights (k : Lk rows cs cz) {x y : α} {l : List α} {s : Int} (h : Ch (gOf rows cs cz) x l y s) :
    ∃ es : List (Row α), l.map (fun a => rows[cz a]?) = es.map some ∧ es.map (·.1) = l ∧ x :: es.map (·.2.1) = l ++ [y] ∧ (es.map (·.2.2)).sum = s := by
  induction h with
  | nil x => exact ⟨[], rfl, rfl, rfl, rfl⟩
  | @cons x y z c s l e h ih =>
    obtain ⟨es, h1, h2, h3, h4⟩ := ih
    obtain ⟨_, e2⟩ := gOf_some k e
    refine ⟨(x, y, c) :: es, ?_, ?_, ?_, ?_⟩
    · rw [List.map_cons, e2, h1]
      rfl
    · rw [List.map_cons, h2]
    · show x :: y :: es.map (·.2.1) = x :: (l ++ [z])
      rw [h3]
    · rw [List.map_cons, List.sum_cons, h4]
theorem ring_read (k : Lk rows cs cz) {val : α → Int} (L : Low rows val (gOf rows cs cz)) (hne : ∀ r ∈ rows, r.1 ≠ r.2.1) {start : α} {l : List α} {s : Int} (h : Ch (gOf rows cs cz) start (start :: l) start s)
    (hl : ∀ a ∈ l, a ≠ start) : RingOk rows ((start :: l).map cz) := by
  obtain ⟨es, h1, h2, h3, h4⟩ := h.rights k
  have hs : s < 0 := L.neg start _ s (List.cons_ne_nil _ _) h
  refine ⟨es, ?_, ?_⟩
  · rw [← h1, List.map_map]
    rfl
  · cases h with
    | @cons _ y _ c s' _ e h' =>
      have nd : l.Nodup := h'.nodup (S := fun a => a = start) rfl hl
      refine ⟨?_, ?_, ?_, by rw [h4]; exact hs⟩
      · have hlen : es.length = l.length + 1 := by
          have := congrArg List.length h2
          rw [List.length_map] at this
          exact this
        rw [hlen]
        cases l with
        | cons _ _ => simp
        | nil =>
          cases h' with
          | nil => exact absurd rfl (hne _ (L.edge _ _ _ e).1)
      · rw [h2]
        exact List.nodup_cons.mpr ⟨fun m => hl _ m rfl, nd⟩
      · rw [h2]
        have h5 : es.map (·.2.1) = l ++ [start] := (List.cons.inj h3).2
        rw [h5]
        rfl

/-! ### a pass, and the measure -/
def span (rows : List (Row α)) : Int := ((rows.map fun r => r.2.2.natAbs).sum : Nat)
theorem span_le {rows : List (Row α)} {r : Row α} (h : r ∈ rows) : -span rows ≤ r.2.2 ∧ r.2.2 ≤ span rows := by
  have : r.2.2.natAbs ≤ (rows.map fun r => r.2.2.natAbs).sum := by
    induction rows with
    | nil => exact absurd h List.not_mem_nil
    | cons a t ih =>
      rw [List.map_cons, List.sum_cons]
      rcases List.mem_cons.mp h with e | e
      · subst e
        omega
      · have := ih e
        omega
  unfold span
  omega
theorem span_nonneg (rows : List (Row α)) : 0 ≤ span rows := Int.natCast_nonneg _
/-- how far the values are above what is the least for them -/
def pot (rows : List (Row α)) (ks : List α) (val : α → Int) : Int := (ks.map fun x => val x + span rows * (rows.length : Int)).sum
theorem sum_nonneg {β : Type} (f : β → Int) : ∀ l : List β, (∀ x ∈ l, 0 ≤ f x) → 0 ≤ (l.map f).sum
  | [], _ => Int.le_refl _
  | x :: l, h => by
    have := sum_nonneg f l fun y hy => h y (List.mem_cons_of_mem _ hy)
    have := h x List.mem_cons_self
    rw [List.map_cons, List.sum_cons]
    omega
theorem pot_nonneg {val : α → Int} {g : Gr α} (ks : List α) (L : Low rows val g) (hE : ∀ x, Ends g x) : 0 ≤ pot rows ks val := by
  refine sum_nonneg _ ks fun x _ => ?_
  have := L.floor hE (span_nonneg rows) (fun r hr => (span_le hr).1) x
  omega
theorem pot_put {val : α → Int} {ks : List α} {x : α} {w : Int} (hx : x ∈ ks) (h : w < val x) : pot rows ks (put val x w) < pot rows ks val := by
  refine sum_lt _ _ ks x hx (fun y _ => ?_) ?_
  · by_cases j : y = x
    · subst j
      rw [put_at]
      omega
    · rw [put_off j]
      exact Int.le_refl _
  · rw [put_at]
    omega

/-! ### the places of a turn -/
/-- the rounds of `_turn` at the beginning of turn i: what was met in earlier rounds ends -/
structure Met (g : Gr α) (cs rs : List α) (rn : α → Nat) (i : Nat) : Prop where
  nd : rs.Nodup
  sub : ∀ x ∈ rs, x ∈ cs
  ends : ∀ x ∈ rs, Ends g x ∧ rn x < i
  past : ∀ j x, j < i → cs[j]? = some x → Ends g x
theorem Met.start (g : Gr α) (cs : List α) (rn : α → Nat) : Met g cs [] rn 0 :=
  ⟨List.nodup_nil, fun x h => absurd h List.not_mem_nil, fun x h => absurd h List.not_mem_nil, fun j x h => absurd h (Nat.not_lt_zero _)⟩
/-- within turn i: rs the names met before, t those of this turn -/
structure MetIn (g : Gr α) (cs rs : List α) (rn : α → Nat) (i : Nat) (start : α) (t : List α) (name : α) : Prop where
  nd : (rs ++ t).Nodup
  sub : ∀ x ∈ rs ++ t, x ∈ cs
  ends : ∀ x ∈ rs, Ends g x ∧ rn x < i
  now : ∀ x ∈ t, rn x = i ∧ ∃ l s, l ≠ [] ∧ Ch g x l name s
  from_ : ∃ l s, Ch g start l name s
theorem MetIn.start {g : Gr α} {cs rs : List α} {rn : α → Nat} {i : Nat} (M : Met g cs rs rn i) (start : α) : MetIn g cs rs rn i start [] start := by
  refine ⟨by rw [List.append_nil]; exact M.nd, by rw [List.append_nil]; exact M.sub, M.ends, fun x h => absurd h List.not_mem_nil, [], 0, Ch.nil _⟩
theorem MetIn.step {g : Gr α} {cs rs : List α} {rn : α → Nat} {i : Nat} {start name y : α} {c : Int} {t : List α} (M : MetIn g cs rs rn i start t name) (hc : name ∈ cs) (hn : name ∉ rs ++ t) (e : g name = some (y, c)) :
    MetIn g cs rs (put rn name i) i start (t ++ [name]) y := by
  have one : Ch g name [name] y (c + 0) := Ch.cons e (Ch.nil y)
  refine ⟨?_, fun x hx => ?_, fun x hx => ?_, fun x hx => ?_, ?_⟩
  · rw [← List.append_assoc]
    refine List.nodup_append.mpr ⟨M.nd, nd_one _, fun a ha b hb => ?_⟩
    rw [List.mem_singleton] at hb
    subst hb
    exact fun q => hn (q ▸ ha)
  · rw [← List.append_assoc] at hx
    rcases List.mem_append.mp hx with q | q
    · exact M.sub x q
    · rw [List.mem_singleton] at q
      exact q ▸ hc
  · have ne : x ≠ name := fun q => hn (List.mem_append_left _ (q ▸ hx))
    rw [put_off ne]
    exact M.ends x hx
  · rcases List.mem_append.mp hx with q | q
    · have ne : x ≠ name := fun z => hn (List.mem_append_right _ (z ▸ q))
      obtain ⟨h1, l, s, h2, h3⟩ := M.now x q
      refine ⟨by rw [put_off ne]; exact h1, l ++ [name], _, fun z => ?_, h3.append one⟩
      exact List.cons_ne_nil _ _ (List.append_eq_nil_iff.mp z).2
    · rw [List.mem_singleton] at q
      subst q
      exact ⟨put_at _ _ _, _, _, List.cons_ne_nil _ _, one⟩
  · obtain ⟨l, s, h⟩ := M.from_
    exact ⟨_, _, h.append one⟩
/-- where the walk of turn i comes to something that ends, all of it ends -/
theorem MetIn.close {g : Gr α} {cs rs : List α} {rn : α → Nat} {i : Nat} {start name : α} {t : List α} (M : MetIn g cs rs rn i start t name) (hs : cs[i]? = some start) (h : Ends g name)
    (past : ∀ j x, j < i → cs[j]? = some x → Ends g x) : Met g cs (rs ++ t) rn (i + 1) := by
  refine ⟨M.nd, M.sub, fun x hx => ?_, fun j x hj hx => ?_⟩
  · rcases List.mem_append.mp hx with q | q
    · obtain ⟨h1, h2⟩ := M.ends x q
      exact ⟨h1, by omega⟩
    · obtain ⟨h1, l, s, _, h3⟩ := M.now x q
      exact ⟨ends_of h3 h, by omega⟩
  · by_cases k : j = i
    · subst k
      rw [hs] at hx
      injection hx with hx
      subst hx
      obtain ⟨l, s, h3⟩ := M.from_
      exact ends_of h3 h
    · exact past j x (by omega) hx
theorem Met.all {g : Gr α} {cs rs : List α} {rn : α → Nat} (M : Met g cs rs rn cs.length) (out : ∀ x, x ∉ cs → g x = none) (x : α) : Ends g x := by
  by_cases h : x ∈ cs
  · obtain ⟨j, hj, e⟩ := List.getElem_of_mem h
    exact M.past j x hj (by rw [List.getElem?_eq_getElem hj, e])
  · exact ends_none (out x h)
theorem MetIn.room {g : Gr α} {cs rs : List α} {rn : α → Nat} {i : Nat} {start name : α} {t : List α} (M : MetIn g cs rs rn i start t name) (hc : name ∈ cs) (hn : name ∉ rs ++ t) : (rs ++ t).length < cs.length := by
  have := nodup_le (name :: (rs ++ t)) cs (List.nodup_cons.mpr ⟨hn, M.nd⟩) fun x hx => by
    rcases List.mem_cons.mp hx with q | q
    · exact q ▸ hc
    · exact M.sub x q
  rw [List.length_cons] at this
  omega
end
end Lo
/-! Least sums of chains, told by the solutions: what a system implies. -/
namespace Lo
section
variable {α : Type} [DecidableEq α]
/-- each row that begins with a keeps the sums -/
def Done (rows : List (Row α)) (ss : List α) (sv : α → Int) (a : α) : Prop := ∀ r ∈ rows, r.1 = a → r.2.1 ∈ ss ∧ sv r.2.1 ≤ sv a + r.2.2
/-- the sums so far -/
structure Sums (rows : List (Row α)) (left : α) (ss : List α) (sv : α → Int) : Prop where
  nd : ss.Nodup
  sub : ∀ x ∈ ss, x = left ∨ ∃ r ∈ rows, x = r.2.1
  has : left ∈ ss
  low : sv left ≤ 0
  sound : ∀ x ∈ ss, ∀ u, Sat rows u → u left - u x ≤ sv x
  up : ∀ x ∈ ss, sv x ≤ span rows * (ss.length : Int)
variable {rows : List (Row α)} {left : α} {ss : List α} {sv : α → Int}
theorem Sums.start (rows : List (Row α)) (left : α) (sv : α → Int) (h : sv left = 0) : Sums rows left [left] sv := by
  refine ⟨nd_one left, fun x hx => .inl (List.mem_singleton.mp hx), List.mem_singleton.mpr rfl, by omega, fun x hx u _ => ?_, fun x hx => ?_⟩
  · rw [List.mem_singleton] at hx
    subst hx
    omega
  · rw [List.mem_singleton] at hx
    subst hx
    have := span_nonneg rows
    simp
    omega
/-- a name is reached, or a sum is lowered, by a row -/
theorem Sums.step (S : Sums rows left ss sv) {a b : α} {c : Int} (hr : (a, b, c) ∈ rows) (ha : a ∈ ss) (h : b ∈ ss → sv a + c < sv b) : Sums rows left (addN ss b) (put sv b (sv a + c)) := by
  have hc : -span rows ≤ c ∧ c ≤ span rows := span_le hr
  have h0 := span_nonneg rows
  have hsa := S.up a ha
  have grow : ∀ n : Nat, span rows * ((n : Nat) : Int) ≤ span rows * ((n + 1 : Nat) : Int) := fun n => by
    have : span rows * ((n + 1 : Nat) : Int) = span rows * (n : Int) + span rows := by
      rw [Int.natCast_add, Int.mul_add]
      omega
    omega
  have hlen : b ∉ ss → (addN ss b).length = ss.length + 1 := fun k => by
    unfold addN
    rw [if_neg k, List.length_append]
    rfl
  have hlen2 : b ∈ ss → (addN ss b).length = ss.length := fun k => by
    unfold addN
    rw [if_pos k]
  refine ⟨nodup_addN S.nd, fun x hx => ?_, mem_addN.mpr (.inl S.has), ?_, fun x hx u hu => ?_, fun x hx => ?_⟩
  · rcases mem_addN.mp hx with q | q
    · exact S.sub x q
    · exact .inr ⟨_, hr, q⟩
  · by_cases k : left = b
    · subst k
      have := h S.has
      have := S.low
      rw [put_at]
      omega
    · rw [put_off k]
      exact S.low
  · by_cases k : x = b
    · subst k
      rw [put_at]
      have h1 := S.sound a ha u hu
      have h2 := hu _ hr
      simp only at h2
      omega
    · rw [put_off k]
      exact S.sound x ((mem_addN.mp hx).resolve_right k) u hu
  · by_cases k : x = b
    · subst k
      rw [put_at]
      by_cases m : x ∈ ss
      · have h1 := h m
        have h2 := S.up x m
        rw [hlen2 m]
        omega
      · rw [hlen m]
        have : span rows * ((ss.length + 1 : Nat) : Int) = span rows * (ss.length : Int) + span rows := by
          rw [Int.natCast_add, Int.mul_add]
          omega
        omega
    · rw [put_off k]
      have m := (mem_addN.mp hx).resolve_right k
      have h1 := S.up x m
      by_cases j : b ∈ ss
      · rw [hlen2 j]
        exact h1
      · rw [hlen j]
        have := grow ss.length
        omega
/-- what was done stays done, but for the name that is lowered -/
theorem Done.step {a b x : α} {c : Int} (D : Done rows ss sv x) (hx : x ≠ b) (h : b ∈ ss → sv a + c < sv b) : Done rows (addN ss b) (put sv b (sv a + c)) x := fun r hr e => by
  obtain ⟨h1, h2⟩ := D r hr e
  refine ⟨mem_addN.mpr (.inl h1), ?_⟩
  rw [put_off hx]
  by_cases k : r.2.1 = b
  · rw [k, put_at]
    have := h (k ▸ h1)
    rw [k] at h2
    omega
  · rw [put_off k]
    exact h2
/-! ### the measure -/
def ends_ (rows : List (Row α)) (left : α) : List α := left :: rows.map (·.2.1)
def far (rows : List (Row α)) (left : α) (v : α → Int) : Int := (((ends_ rows left).map fun x => (v left - v x).natAbs).sum : Nat)
theorem far_le {v : α → Int} {x : α} (h : x ∈ ends_ rows left) : -(far rows left v) ≤ v left - v x := by
  have : (v left - v x).natAbs ≤ ((ends_ rows left).map fun x => (v left - v x).natAbs).sum := by
    generalize ends_ rows left = l at h ⊢
    induction l with
    | nil => exact absurd h List.not_mem_nil
    | cons a t ih =>
      rw [List.map_cons, List.sum_cons]
      rcases List.mem_cons.mp h with e | e
      · subst e
        omega
      · have := ih e
        omega
  unfold far
  omega
def slack (rows : List (Row α)) (left : α) (v : α → Int) (ss : List α) (sv : α → Int) (x : α) : Int :=
  if x ∈ ss then sv x - (v left - v x) else span rows * ((rows.length + 1 : Nat) : Int) + far rows left v + 1
def gap (rows : List (Row α)) (left : α) (v : α → Int) (ss : List α) (sv : α → Int) : Int := ((ends_ rows left).map (slack rows left v ss sv)).sum
theorem Sums.few (S : Sums rows left ss sv) : ss.length ≤ rows.length + 1 := by
  have := nodup_le ss (ends_ rows left) S.nd fun x hx => by
    rcases S.sub x hx with e | ⟨r, hr, e⟩
    · exact e ▸ List.mem_cons_self
    · exact List.mem_cons_of_mem _ (List.mem_map.mpr ⟨r, hr, e.symm⟩)
  unfold ends_ at this
  rw [List.length_cons, List.length_map] at this
  exact this
theorem far_nonneg (rows : List (Row α)) (left : α) (v : α → Int) : 0 ≤ far rows left v := Int.natCast_nonneg _
theorem Sums.gap_nonneg (S : Sums rows left ss sv) {v : α → Int} (hv : Sat rows v) : 0 ≤ gap rows left v ss sv := by
  refine sum_nonneg _ _ fun x _ => ?_
  unfold slack
  split
  · rename_i h
    have := S.sound x h v hv
    omega
  · have h1 := far_nonneg rows left v
    have h2 : 0 ≤ span rows * ((rows.length + 1 : Nat) : Int) := Int.mul_nonneg (span_nonneg rows) (Int.natCast_nonneg _)
    omega
theorem Sums.gap_step (S : Sums rows left ss sv) {v : α → Int} {a b : α} {c : Int} (hr : (a, b, c) ∈ rows) (ha : a ∈ ss) (h : b ∈ ss → sv a + c < sv b) :
    gap rows left v (addN ss b) (put sv b (sv a + c)) < gap rows left v ss sv := by
  have S' := S.step hr ha h
  have hb : b ∈ ends_ rows left := List.mem_cons_of_mem _ (List.mem_map.mpr ⟨_, hr, rfl⟩)
  have key : slack rows left v (addN ss b) (put sv b (sv a + c)) b < slack rows left v ss sv b := by
    unfold slack
    rw [if_pos (mem_addN.mpr (.inr rfl)), put_at]
    by_cases k : b ∈ ss
    · rw [if_pos k]
      have := h k
      omega
    · rw [if_neg k]
      have h1 := S'.up b (mem_addN.mpr (.inr rfl))
      rw [put_at] at h1
      have h2 : span rows * ((addN ss b).length : Int) ≤ span rows * ((rows.length + 1 : Nat) : Int) := Int.mul_le_mul_of_nonneg_left (by have := S'.few; omega) (span_nonneg rows)
      have h3 := far_le (v := v) hb
      omega
  refine sum_lt _ _ _ b hb (fun x _ => ?_) key
  by_cases k : x = b
  · rw [k]
    exact Int.le_of_lt key
  · unfold slack
    rw [put_off k]
    by_cases m : x ∈ ss
    · rw [if_pos m, if_pos (mem_addN.mpr (.inl m))]
      exact Int.le_refl _
    · rw [if_neg m, if_neg fun q => k ((mem_addN.mp q).resolve_left m)]
      exact Int.le_refl _
/-! ### at the end -/
theorem big_le (f : Row α → Int) {r : Row α} (h : r ∈ rows) : f r ≤ (((rows.map fun r => (f r).natAbs).sum : Nat) : Int) := by
  have : (f r).natAbs ≤ (rows.map fun r => (f r).natAbs).sum := by
    induction rows with
    | nil => exact absurd h List.not_mem_nil
    | cons a t ih =>
      rw [List.map_cons, List.sum_cons]
      rcases List.mem_cons.mp h with e | e
      · subst e
        omega
      · have := ih e
        omega
  omega
/-- a solution with a greater difference -/
theorem Sums.wide (S : Sums rows left ss sv) (hd : ∀ a ∈ ss, Done rows ss sv a) {v : α → Int} (hv : Sat rows v) {right : α} {n : Int} (h : right ∈ ss → n < sv right) : ∃ u, Sat rows u ∧ n + 1 ≤ u left - u right := by
  refine ⟨fun x => if x ∈ ss then -sv x else v x - ((((rows.map fun r => (v r.1 + sv r.2.1 - r.2.2).natAbs).sum : Nat) : Int) + ((n + 1 + v right).natAbs : Int)), fun r hr => ?_, ?_⟩
  · show (if r.1 ∈ ss then _ else _) - (if r.2.1 ∈ ss then _ else _) ≤ r.2.2
    have hb : v r.1 + sv r.2.1 - r.2.2 ≤ _ := big_le (fun r => v r.1 + sv r.2.1 - r.2.2) hr
    have hs := hv r hr
    by_cases k : r.1 ∈ ss
    · obtain ⟨h1, h2⟩ := hd r.1 k r hr rfl
      rw [if_pos k, if_pos h1]
      omega
    · rw [if_neg k]
      by_cases j : r.2.1 ∈ ss
      · rw [if_pos j]
        omega
      · rw [if_neg j]
        omega
  · show n + 1 ≤ (if left ∈ ss then _ else _) - (if right ∈ ss then _ else _)
    rw [if_pos S.has]
    have hl := S.low
    by_cases k : right ∈ ss
    · rw [if_pos k]
      have := h k
      omega
    · rw [if_neg k]
      omega
/-- what a difference is implied by -/
def Told (rows : List (Row α)) (left right : α) (limit : Int) : Prop := ∀ u, Sat rows u → u left - u right ≤ limit
/-- the greatest value of left minus right (none: there is none) -/
def Best (rows : List (Row α)) (left right : α) (r : Option Int) : Prop := (∀ k, r = some k → Told rows left right k) ∧ ∀ n, (∀ k, r = some k → n < k) → ¬ Told rows left right n
theorem Sums.best (S : Sums rows left ss sv) (hd : ∀ a ∈ ss, Done rows ss sv a) {v : α → Int} (hv : Sat rows v) (right : α) : Best rows left right (if right ∈ ss then some (sv right) else none) := by
  refine ⟨fun k e => ?_, fun n h t => ?_⟩
  · by_cases m : right ∈ ss
    · rw [if_pos m] at e
      injection e with e
      subst e
      exact S.sound right m
    · rw [if_neg m] at e
      cases e
  · obtain ⟨u, h1, h2⟩ := S.wide hd hv (right := right) (n := n) fun m => h _ (by rw [if_pos m])
    have := t u h1
    omega
theorem told_denied {right : α} {limit : Int} : (∃ u, Sat (rows ++ [(right, left, 0 - limit - 1)]) u) ↔ ¬ Told rows left right limit := by
  constructor
  · rintro ⟨u, hu⟩ t
    have h1 := t u fun r hr => hu r (List.mem_append_left _ hr)
    have h2 := hu (right, left, 0 - limit - 1) (List.mem_append_right _ (List.mem_singleton.mpr rfl))
    simp only at h2
    omega
  · intro h
    have : ∃ u, Sat rows u ∧ ¬ u left - u right ≤ limit := by
      refine Classical.byContradiction fun k => h fun u hu => Classical.byContradiction fun j => k ⟨u, hu, j⟩
    obtain ⟨u, h1, h2⟩ := this
    refine ⟨u, fun r hr => ?_⟩
    rcases List.mem_append.mp hr with q | q
    · exact h1 r q
    · rw [List.mem_singleton] at q
      subst q
      show u right - u left ≤ 0 - limit - 1
      omega
theorem told_own {l r : α} {c : Int} (h : (l, r, c) ∈ rows) : Told rows l r c := fun u hu => hu _ h
end
end Lo
namespace Lo
open PySem L2
abbrev SRow := Row Str
/-! ### dicts with text keys -/
def dS (ks : List Str) (f : Str → V) : List (Key × V) := ks.map fun x => ((Sum.inr x : Key), f x)
theorem dS_len (ks : List Str) (f : Str → V) : (dS ks f).length = ks.length := List.length_map ..
theorem dS_val (f : Str → V) (x : Str) : ∀ ks : List Str, valV (dS ks f) (Sum.inr x) = if x ∈ ks then some (f x) else none
  | [] => rfl
  | y :: ks => by
    have ih := dS_val f x ks
    by_cases h : y = x
    · subst h
      rw [if_pos List.mem_cons_self]
      exact valV_pos (p := ((Sum.inr y : Key), f y)) rfl
    · have e : valV (dS (y :: ks) f) (Sum.inr x) = valV (dS ks f) (Sum.inr x) := valV_neg (p := ((Sum.inr y : Key), f y)) fun q => h (Sum.inr.inj q)
      rw [e, ih]
      by_cases m : x ∈ ks
      · rw [if_pos m, if_pos (List.mem_cons_of_mem _ m)]
      · rw [if_neg m, if_neg fun q => (List.mem_cons.mp q).elim (fun z => h z.symm) m]
theorem dS_in {ks : List Str} {f : Str → V} {x : Str} (h : x ∈ ks) : valV (dS ks f) (Sum.inr x) = some (f x) := by rw [dS_val, if_pos h]
theorem dS_out {ks : List Str} {f : Str → V} {x : Str} (h : x ∉ ks) : valV (dS ks f) (Sum.inr x) = none := by rw [dS_val, if_neg h]
theorem dS_congr {ks : List Str} {f g : Str → V} (h : ∀ x ∈ ks, f x = g x) : dS ks f = dS ks g := List.map_congr_left fun x hx => by rw [h x hx]
theorem dS_any {ks : List Str} {f : Str → V} {x : Str} : ((dS ks f).any fun kv => decide (kv.1 = Sum.inr x)) = true ↔ x ∈ ks := by
  rw [valV_any, dS_val]
  by_cases m : x ∈ ks
  · rw [if_pos m]
    exact ⟨fun _ => m, fun _ => rfl⟩
  · rw [if_neg m]
    exact ⟨(fun q => nomatch q), fun q => absurd q m⟩
theorem dS_put (ks : List Str) (f : Str → V) (x : Str) (v : V) : putK (dS ks f) (Sum.inr x) v = dS (addN ks x) (put f x v) := by
  unfold putK addN
  by_cases m : x ∈ ks
  · rw [if_pos (dS_any.mpr m), if_pos m]
    unfold dS
    rw [List.map_map]
    refine List.map_congr_left fun y _ => ?_
    show (if (Sum.inr y : Key) = Sum.inr x then ((Sum.inr y : Key), v) else ((Sum.inr y : Key), f y)) = ((Sum.inr y : Key), put f x v y)
    by_cases j : y = x
    · subst j
      rw [if_pos rfl, put_at]
    · rw [if_neg fun q => j (Sum.inr.inj q), put_off j]
  · rw [if_neg fun q => m (dS_any.mp q), if_neg m]
    have e : dS ks (put f x v) = dS ks f := dS_congr fun y hy => put_off fun q => m (q ▸ hy)
    show dS ks f ++ [((Sum.inr x : Key), v)] = (ks ++ [x]).map _
    rw [List.map_append]
    show _ = dS ks (put f x v) ++ [((Sum.inr x : Key), put f x v x)]
    rw [e, put_at]
theorem dS_keys (ks : List Str) (f : Str → V) : (dS ks f).map (fun kv => kV kv.1) = ks.map V.str := by
  unfold dS
  rw [List.map_map]
  rfl
theorem dget {H : Hp} {a : Addr} {ks : List Str} {f : Str → V} {x : Str} (e : H a = some (.dK (dS ks f))) (h : x ∈ ks) : DGet H a (.str x) (some (f x)) := by
  have q := DGet.k (k := Sum.inr x) e
  rw [dS_in h] at q
  exact q
theorem dget0 {H : Hp} {a : Addr} {ks : List Str} {f : Str → V} {x : Str} (e : H a = some (.dK (dS ks f))) (h : x ∉ ks) : DGet H a (.str x) none := by
  have q := DGet.k (k := Sum.inr x) e
  rw [dS_out h] at q
  exact q
theorem dgetI {H : Hp} {a : Addr} {ks : List Str} {f : Str → V} (x : Str) (e : H a = some (.dK (dS ks f))) : DGet H a (.str x) (if x ∈ ks then some (f x) else none) := by
  have q := DGet.k (k := Sum.inr x) e
  rw [dS_val] at q
  exact q
theorem dput {H : Hp} {a : Addr} {ks : List Str} {f : Str → V} (x : Str) (v : V) (e : H a = some (.dK (dS ks f))) (h : ks.length ≤ 1000) : DPut H a (.str x) v (upd H a (.dK (dS (addN ks x) (put f x v)))) := by
  have q := DPut.k (k := Sum.inr x) (v := v) e (by rw [dS_len]; exact small1000 h)
  rw [dS_put] at q
  exact q
/-! ### heaps -/
theorem same_upd {H : Hp} {p : Addr} {o : HO} (h : H p = none) : Same H (upd H p o) := fun b x e => by
  rw [upd_ne (ne_of_none e h)]
  exact e
/-- what was tracked at the beginning is as it was, though a later thing changes -/
theorem _root_.L2.Same.later {H H' : Hp} {p : Addr} {o : HO} (s : Same H H') (h : H p = none) : Same H (upd H' p o) := fun b x e => by
  rw [upd_ne (ne_of_none e h)]
  exact s b x e
/-! ### systems -/
def rowV (r : SRow) : List V := [.str r.1, .str r.2.1, .int r.2.2]
def RowT (H : Hp) (p : Addr) (r : SRow) : Prop := H p = some (.tup (rowV r))
def RowA (H : Hp) (p : Addr) (r : SRow) : Prop := H p = some (.tup (rowV r)) ∨ H p = some (.lst (rowV r))
/-- a list of rows at a -/
def Sys (R : Hp → Addr → SRow → Prop) (H : Hp) (a : Addr) (rows : List SRow) : Prop :=
  ∃ ps : List Addr, H a = some (.lst (ps.map V.ref)) ∧ ps.length = rows.length ∧ ∀ (i : Nat) (p : Addr) (r : SRow), ps[i]? = some p → rows[i]? = some r → R H p r
def Good1 (r : SRow) : Prop := r.1 ≠ r.2.1 ∧ r.1 ≠ ("" : Str) ∧ r.2.1 ≠ ("" : Str)
structure Good (rows : List SRow) : Prop where
  row : ∀ r ∈ rows, Good1 r
  few : rows.length ≤ 100
theorem RowT.same {H H' : Hp} {p : Addr} {r : SRow} (s : Same H H') (h : RowT H p r) : RowT H' p r := s _ _ h
theorem RowA.same {H H' : Hp} {p : Addr} {r : SRow} (s : Same H H') (h : RowA H p r) : RowA H' p r := h.imp (fun h => s _ _ h) fun h => s _ _ h
theorem RowT.any {H : Hp} {p : Addr} {r : SRow} (h : RowT H p r) : RowA H p r := .inl h
theorem Sys.sameT {H H' : Hp} {a : Addr} {rows : List SRow} (s : Same H H') (h : Sys RowT H a rows) : Sys RowT H' a rows := by
  obtain ⟨ps, h1, h2, h3⟩ := h
  exact ⟨ps, s _ _ h1, h2, fun i p r hp hr => (h3 i p r hp hr).same s⟩
theorem Sys.sameA {H H' : Hp} {a : Addr} {rows : List SRow} (s : Same H H') (h : Sys RowA H a rows) : Sys RowA H' a rows := by
  obtain ⟨ps, h1, h2, h3⟩ := h
  exact ⟨ps, s _ _ h1, h2, fun i p r hp hr => (h3 i p r hp hr).same s⟩
theorem Sys.any {H : Hp} {a : Addr} {rows : List SRow} (h : Sys RowT H a rows) : Sys RowA H a rows := by
  obtain ⟨ps, h1, h2, h3⟩ := h
  exact ⟨ps, h1, h2, fun i p r hp hr => (h3 i p r hp hr).any⟩
/-- the i-th row of a system -/
theorem Sys.at {R : Hp → Addr → SRow → Prop} {H : Hp} {rows : List SRow} {ps : List Addr} (h2 : ps.length = rows.length) (h3 : ∀ (i : Nat) (p : Addr) (r : SRow), ps[i]? = some p → rows[i]? = some r → R H p r) {i : Nat} {v : V} (hv : (ps.map V.ref)[i]? = some v) :
    ∃ p r, v = .ref p ∧ ps[i]? = some p ∧ rows[i]? = some r ∧ r ∈ rows ∧ i < rows.length ∧ R H p r := by
  rw [List.getElem?_map] at hv
  cases e : ps[i]? with
  | none =>
    rw [e] at hv
    cases hv
  | some p =>
    rw [e] at hv
    have hi : i < ps.length := (List.getElem?_eq_some_iff.mp e).1
    have hi2 : i < rows.length := h2 ▸ hi
    refine ⟨p, rows[i], (Option.some.inj hv).symm, rfl, List.getElem?_eq_getElem hi2, List.getElem_mem hi2, hi2, h3 i p _ e (List.getElem?_eq_getElem hi2)⟩
/-- what the module's names hold -/
structure Blt (mg : Str → Option Value) : Prop where
  isi : mg "isinstance" = none
  int : mg "int" = none
  bool : mg "bool" = none
  str : mg "str" = none
  tuple : mg "tuple" = none
  list : mg "list" = none
  len : mg "len" = none
  enum : mg "enumerate" = none
  range : mg "range" = none
  all : mg "all" = none
end Lo
namespace Lo
open PySem L2
def top (i : Nat) : Stmt := PySem.Challenge.pw_loopsheds_k06_regions.main.body.getD i (.Pass ⟨0, 0, 0, 0⟩)
abbrev sWhole : Stmt := top 7
abbrev sSide : Stmt := top 8
abbrev sDiff : Stmt := top 10

section
variable {P : Program} {w : World} {K : PySem.W.Frag} {mg : Str → Option Value} {base : Heap}
/-! ### is_whole, is_side, is_difference -/
def spWhole : Sp := fun vs H Q _ => ∃ i : Int, vs = [.int i] ∧ Q (.bl true) H
theorem scWhole : FnScope ["thing"] ["thing"] (defScope sWhole) := ⟨rfl, rfl, rfl, by decide +kernel, rfl, by decide +kernel, by decide +kernel⟩
theorem ok_whole {f : Addr} {fd : FuncData} (F : Fun K "is_whole" "is_whole" sWhole f fd) (T : Blt mg) : FnOk P w K mg base CX0 1 f fd ["thing"] spWhole := by
  refine F.ok scWhole (fun vs H Q E h => ?_) (fun cdv A outer s H vs Q E hr h => ?_)
  · obtain ⟨i, rfl, _⟩ := h
    rfl
  · obtain ⟨i, rfl, q⟩ := h
    refine ⟨_, pss_one (ps_ret (pe_and (pe_callB call_isi (by rfl) T.isi PyProof.Rows.boot_isinstance (pa_cons (pv 0) (pa_cons (pe_bltn (v := .ty "int") rfl T.int PyProof.Rows.boot_int rfl) pa_nil)))
      (pe_one (pe_not (pe_callB call_isi (by rfl) T.isi PyProof.Rows.boot_isinstance (pa_cons (pv 0) (pa_cons (pe_bltn (v := .ty "bool") rfl T.bool PyProof.Rows.boot_bool rfl) pa_nil))))))), ?_⟩
    refine ⟨_, rfl, _, _, _, _, true, rfl, .ty _, .base (.int _), kit_ty (by decide +kernel), true, rfl, iteT ?_⟩
    exact ⟨_, rfl, _, _, _, _, false, rfl, .ty _, .base (.int _), kit_ty (by decide +kernel), false, rfl, q⟩
def spSide : Sp := fun vs H Q _ => ∃ x : Str, vs = [.str x] ∧ x ≠ ("" : Str) ∧ Q (.bl true) H
theorem scSide : FnScope ["thing"] ["thing"] (defScope sSide) := ⟨rfl, rfl, rfl, by decide +kernel, rfl, by decide +kernel, by decide +kernel⟩
theorem ok_side {f : Addr} {fd : FuncData} (F : Fun K "is_side" "is_side" sSide f fd) (T : Blt mg) : FnOk P w K mg base CX0 1 f fd ["thing"] spSide := by
  refine F.ok scSide (fun vs H Q E h => ?_) (fun cdv A outer s H vs Q E hr h => ?_)
  · obtain ⟨i, rfl, _⟩ := h
    rfl
  · obtain ⟨x, rfl, hx, q⟩ := h
    refine ⟨_, pss_one (ps_ret (pe_and (pe_callB call_isi (by rfl) T.isi PyProof.Rows.boot_isinstance (pa_cons (pv 0) (pa_cons (pe_bltn (v := .ty "str") rfl T.str PyProof.Rows.boot_str rfl) pa_nil)))
      (pe_one (pe_cmpR op_ne (pv 0) pe_str (nomark _))))), ?_⟩
    refine ⟨_, rfl, _, _, _, _, true, rfl, .ty _, .base (.str _), kit_ty (by decide +kernel), true, rfl, iteT ?_⟩
    refine ⟨_, rfl, rfl, ?_⟩
    rw [decide_eq_false (fun e => hx (V.str.inj e))]
    exact q
def spDiff : Sp := fun vs H Q _ => ∃ (p : Addr) (r : SRow), vs = [.ref p] ∧ RowA H p r ∧ Good1 r ∧ ∀ H', Same H H' → Q (.bl true) H'
theorem scDiff : FnScope ["thing", "left", "right", "limit"] ["thing"] (defScope sDiff) := ⟨rfl, rfl, rfl, by decide +kernel, rfl, by decide +kernel, by decide +kernel⟩
/-- a, b, c = a tuple or a list -/
theorem pg_either {X : Cx} {pos : Pos} {es : List Expr} {k : Nat} {t : TGs} {n : Nat} (hc : X.calm = true) (h : PGs X es t)
    (hn : (assignEach es X.env).length = n := by rfl) (hst : (assignEach es X.env).findIdx? (·.1) = none := by rfl) :
    PG X (.Tuple es k pos) (fun v σ H Q => gTup X.K n t v σ H Q ∨ gUnl X.K n t v σ H Q) := by
  refine ⟨fun pins s σ H v u Q I r hw => ?_⟩
  rcases hw with hw | hw
  · exact (pg_tup hc h hn hst).run pins s σ H v u Q I r hw
  · exact (pg_unl hc h hn hst).run pins s σ H v u Q I r hw
theorem ok_diff {f fS fW : Addr} {fd fdS fdW : FuncData} (F : Fun K "is_difference" "is_difference" sDiff f fd) (T : Blt mg) (FS : Fun K "is_side" "is_side" sSide fS fdS) (bS : Binds K fdS ["thing"] []) (gS : mg "is_side" = some (.ref fS))
    (FW : Fun K "is_whole" "is_whole" sWhole fW fdW) (bW : Binds K fdW ["thing"] []) (gW : mg "is_whole" = some (.ref fW)) : FnOk P w K mg base CX0 2 f fd ["thing"] spDiff := by
  have GS : FnOk P w K mg base CX0 1 fS fdS ["thing"] spSide := ok_side FS T
  have GW : FnOk P w K mg base CX0 1 fW fdW ["thing"] spWhole := ok_whole FW T
  refine F.ok scDiff (fun vs H Q E h => ?_) (fun cdv A outer s H vs Q E hr h => ?_)
  · obtain ⟨p, r, rfl, _⟩ := h
    rfl
  · obtain ⟨p, r, rfl, hR, ⟨g1, g2, g3⟩, q⟩ := h
    refine ⟨_, pss_cons (ps_if (PW.pt (pw_or (pt_not (pt_val (pe_callB call_isiT (by rfl) T.isi PyProof.Rows.boot_isinstance (pa_cons (pv 0)
            (pa_cons (pe_tup (pa_cons (pe_bltn (v := .ty "tuple") rfl T.tuple PyProof.Rows.boot_tuple rfl) (pa_cons (pe_bltn (v := .ty "list") rfl T.list PyProof.Rows.boot_list rfl) pa_nil))) pa_nil)))))
          (pw_or1 (pt_cmpR op_ne (pe_callB call_len_seq (by rfl) T.len PySem.boot_len (pa_cons (pv 0) pa_nil)) pe_int (nomark _)))))
        (pss_one (ps_ret pe_bl)) pss_nil)
      (pss_cons (ps_asg (pv 0) (pg_either rfl (pgs_cons (pg_name (i := 1) scDiff.nd rfl (.inl rfl)) (pgs_cons (pg_name (i := 2) scDiff.nd rfl (.inl rfl)) (pgs_cons (pg_name (i := 3) scDiff.nd rfl (.inl rfl)) pgs_nil)))))
      (pss_one (ps_ret (pe_and (pe_call GS hr (by rfl) gS FS.kp bS .nil pass0 (pa_cons (pv 1) pa_nil)) (pe_and (pe_call GS hr (by rfl) gS FS.kp bS .nil pass0 (pa_cons (pv 2) pa_nil))
        (pe_and (pe_cmpR op_ne (pv 1) (pv 2) (nomark _)) (pe_one (pe_call GW hr (by rfl) gW FW.kp bW .nil pass0 (pa_cons (pv 3) pa_nil))))))))), ?_⟩
    refine ⟨_, rfl, by show 2 ≤ sizeLine; decide, fun tp ntp => ?_⟩
    have s1 : Same H (upd H tp (.tup [.ty "tuple", .ty "list"])) := same_upd ntp
    have hR1 := hR.same s1
    rcases hR1 with hR1 | hR1
    · refine ⟨.ref p, tp, _, _, [.type "tuple", .type "list"], true, rfl, upd_same, .cons (.ty _) (.cons (.ty _) .nil), .base (.tup hR1), ?_, ?_⟩
      · exact kitAny_cons (b := true) (kit_ty (by decide +kernel)) (fun z => nomatch z) (fun _ => rfl)
      · refine ⟨true, rfl, iteF ⟨.ref p, rfl, p, rowV r, rfl, .inr (SqT.of hR1), rfl, false, rfl, iteF ?_⟩⟩
        refine ⟨.ref p, rfl, .inl ⟨p, rowV r, rfl, SqT.of hR1, rfl, ?_⟩⟩
        refine ⟨_, _, rfl, _, _, rfl, _, _, rfl, rfl, ?_⟩
        refine ⟨_, rfl, _, rfl, g2, true, rfl, iteT ?_⟩
        refine ⟨_, rfl, _, rfl, g3, true, rfl, iteT ?_⟩
        refine ⟨_, rfl, _, rfl, rfl, _, rfl, ?_⟩
        rw [decide_eq_false (fun e => g1 (V.str.inj e))]
        exact iteT ⟨_, rfl, _, rfl, q _ s1⟩
    · refine ⟨.ref p, tp, _, _, [.type "tuple", .type "list"], true, rfl, upd_same, .cons (.ty _) (.cons (.ty _) .nil), .base (.lst hR1), ?_, ?_⟩
      · exact kitAny_cons (b := false) (kit_ty (by decide +kernel)) (fun _ => kitAny_cons (b := true) (kit_ty (by decide +kernel)) (fun z => nomatch z) (fun _ => rfl)) (fun z => nomatch z)
      · refine ⟨true, rfl, iteF ⟨.ref p, rfl, p, rowV r, rfl, .inl (SqL.of hR1), rfl, false, rfl, iteF ?_⟩⟩
        refine ⟨.ref p, rfl, .inr ⟨p, rowV r, rfl, SqL.of hR1, rfl, ?_⟩⟩
        refine ⟨_, _, rfl, _, _, rfl, _, _, rfl, rfl, ?_⟩
        refine ⟨_, rfl, _, rfl, g2, true, rfl, iteT ?_⟩
        refine ⟨_, rfl, _, rfl, g3, true, rfl, iteT ?_⟩
        refine ⟨_, rfl, _, rfl, rfl, _, rfl, ?_⟩
        rw [decide_eq_false (fun e => g1 (V.str.inj e))]
        exact iteT ⟨_, rfl, _, rfl, q _ s1⟩
end
end Lo
namespace Lo
open PySem L2
section
variable {P : Program} {w : World} {K : PySem.W.Frag} {mg : Str → Option Value} {base : Heap}
/-! ### names_of -/
def Named (rows : List SRow) (x : Str) : Prop := ∃ r ∈ rows, x = r.1 ∨ x = r.2.1
/-- the names of the first i rows -/
def namesTo (rows : List SRow) : Nat → List Str
  | 0 => []
  | i + 1 => match rows[i]? with
    | some r => addN (addN (namesTo rows i) r.1) r.2.1
    | none => namesTo rows i
theorem namesTo_succ {rows : List SRow} {i : Nat} {r : SRow} (h : rows[i]? = some r) : namesTo rows (i + 1) = addN (addN (namesTo rows i) r.1) r.2.1 := by
  show (match rows[i]? with
    | some r => addN (addN (namesTo rows i) r.1) r.2.1
    | none => namesTo rows i) = _
  rw [h]
theorem namesTo_len (rows : List SRow) : ∀ i, (namesTo rows i).length ≤ 2 * i
  | 0 => Nat.le_refl _
  | i + 1 => by
    have ih := namesTo_len rows i
    show (match rows[i]? with
      | some r => addN (addN (namesTo rows i) r.1) r.2.1
      | none => namesTo rows i).length ≤ _
    cases rows[i]? with
    | none => simp only; omega
    | some r =>
      have h1 := length_addN (l := namesTo rows i) (x := r.1)
      have h2 := length_addN (l := addN (namesTo rows i) r.1) (x := r.2.1)
      simp only
      omega
theorem namesTo_nd (rows : List SRow) : ∀ i, (namesTo rows i).Nodup
  | 0 => List.nodup_nil
  | i + 1 => by
    have ih := namesTo_nd rows i
    show (match rows[i]? with
      | some r => addN (addN (namesTo rows i) r.1) r.2.1
      | none => namesTo rows i).Nodup
    cases rows[i]? with
    | none => exact ih
    | some r => exact nodup_addN (nodup_addN ih)
theorem namesTo_mem (rows : List SRow) (x : Str) : ∀ i, i ≤ rows.length → (x ∈ namesTo rows i ↔ ∃ (j : Nat) (r : SRow), j < i ∧ rows[j]? = some r ∧ (x = r.1 ∨ x = r.2.1))
  | 0, _ => ⟨fun h => absurd h List.not_mem_nil, fun ⟨j, _, h, _⟩ => absurd h (Nat.not_lt_zero _)⟩
  | i + 1, hi => by
    have ih := namesTo_mem rows x i (by omega)
    have e : rows[i]? = some rows[i] := List.getElem?_eq_getElem (by omega)
    rw [namesTo_succ e, mem_addN, mem_addN, ih]
    constructor
    · rintro ((⟨j, r, h1, h2, h3⟩ | h) | h)
      · exact ⟨j, r, by omega, h2, h3⟩
      · exact ⟨i, _, by omega, e, .inl h⟩
      · exact ⟨i, _, by omega, e, .inr h⟩
    · rintro ⟨j, r, h1, h2, h3⟩
      by_cases k : j = i
      · subst k
        rw [e] at h2
        have := Option.some.inj h2
        subst this
        exact h3.elim (fun z => .inl (.inr z)) .inr
      · exact .inl (.inl ⟨j, r, by omega, h2, h3⟩)
theorem namesTo_all {rows : List SRow} {x : Str} : x ∈ namesTo rows rows.length ↔ Named rows x := by
  rw [namesTo_mem rows x _ (Nat.le_refl _)]
  constructor
  · rintro ⟨j, r, _, h2, h3⟩
    exact ⟨r, List.mem_of_getElem? h2, h3⟩
  · rintro ⟨r, h2, h3⟩
    obtain ⟨j, hj, e⟩ := List.getElem_of_mem h2
    exact ⟨j, r, hj, by rw [List.getElem?_eq_getElem hj, e], h3⟩
end
end Lo
namespace Lo
open PySem L2
theorem put_map {α β γ : Type} [DecidableEq α] (F : β → γ) (f : α → β) (a : α) (b : β) : put (fun x => F (f x)) a (F b) = fun x => F (put f a b x) := by
  funext x
  unfold put
  split <;> rfl
end Lo
namespace Lo
open PySem L2
abbrev sDraw : Stmt := top 49
abbrev sPool : Stmt := top 50
theorem fmod_in {i j : Int} (h : 0 < j) : 0 ≤ i.fmod j ∧ i.fmod j < j := by
  rw [Int.fmod_eq_emod_of_nonneg _ (Int.le_of_lt h)]
  exact ⟨Int.emod_nonneg _ (by omega), Int.emod_lt_of_pos _ h⟩
theorem other_ne {o d n : Int} (h0 : 0 ≤ o) (h1 : o < n) (h2 : 0 ≤ d) (h3 : d < n - 1) : 0 ≤ (o + 1 + d).fmod n ∧ (o + 1 + d).fmod n < n ∧ (o + 1 + d).fmod n ≠ o := by
  have hn : 0 < n := by omega
  obtain ⟨a, b⟩ := fmod_in (i := o + 1 + d) hn
  refine ⟨a, b, ?_⟩
  rw [Int.fmod_eq_emod_of_nonneg _ (Int.le_of_lt hn)]
  by_cases k : o + 1 + d < n
  · rw [Int.emod_eq_of_lt (by omega) k]
    omega
  · have e : o + 1 + d = (o + 1 + d - n) + n := by omega
    rw [e, Int.add_emod_right, Int.emod_eq_of_lt (by omega) (by omega)]
    omega
theorem dpInts {K : PySem.W.Frag} {H : Hp} : ∀ ns : List Int, DpAll K H (ns.map V.int) (ns.map PyData.int)
  | [] => .nil
  | n :: ns => .cons (.int n) (dpInts ns)
theorem eqv_nil (ns : List Int) : PyData.eqv (.list (ns.map PyData.int)) (.list []) = decide (ns = []) := by
  cases ns with
  | nil => rfl
  | cons n ns => exact (decide_eq_false (fun z => nomatch z)).symm
/-- int(e), e an int -/
theorem call_intI {X : Cx} : CallR X (.type "int") (fun xs H Q => ∃ i, xs = [.int i] ∧ Q (.int i) H) := fun pins s σ H xs us Q I r ⟨i, e, q⟩ => call_int1 pins s σ H xs us Q I r (.inl ⟨i, e, q⟩)
section
variable {P : Program} {w : World} {K : PySem.W.Frag} {mg : Str → Option Value} {base : Heap}
/-- the script at s -/
def Scr (K : PySem.W.Frag) (H : Hp) (s : Addr) : Prop := ∃ ns : List Int, SqL K H s (ns.map V.int) ∧ ns.length ≤ 63
theorem Scr.same {H H' : Hp} {s : Addr} (e : Same H H') (h : Scr K H s) : Scr K H' s := by
  obtain ⟨ns, h1, h2⟩ := h
  exact ⟨ns, e.seq h1, h2⟩
/-! ### _law_draw -/
def spDraw (K : PySem.W.Frag) : Sp := fun vs H Q _ => ∃ (s : Addr) (at_ many : Int), vs = [.ref s, .int at_, .int many] ∧ Scr K H s ∧ 1 ≤ many ∧ ∀ H' k, Same H H' → 0 ≤ k → k < many → Q (.int k) H'
abbrev nDraw : List Str := ["script", "at", "many", "row", "cell", "turn", "step", "mixed"]
theorem scDraw : FnScope nDraw ["script", "at", "many"] (defScope sDraw) := ⟨rfl, rfl, rfl, by decide +kernel, rfl, by decide +kernel, by decide +kernel⟩
theorem ok_draw {f : Addr} {fd : FuncData} (F : Fun K "_law_draw" "_law_draw" sDraw f fd) (T : Blt mg) : FnOk P w K mg base CX0 1 f fd ["script", "at", "many"] (spDraw K) := by
  refine F.ok scDraw (fun vs H Q E h => ?_) (fun cdv A outer s H vs Q E hr h => ?_)
  · obtain ⟨s, a, m, rfl, _⟩ := h
    rfl
  · obtain ⟨s, a, m, rfl, ⟨ns, hS, hlen⟩, hm, q⟩ := h
    have nd := scDraw.nd
    refine ⟨_, pss_cons (ps_set (i := 3) nd rfl (.inl rfl) (pe_ifExp (pt_cmpR (op_neD hr.units) (pv 0) (pe_lst pa_nil) (nomark _)) (pe_slice sl_list (pv 0) po_none (po_some pe_int)) (pe_lst (pa_cons pe_int pa_nil))))
      (pss_cons (ps_par (i := 4) (j := 5) rfl nd rfl rfl (by decide) rfl rfl (pa_cons (pe_ix ix_list (pv 3) (pe_op op_modN (pv 1) (pe_callB call_len_seq (by rfl) T.len PySem.boot_len (pa_cons (pv 3) pa_nil))) (fun _ _ => rfl))
          (pa_cons (pe_op op_fdivN (pv 1) (pe_callB call_len_seq (by rfl) T.len PySem.boot_len (pa_cons (pv 3) pa_nil))) pa_nil)) (by rfl))
      (pss_cons (ps_if (pt_cmpR op_ge (pv 4) (pe_op op_pow pe_int pe_int) (nomark _))
        (pss_cons (ps_set (i := 4) nd rfl (.inl rfl) (pe_op op_modN (pe_callTy call_intI (by rfl) T.int PyProof.Rows.boot_int (pa_cons (pv 4) pa_nil)) (pe_op op_pow pe_int pe_int)))
        (pss_cons (ps_for PassesOwn.never rfl (pi_range1 (by rfl) T.range (pa_cons (pe_op op_modN (pv 5) pe_int) pa_nil)) (pg_name (i := 6) nd rfl (.inl rfl)) (pss_one (ps_set (i := 4) nd rfl (.inl rfl) (pe_op op_fdivN (pv 4) pe_int))))
        (pss_one (ps_ret (pe_op op_modN (pe_op op_modN (pe_callTy call_intI (by rfl) T.int PyProof.Rows.boot_int (pa_cons (pv 4) pa_nil)) pe_int) (pv 2)))))) pss_nil)
      (pss_cons (ps_set (i := 7) nd rfl (.inl rfl) (pe_op op_add (pe_op op_mul (pe_op op_add (pe_op op_add (pe_op op_modN (pe_callTy call_intI (by rfl) T.int PyProof.Rows.boot_int (pa_cons (pe_op op_add (pv 4) (pe_op op_mul pe_int (pv 5))) pa_nil)) pe_int) (pe_op op_mul pe_int (pv 1))) pe_int) pe_int)
          (pe_op op_modN (pe_callTy call_intI (by rfl) T.int PyProof.Rows.boot_int (pa_cons (pe_op op_fdivN (pv 4) pe_int) pa_nil)) pe_int)))
      (pss_one (ps_ret (pe_op op_modN (pe_callTy call_intI (by rfl) T.int PyProof.Rows.boot_int (pa_cons (pe_op op_modN (pe_op op_mul (pe_op op_modN (pv 7) pe_int) pe_int) pe_int) pa_nil)) (pv 2))))))), ?_⟩
    -- the row: a list of ints, not empty
    have rowR : ∀ Q : V → Hp → Prop, (∀ (H2 : Hp) (rw_ : Addr) (rs : List Int), Same H H2 → H2 rw_ = some (.lst (rs.map V.int)) → rs ≠ [] → rs.length ≤ 63 → Q (.ref rw_) H2) →
        (tIf (tTest (tOp (rNeD K) (tVar 0) (tLst tNil))) (tSl (rSlL K) (tVar 0) tNoPart (tPart (tC (.int 60)))) (tLst (tCons (tC (.int 7)) tNil))) (L2.start nDraw [.ref s, .int a, .int m]) H Q := by
      intro Q hQ
      refine ⟨.ref s, rfl, Nat.zero_le _, fun e0 ne0 => ?_⟩
      have s1 : Same H (upd H e0 (.lst [])) := same_upd ne0
      refine ⟨_, _, .lst (s1.seq hS) (dpInts ns), .lst (SqL.of upd_same) .nil, PySem.W.ke_shaped_ints ns, PySem.W.ke_shaped_ints [], _, rfl, ?_⟩
      rw [eqv_nil]
      by_cases hn : ns = []
      · rw [decide_eq_true hn]
        refine iteF ⟨by show 1 ≤ sizeLine; decide, fun p np => ?_⟩
        exact hQ _ p [7] (s1.trans (same_upd np)) upd_same (List.cons_ne_nil _ _) (by decide)
      · rw [decide_eq_false hn]
        refine iteT ⟨.ref s, rfl, 60, rfl, s, _, rfl, s1.seq hS, fun p np => ?_⟩
        have ec : cutV (ns.map V.int) none (some 60) = (ns.take 60).map V.int := by
          unfold cutV
          rw [HT.sIx_none, show HT.sIx (ns.map V.int).length (ns.map V.int).length (some 60) = min 60 (ns.map V.int).length from HT.sIx_nat _ _ 60, List.drop_zero, Nat.sub_zero, List.map_take]
          rw [List.length_map]
          by_cases k : 60 ≤ ns.length
          · rw [Nat.min_eq_left k]
          · rw [Nat.min_eq_right (by omega), List.take_of_length_le (by rw [List.length_map]; exact Nat.le_refl _), List.take_of_length_le (by rw [List.length_map]; omega)]
        rw [ec]
        refine hQ _ p (ns.take 60) (s1.trans (same_upd np)) upd_same (fun z => hn ?_) (by rw [List.length_take]; omega)
        cases ns with
        | nil => rfl
        | cons x r => exact nomatch z
    refine rowR _ fun H2 rw_ rs s2 hrw hne hl => ?_
    have hpos : (0 : Int) < (rs.length : Nat) := by
      have := List.length_pos_iff.mpr hne
      omega
    obtain ⟨j, ej, hj⟩ : ∃ j : Nat, a.fmod (rs.length : Nat) = (j : Nat) ∧ j < rs.length := by
      obtain ⟨h0, h1⟩ := fmod_in (i := a) hpos
      exact ⟨(a.fmod (rs.length : Nat)).toNat, by omega, by omega⟩
    have elen : (((rs.map V.int).length : Nat) : Int) = (rs.length : Nat) := by rw [List.length_map]
    have hcell : (rs.map V.int)[j]? = some (.int rs[j]) := by
      rw [List.getElem?_map, List.getElem?_eq_getElem hj]
      rfl
    refine ⟨.ref rw_, rfl, .int a, rfl, .ref rw_, rfl, rw_, _, rfl, .inl (SqL.of hrw), _, _, rfl, rfl, ?_, rw_, _, (j : Nat), .int rs[j], rfl, ?_, SqL.of hrw, atI_nat hcell, ?_⟩
    · rw [elen]
      omega
    · rw [elen]
      show V.int (a.fmod (rs.length : Nat)) = _
      rw [ej]
    refine ⟨.int a, rfl, .ref rw_, rfl, rw_, _, rfl, .inl (SqL.of hrw), _, _, rfl, rfl, ?_, _, _, rfl, ?_⟩
    · rw [elen]
      exact ⟨by omega, by show (rs.length : Int).natAbs < 1073741824; omega⟩
    have fin : ∀ (H' : Hp) (i : Int), Same H H' → Q (.int (i.fmod m)) H' := fun H' i s' => by
      obtain ⟨h0, h1⟩ := fmod_in (i := i) (show 0 < m by omega)
      exact q H' _ s' h0 h1
    have nz : ∀ {i j : Int}, j ≠ 0 → (fun (_ j : Int) => j ≠ 0) i j := fun h => h
    have p40 : (97 : Int) ^ Int.toNat 40 ≠ 0 := by decide
    refine ⟨_, rfl, _, _, rfl, rfl, ⟨by decide, by decide, by decide⟩, _, _, rfl, rfl, _, rfl, ite2 (fun _ => ?_) (fun _ => ?_)⟩
    · refine ⟨_, rfl, _, rfl, _, _, rfl, rfl, ⟨by decide, by decide, by decide⟩, _, _, rfl, rfl, p40, ?_⟩
      refine ⟨_, rfl, _, _, rfl, rfl, (by decide : (40 : Int) ≠ 0), _, rfl, ?_, ?_, ?_⟩
      · obtain ⟨h0, h1⟩ := fmod_in (i := a.fdiv (((rs.map V.int).length : Nat) : Int)) (show (0 : Int) < 40 by decide)
        omega
      · obtain ⟨h0, h1⟩ := fmod_in (i := a.fdiv (((rs.map V.int).length : Nat) : Int)) (show (0 : Int) < 40 by decide)
        omega
      refine for_range (lo := 0) (fun i σ H' => ∃ (c : Int) (y : Option V), σ = [some (.ref s), some (.int a), some (.int m), some (.ref rw_), some (.int c), some (.int (a.fdiv (((rs.map V.int).length : Nat) : Int))), y, none] ∧ H' = H2) ⟨_, _, rfl, rfl⟩ ?_ ?_
      · rintro i σ H' hi ⟨c, y, rfl, rfl⟩
        exact ⟨_, rfl, _, _, rfl, rfl, ⟨by decide, by decide⟩, _, _, rfl, rfl⟩
      · rintro σ H' ⟨c, y, rfl, rfl⟩
        exact ⟨_, rfl, _, rfl, _, _, rfl, rfl, (by decide : (97 : Int) ≠ 0), _, rfl, _, _, rfl, rfl, (by omega : m ≠ 0), fin _ _ s2⟩
    · refine ⟨_, rfl, _, rfl, _, _, rfl, rfl, .inl ⟨by decide, by decide⟩, _, _, rfl, rfl, _, rfl, _, _, rfl, rfl, (by decide : (1000003 : Int) ≠ 0), ?_⟩
      refine ⟨_, rfl, _, _, rfl, rfl, .inl ⟨by decide, by decide⟩, _, _, rfl, rfl, _, _, rfl, rfl, _, _, rfl, rfl, .inr ⟨by decide, by decide⟩, ?_⟩
      refine ⟨_, rfl, _, _, rfl, rfl, ⟨by decide, by decide⟩, _, rfl, _, _, rfl, rfl, (by decide : (999983 : Int) ≠ 0), _, _, rfl, rfl, ?_⟩
      refine ⟨_, rfl, _, _, rfl, rfl, (by decide : (2147483647 : Int) ≠ 0), _, _, rfl, rfl, .inr ⟨by decide, by decide⟩, _, _, rfl, rfl, (by decide : (4294967291 : Int) ≠ 0), _, rfl, _, rfl, _, _, rfl, rfl, (by omega : m ≠ 0), fin _ _ s2⟩
end
end Lo
/-! set(xs) of things that are all different, and sorted of it: an entry for each, a list of as many. -/
namespace Lo
open PySem PySem.Spec PyProof.Rows L2
section
variable {P : Program} {w : World} {κ : Type} [DecidableEq κ]
/-- the set at a has as many entries as ks has keys, each of one of them; its table can be walked -/
def SetN (knd : KeyKind P w κ) (h : Heap) (a : Addr) (ks : List κ) : Prop :=
  ∃ (ob : Obj) (es : Array (Int × Value)) (ep : Nat) (tb : SetTable), h.get? a = some ob ∧ ob.ExactSet ∧ ob.data = .set es ep tb ∧
    (∀ e ∈ es.toList, (∃ k, k ∈ ks ∧ knd.is k e.2 = true ∧ e.1 = knd.hash k) ∧ e.2.scannable = true) ∧ es.size = ks.length ∧ es.size < scanBound ∧
    tb.fits es.size = true ∧ Ris tb.place.toList ∧ (w.params.followText "set-order" = true ∨ tb.led = true)
variable {knd : KeyKind P w κ} {A : Around} {E : Value → Shared → Prop} {s : Shared} {a : Addr} {ks : List κ}
theorem SetN.at {h h' : Heap} (N : SetN knd h a ks) (keep : ∀ o, h.get? a = some o → h'.get? a = some o) : SetN knd h' a ks := by
  obtain ⟨ob, es, ep, tb, hob, more⟩ := N
  exact ⟨ob, es, ep, tb, keep ob hob, more⟩
/-- behind the laying of an entry: the table is stored, and laid anew where it is too full -/
theorem setN_tail {give : Bool → Sem Unit} (hgive : ∀ (b : Bool) (s1 : Shared) (Q' : Unit → Shared → Prop), Q' () s1 → wpAny (model P w) A (give b) Q' E s1) {ob : Obj} {es : Array (Int × Value)} {ep : Nat} {tb : SetTable}
    (hob : s.heap.get? a = some ob) (hex : ob.ExactSet) (hdt : ob.data = .set es ep tb) {es1 : Array (Int × Value)} {tb2 : SetTable}
    (hall : ∀ e ∈ es1.toList, (∃ k, k ∈ ks ∧ knd.is k e.2 = true ∧ e.1 = knd.hash k) ∧ e.2.scannable = true) (hsz : es1.size = ks.length) (hbd : es1.size < scanBound) (hfit : tb2.fits es1.size = true)
    (hris : Ris tb2.place.toList) (hled : w.params.followText "set-order" = true ∨ tb2.led = true) {old : Bool} {R : Option Bool → Shared → Prop}
    (hR : ∀ h', Heap.SameBut a s.heap h' → SetN knd h' a ks → R (some true) { s with heap := h' }) :
    wpAny (model P w) A (do
        storeSet a es1 tb2
        if (!old && tb2.tooFull) = true then do
            give (relayAll tb2 es1 (SetTable.grown es1.size)).2.2
            storeSet a (relayAll tb2 es1 (SetTable.grown es1.size)).1 (relayAll tb2 es1 (SetTable.grown es1.size)).2.1
            pure (some true)
          else pure (some true)) R E s := by
  refine wpAny_bind (wpAny_storeSet_of hob hdt ?_ (fits_of_scanBound hbd))
  have hob1 := store_at (es' := es1) (t' := tb2) hob hdt
  have but1 := Heap.SameBut.update s.heap a (Obj.putSet es1 tb2)
  split
  · have pe := relayAll_perm tb2 es1 (SetTable.grown es1.size)
    have fi := relayAll_fits tb2 es1 (SetTable.grown es1.size)
    have ri := relayAll_ris tb2 es1 (SetTable.grown es1.size)
    have le := relayAll_led tb2 es1 (SetTable.grown es1.size)
    generalize relayAll tb2 es1 (SetTable.grown es1.size) = out at pe fi ri le ⊢
    obtain ⟨es2, tb3, gave⟩ := out
    dsimp only at pe fi ri le ⊢
    have hsz2 : es2.size = es1.size := by
      have q := pe.length_eq
      rw [Array.length_toList, Array.length_toList] at q
      exact q
    have hbd2 : es2.size < scanBound := hsz2 ▸ hbd
    refine wpAny_bind (hgive _ _ _ ?_)
    refine wpAny_bind (wpAny_storeSet_of hob1 rfl ?_ (fits_of_scanBound hbd2))
    have hob2 := store_at (es' := es2) (t' := tb3) hob1 rfl
    refine wpAny_pure (hR _ (but1.trans (Heap.SameBut.update _ a _)) ?_)
    exact ⟨_, es2, _, tb3, hob2, hex, rfl, fun e he => hall e (pe.mem_iff.mp he), hsz2.trans hsz, hbd2, fi, ri, hled.elim .inl fun z => .inr (le.trans z)⟩
  · exact wpAny_pure (hR _ but1 ⟨_, es1, _, tb2, hob1, hex, rfl, hall, hsz, hbd, hfit, hris, hled⟩)
/-- one more key, which is not among them -/
theorem setN_new {k : κ} {x : Value} {Q : Bool → Shared → Prop} (N : SetN knd s.heap a ks) (hkey : knd.is k x = true) (hscan : x.scannable = true) (hnew : k ∉ ks) (hroom : ks.length + 1 < scanBound)
    (hQ : ∀ h', Heap.SameBut a s.heap h' → SetN knd h' a (k :: ks) → Q true { s with heap := h' }) : wpAny (model P w) A (setAddHashed a x (knd.hash k)) Q E s := by
  obtain ⟨ob, es, ep, tb, hob, hex, hdt, hall, hsz, hbd, hfit, hris, hled⟩ := N
  have elems : ElemsOf knd es.toList := fun e he => by
    obtain ⟨⟨j, _, h2, h3⟩, h4⟩ := hall e he
    exact ⟨⟨j, h2, h3⟩, h4⟩
  have miss : List.findIdx? (fun e : Int × Value => knd.is k e.2) es.toList = none := by
    rw [List.findIdx?_eq_none_iff]
    intro e he
    cases q : knd.is k e.2 with
    | false => rfl
    | true =>
      obtain ⟨⟨j, h1, h2, _⟩, _⟩ := hall e he
      exact absurd (knd.inj e.2 k j q h2 ▸ h1) hnew
  unfold setAddHashed
  unfold setAddHashedIn
  refine wpAny_holding (wpAny_bind (wpAny_setState_of hob hdt hfit ?_))
  dsimp only
  rw [byScan_of hscan hbd elems]
  simp only [↓reduceIte]
  unfold setAddByScan
  refine wpAny_bind ?_
  refine wpAny_bind (wpAny_rule ?_)
  refine wpAny_bind (wpAny_setScan_of hkey hob hdt hfit elems ?_)
  rw [miss]
  dsimp only
  have quiet : ∀ (b : Bool) {s1 : Shared} {Q' : Unit → Shared → Prop}, Q' () s1 → wpAny (model P w) A (match b with | true => rule "set.scan.the-table-gave-way" | false => pure ()) Q' E s1 := fun b s1 Q' q => by
    cases b
    · exact wpAny_pure q
    · exact wpAny_rule q
  have pe := layNew_perm tb es (knd.hash k) x
  have fi := layNew_fits tb es (knd.hash k) x
  have ri := layNew_ris tb es (knd.hash k) x hris
  have le := layNew_led tb es (knd.hash k) x
  generalize layNew tb es (knd.hash k) x = out at pe fi ri le ⊢
  obtain ⟨es1, tb1, old, gave⟩ := out
  dsimp only at pe fi ri le ⊢
  rw [Array.toList_push] at pe
  have hsz1 : es1.size = (k :: ks).length := by
    have q := pe.length_eq
    rw [Array.length_toList, List.length_append, Array.length_toList, hsz] at q
    exact q
  have hbd1 : es1.size < scanBound := by
    rw [hsz1]
    exact hroom
  have hall1 : ∀ e ∈ es1.toList, (∃ j, j ∈ k :: ks ∧ knd.is j e.2 = true ∧ e.1 = knd.hash j) ∧ e.2.scannable = true := fun e he => by
    rcases List.mem_append.mp (pe.mem_iff.mp he) with z | z
    · obtain ⟨⟨j, h1, h2⟩, h3⟩ := hall e z
      exact ⟨⟨j, List.mem_cons_of_mem _ h1, h2⟩, h3⟩
    · rw [List.mem_singleton] at z
      subst z
      exact ⟨⟨k, List.mem_cons_self, hkey, rfl⟩, hscan⟩
  have led1 : w.params.followText "set-order" = true ∨ tb1.led = true := hled.elim .inl fun z => .inr (le.trans z)
  refine wpAny_bind (quiet _ ?_)
  split
  · refine wpAny_bind ?_
    rw [hashByValue_scannable 8 hscan]
    refine wpAny_pure ?_
    refine setN_tail ?_ hob hex hdt hall1 hsz1 hbd1 ?_ ?_ ?_ ?_
    · intro b s1 Q' q
      cases b
      · exact wpAny_pure q
      · exact wpAny_rule q
    · first | (split <;> first | exact fi | exact SetTable.fits_plain_off fi) | exact fi
    · first | (split <;> exact ri) | exact ri
    · first | (split <;> exact led1) | exact led1
    · intro h' but N1
      dsimp only
      exact wpAny_pure (hQ h' but N1)
  · refine wpAny_bind (wpAny_pure ?_)
    simp only [↓reduceIte]
    refine setN_tail ?_ hob hex hdt hall1 hsz1 hbd1 fi ri led1 ?_
    · intro b s1 Q' q
      cases b
      · exact wpAny_pure q
      · exact wpAny_rule q
    · intro h' but N1
      dsimp only
      exact wpAny_pure (hQ h' but N1)
end
section
variable {prog : Program} {w : World} {κ : Type} [DecidableEq κ] {knd : KeyKind prog w κ} {A : Around} {R : Result → Shared → Prop} {I : Addr} {fp wr : List Addr} {G : Array GenState → Array GenState → Prop} {n : Nat} {Pv : Nat → Value → Prop} {St : Nat → Shared → Prop}
/-- set.update's loop over keys that are all different -/
theorem setN_loop (W : WalksS prog w A.in1 I fp wr G n Pv St) (S : Addr) (hfp : S ∉ fp) (ks : List κ) (hlen : ks.length = n) (hdiff : ks.Nodup) (hroom : n + 1 < scanBound)
    (hval : ∀ i v, Pv i v → ∃ k, ks[i]? = some k ∧ knd.is k v = true ∧ v.scannable = true) :
    ∀ (m i : Nat) (s : Shared), n - i = m → i ≤ n → St i s → SetN knd s.heap S (ks.take i).reverse →
      (∀ s', Moved (S :: wr) G s s' → SetN knd s'.heap S ks.reverse → R (.ok (.ret .none)) s') → codeAny (model prog w) A (.builtin "set.update.loop" ⟨[.ref S, .ref I], []⟩) R s := by
  have hwr : S ∉ wr := fun z => hfp (W.sub _ z)
  have more : ∀ b ∈ wr, b ∈ S :: wr := fun b hb => List.mem_cons_of_mem _ hb
  intro m
  induction m with
  | zero =>
    intro i s hm hi st N fin
    obtain rfl : i = n := by omega
    refine codeAny_builtin PyProof.Rows.F.entry_set_update_loop ?_
    rw [Around.under_plainId PyProof.Rows.F.plain_set_update_loop _]
    show wpAny _ A.in1 (pyNext (.ref I) >>= _) _ _ s
    refine wpAny_bind (W.done s _ _ st fun s' mv => ?_)
    show wpAny _ A.in1 (ret Value.none) _ _ s'
    rw [List.take_of_length_le (Nat.le_of_eq hlen)] at N
    exact wpAny_pure (fin s' (mv.mono more) (N.at fun o e => mv.heap S _ hwr e))
  | succ m ih =>
    intro i s hm hi st N fin
    have hlt : i < n := by omega
    refine codeAny_builtin PyProof.Rows.F.entry_set_update_loop ?_
    rw [Around.under_plainId PyProof.Rows.F.plain_set_update_loop _]
    show wpAny _ A.in1 (pyNext (.ref I) >>= _) _ _ s
    refine wpAny_bind (W.item i s _ _ hlt st fun v s1 hv st1 mv => ?_)
    obtain ⟨k, hk, his, hsc⟩ := hval i v hv
    have N1 : SetN knd s1.heap S (ks.take i).reverse := N.at fun o e => mv.heap S _ hwr e
    have hi2 : i < ks.length := hlen ▸ hlt
    have ek : ks[i] = k := by
      rw [List.getElem?_eq_getElem hi2] at hk
      exact Option.some.inj hk
    have fresh : k ∉ (ks.take i).reverse := fun z => by
      rw [List.mem_reverse] at z
      have d := hdiff
      rw [← List.take_append_drop i ks] at d
      exact (List.nodup_append.mp d).2.2 k z k (by rw [List.drop_eq_getElem_cons hi2, ek]; exact List.mem_cons_self) rfl
    have etake : (ks.take (i + 1)).reverse = k :: (ks.take i).reverse := by
      rw [List.take_add_one, hk]
      show (ks.take i ++ [k]).reverse = _
      rw [List.reverse_append]
      rfl
    show wpAny _ A.in1 (holding [v] (setAdd S v) >>= _) _ _ s1
    refine wpAny_bind (wpAny_holding ?_)
    unfold setAdd
    refine wpAny_holding ?_
    refine wpAny_bind (knd.pyHash (k := k) his ?_)
    refine setN_new (s := { s1 with toks := s1.toks + 1 }) N1 his hsc fresh ?_ fun h' but N2 => ?_
    · rw [List.length_reverse, List.length_take]
      omega
    have N3 : SetN knd h' S (ks.take (i + 1)).reverse := by
      rw [etake]
      exact N2
    refine wpAny_pure ⟨plainId_quiet PyProof.Rows.F.plain_set_update_loop _, ih (i + 1) _ (by omega) hlt (W.frame _ s1 _ _ st1 (Nat.le_succ _) fun b hb o e => ?_) N3 fun s2 mv2 N4 => ?_⟩
    · have nb : b ≠ S := fun z => hfp (z ▸ hb)
      rw [but.2 b nb]
      exact e
    · refine fin s2 (Moved.trans W.gtrans ((mv.mono more).then_heap (Nat.le_succ _) fun b o hb e => ?_) mv2) N4
      have nb : b ≠ S := fun z => hb (z ▸ List.mem_cons_self)
      rw [but.2 b nb]
      exact e
end
section
variable {P : Program} {w : World} {κ : Type} [DecidableEq κ] {knd : KeyKind P w κ} {A : Around} {E : Value → Shared → Prop} {s : Shared}
abbrev bareSet (w : World) : Obj := { cls := .type "set", dict := none, data := .set #[] 0 (.fresh 0 0 (!w.params.followText "set-order")) }
theorem setN_bare {h : Heap} {a : Addr} (e : h.get? a = some (bareSet w)) : SetN knd h a [] := by
  refine ⟨_, #[], 0, _, e, ⟨rfl, rfl, rfl⟩, rfl, fun e he => ?_, rfl, by decide, by rfl, List.Pairwise.nil, ?_⟩
  · simp at he
  · show _ ∨ (!w.params.followText "set-order") = true
    cases w.params.followText "set-order"
    · exact .inr rfl
    · exact .inl rfl
set_option maxHeartbeats 3200000 in
/-- set(a list) -/
theorem call_setN {l : Addr} {its : Array Value} {ks : List κ} {Q : Value → Shared → Prop} (hand : A.handled = none) (hlist : s.heap.IsList l its) (hlen : ks.length = its.size) (hdiff : ks.Nodup) (hroom : its.size + 1 < scanBound)
    (hits : ∀ (i : Nat) (v : Value), its[i]? = some v → ∃ k, ks[i]? = some k ∧ knd.is k v = true ∧ v.scannable = true)
    (hQ : ∀ (h' : Heap) (tk : Nat), SetN knd h' s.heap.objs.size ks.reverse → (∀ b o, s.heap.get? b = some o → h'.get? b = some o) → Q (.ref s.heap.objs.size) { s with heap := h', toks := tk }) :
    wpAny (model P w) A (call (.type "set") [.ref l]) Q E s := by
  obtain ⟨c, tl, hmro⟩ := PySem.F.called_set.mro
  have hmade := PySem.F.called_set.made
  have hsub := PySem.F.called_set.sub
  refine wpAny_call (codeAny_of_tree ?_)
  show wpAny _ _ (callAny (.type "set") _) _ _ _
  refine wpAny_pure ⟨Code.quiet_builtin _ (by decide +kernel), codeAny_builtin PySem.F.entry_type_call ?_⟩
  rw [Around.under_plain (weight_type_call_type "set" [.ref l] []) rfl]
  have hnt := PySem.F.called_set.notType
  have hcc := PySem.F.called_set.canCreate
  have hct := PySem.F.typeCall_set_1 (.ref l)
  repeat (any_goals (first | assumption | wp_step))
  refine codeAny_mono (code_set_led1 (.ref l) (E := E) (Q₁ := fun ob s1 => ob = .ref s.heap.objs.size ∧ s1 = { s with heap := s.heap.push (bareSet w) }) ⟨rfl, rfl⟩) fun r s1 hr => ?_
  cases r with
  | error e => exact hr
  | ok fl =>
    cases fl with
    | ret ob =>
      obtain ⟨rfl, rfl⟩ := hr
      have hnew : (s.heap.push (bareSet w)).get? s.heap.objs.size = some (bareSet w) := Heap.get?_push_size _ rfl
      have hty : Shared.TypeIs { s with heap := s.heap.push (bareSet w) } (.ref s.heap.objs.size) "set" := ⟨_, hnew, rfl⟩
      have hli := PySem.F.called_set.init.lookup
      have hbi := PySem.F.called_set.init.bind (.ref s.heap.objs.size)
      repeat (any_goals (first | assumption | wp_step))
      refine codeAny_mono (codeAny_call_builtin (R := wants (fun r s2 => r = .none ∧ ∃ h' tk, s2 = { s with heap := h', toks := tk } ∧ SetN knd h' s.heap.objs.size ks.reverse ∧
          (∀ b o, s.heap.get? b = some o → h'.get? b = some o)) E) PySem.F.called_set.init.plain PySem.F.entry_set_init (check_set_init_1 hty ?_)) fun r2 s2 hr2 => ?_
      · obtain ⟨ol, hol, hcl, nl, hdl⟩ := hlist
        obtain ⟨ocls, odict, odata, oslots⟩ := ol
        simp only at hcl hdl
        subst hcl
        subst hdl
        have hol1 : (s.heap.push (bareSet w)).get? l = some { cls := .type "list", dict := odict, data := .seq its nl, slots := oslots } := Heap.get?_push_of_some _ hol
        have hsls := PySem.F.sub_list_set
        have hslf := PySem.F.sub_list_frozenset
        have hne : (Value.type "list" == Value.type "dict") = false := by decide
        have hl1 : (s.heap.push (bareSet w)).IsList l its := ⟨_, hol1, rfl, nl, rfl⟩
        unfold Builtin.«set.__init__»
        unfold noKeywords
        unfold Builtin.Frozenset.updateFrom
        generalize hPI : pyIter = PI
        wp_walk
        subst hPI
        refine wpAny_pyIter_list hl1 ?_
        refine wpAny_bind (wpAny_runValue ?_)
        have hlS : l < s.heap.objs.size := Heap.lt_size hol
        have hh3 : A.in1.in1.in1.handled = none := by simp [hand]
        have hzz : (s.heap.push (bareSet w)).objs.size = s.heap.objs.size + 1 := Heap.size_push ..
        have hneI : l ≠ (s.heap.push (bareSet w)).objs.size := by
          rw [hzz]
          exact Nat.ne_of_lt (Nat.lt_succ_of_lt hlS)
        have hfp : s.heap.objs.size ∉ [(s.heap.push (bareSet w)).objs.size, l] := by
          rw [hzz]
          intro z
          rcases List.mem_cons.mp z with z | z
          · exact absurd z (Nat.ne_of_lt (Nat.lt_succ_self _))
          · exact absurd (List.mem_singleton.mp z) (Nat.ne_of_gt hlS)
        refine setN_loop (knd := knd) ((Walks.list hh3 _ l hneI its).toS) s.heap.objs.size hfp ks hlen hdiff hroom hits (its.size - 0) 0 _ rfl (Nat.zero_le _) ⟨⟨_, Heap.get?_push_size _ rfl, rfl, rfl⟩, (hl1.push _)⟩ ?hS0 ?hR
        case hS0 => exact setN_bare (Heap.get?_push_of_some _ hnew)
        case hR =>
          intro s3 mv N
          obtain ⟨h', g2, d2, tk2, os2⟩ := s3
          have eg : g2 = s.gens := mv.gens
          have ed : d2 = s.drawn := mv.drawn
          have eo : os2 = s.os := mv.os
          subst eg
          subst ed
          subst eo
          show wpAny _ _ _ _ _ _
          refine wpAny_pure ?_
          show wpAny _ _ (ret Value.none) _ _ _
          refine wpAny_pure ⟨rfl, h', tk2, rfl, N, fun b o e => ?_⟩
          have hb := Heap.lt_size e
          refine mv.heap b o (fun z => ?_) (Heap.get?_push_of_some _ (Heap.get?_push_of_some _ e))
          rcases List.mem_cons.mp z with z | z
          · exact absurd z (Nat.ne_of_lt hb)
          · rw [List.mem_singleton, hzz] at z
            exact absurd z (Nat.ne_of_lt (Nat.lt_succ_of_lt hb))
      · cases r2 with
        | error e => exact hr2
        | ok fl2 =>
          cases fl2 with
          | ret r =>
            obtain ⟨rfl, h', tk, rfl, N, keep⟩ := hr2
            repeat (any_goals (first | assumption | wp_step))
            exact hQ _ _ N keep
          | _ => exact hr2.elim
    | _ => exact hr.elim
end
end Lo
namespace Lo
open PySem PySem.Spec PyProof.Rows L2
section
variable {P : Program} {w : World} {A : Around} {E : Value → Shared → Prop} {s : Shared} {a : Addr}
/-- sorted of a set of texts: as many as there are -/
theorem sorted_setS {ks : List Str} {Q : Value → Shared → Prop} (N : SetN (PySem.strKind P w) s.heap a ks) (hand : A.handled = none) (h64 : ks.length < 64)
    (hQ : ∀ (s2 : Shared) (p : Addr) (out : Array Value) (c : Nat) (ss : List Str), (∀ b o, s.heap.get? b = some o → s2.heap.get? b = some o) → s2.gens = s.gens → s2.os = s.os → s.heap.objs.size ≤ p →
      s2.heap.get? p = some (seqObj "list" out c) → StrsAre out.toList ss → ss.length = ks.length → Q (.ref p) s2) : wpAny (model P w) A (call (.builtin "sorted") [.ref a]) Q E s := by
  obtain ⟨ob, es, ep, tb, hob, hex, hdt, hall, hsz, hbd, hfit, hris, hled⟩ := N
  refine Calls.call_function_entry kind_sorted plain_sorted entry_sorted (args_sorted1 _) ?_
  unfold Builtin.«sorted»
  refine wpAny_bind (m := checkCount "sorted" 1 1 _) (wpAny_pure ?_)
  refine wpAny_bind (collect_set (A := A.in1) hand ⟨ob, hob, hex.1, hdt⟩ hfit hbd hris hled fun s1 vs keep hz eg eo pe => ?_)
  have hlen : vs.length = ks.length := by
    rw [pe.length_eq, List.length_map, Array.length_toList]
    exact hsz
  have hS : StrsAre vs (vs.map strOf) := strsAre_map vs fun v hv => by
    obtain ⟨e, he, q⟩ := List.mem_map.mp (pe.mem_iff.mp hv)
    obtain ⟨⟨k, _, h2, _⟩, _⟩ := hall e he
    obtain ⟨t, ht⟩ := Value.isStrOf_shape (x := k) (v := e.2) h2
    exact ⟨k, t, by rw [← q]; exact ht⟩
  have h64' : vs.length < 64 := by
    rw [hlen]
    exact h64
  refine wpAny_bind (wpAny_newList ?_ (by rw [sizeLine_eq]; omega))
  have hL : (s1.heap.push (seqObj "list" vs.toArray 0)).get? s1.heap.objs.size = some (seqObj "list" vs.toArray 0) := Heap.get?_push_size _ rfl
  refine wpAny_bind (wpAny_holding (wpAny_call_entry slot_list_sort ⟨_, hL, rfl⟩ entry_list_sort (list_sort_treeK strKind_oneLt hL hS.keysOf (fun v1 v2 rest e => keyKind_strs (by rw [← e]; exact hS)) h64' fun st hp hs => ⟨_, rfl, ?_⟩) (args_list_sort _)))
  obtain ⟨ss, h1, h2, _⟩ := sorted_out_str hS hp hs
  obtain ⟨c, hc⟩ := sortedHeap_at (vs := vs) (out := (arrOf st).map (·.2)) hL
  refine wpAny_pure ⟨_, rfl, hQ _ s1.heap.objs.size _ c ss (fun b o e => ?_) eg eo hz hc h1 ?_⟩
  · have q := keep b o e
    have lt := Heap.lt_size q
    show (sortedHeap (s1.heap.push (seqObj "list" vs.toArray 0)) s1.heap.objs.size vs ((arrOf st).map (·.2))).get? b = some o
    rw [sortedHeap_old (Nat.ne_of_lt lt) (by rw [size_push']; exact Nat.lt_succ_of_lt lt)]
    exact Heap.get?_push_of_some _ q
  · rw [h2.length_eq, List.length_map]
    exact hlen
/-- .. of ints -/
theorem sorted_setI {ks : List Int} {Q : Value → Shared → Prop} (N : SetN (intKind P w) s.heap a ks) (hand : A.handled = none) (h64 : ks.length < 64)
    (hQ : ∀ (s2 : Shared) (p : Addr) (out : Array Value) (c : Nat) (ns : List Int), (∀ b o, s.heap.get? b = some o → s2.heap.get? b = some o) → s2.gens = s.gens → s2.os = s.os → s.heap.objs.size ≤ p →
      s2.heap.get? p = some (seqObj "list" out c) → IntsAre out.toList ns → ns.length = ks.length → Q (.ref p) s2) : wpAny (model P w) A (call (.builtin "sorted") [.ref a]) Q E s := by
  obtain ⟨ob, es, ep, tb, hob, hex, hdt, hall, hsz, hbd, hfit, hris, hled⟩ := N
  refine Calls.call_function_entry kind_sorted plain_sorted entry_sorted (args_sorted1 _) ?_
  unfold Builtin.«sorted»
  refine wpAny_bind (m := checkCount "sorted" 1 1 _) (wpAny_pure ?_)
  refine wpAny_bind (collect_set (A := A.in1) hand ⟨ob, hob, hex.1, hdt⟩ hfit hbd hris hled fun s1 vs keep hz eg eo pe => ?_)
  have hlen : vs.length = ks.length := by
    rw [pe.length_eq, List.length_map, Array.length_toList]
    exact hsz
  have hS : IntsAre vs (vs.map Builtin.Re.reRawOf) := ints_of vs fun v hv => by
    obtain ⟨e, he, q⟩ := List.mem_map.mp (pe.mem_iff.mp hv)
    obtain ⟨⟨k, _, h2, _⟩, _⟩ := hall e he
    obtain ⟨t, ht⟩ := Value.isInt_shape (k := k) (v := e.2) h2
    exact ⟨k, t, by rw [← q]; exact ht⟩
  have h64' : vs.length < 64 := by
    rw [hlen]
    exact h64
  refine wpAny_bind (wpAny_newList ?_ (by rw [sizeLine_eq]; omega))
  have hL : (s1.heap.push (seqObj "list" vs.toArray 0)).get? s1.heap.objs.size = some (seqObj "list" vs.toArray 0) := Heap.get?_push_size _ rfl
  refine wpAny_bind (wpAny_holding (wpAny_call_entry slot_list_sort ⟨_, hL, rfl⟩ entry_list_sort (list_sort_tree hL hS h64' fun out ns h1 h2 _ => ⟨_, rfl, ?_⟩) (args_list_sort _)))
  obtain ⟨c, hc⟩ := sortedHeap_at (vs := vs) (out := out) hL
  refine wpAny_pure ⟨_, rfl, hQ _ s1.heap.objs.size _ c ns (fun b o e => ?_) eg eo hz hc h1 ?_⟩
  · have q := keep b o e
    have lt := Heap.lt_size q
    show (sortedHeap (s1.heap.push (seqObj "list" vs.toArray 0)) s1.heap.objs.size vs out).get? b = some o
    rw [sortedHeap_old (Nat.ne_of_lt lt) (by rw [size_push']; exact Nat.lt_succ_of_lt lt)]
    exact Heap.get?_push_of_some _ q
  · rw [h2.length_eq, List.length_map]
    exact hlen
end
/-! ### as rules of the layer -/
def SetSO (P : Program) (w : World) (a : Addr) (n : Nat) : HO := .ext fun h => ∃ ks : List Str, ks.length = n ∧ SetN (PySem.strKind P w) h a ks
def SetIO (P : Program) (w : World) (a : Addr) (n : Nat) : HO := .ext fun h => ∃ ks : List Int, ks.length = n ∧ SetN (intKind P w) h a ks
theorem setSO_new {P : Program} {w : World} {H : Hp} {h : Heap} {a : Addr} {ks : List Str} (N : SetN (PySem.strKind P w) h a ks) : ObjOk P w H h a (SetSO P w a ks.length) := by
  have ⟨ob, _, _, _, hob, _⟩ := N
  exact ⟨⟨ks, rfl, N⟩, ⟨ob, hob⟩, fun h1 h2 ⟨js, e, N1⟩ keep => ⟨js, e, N1.at keep⟩⟩
theorem setIO_new {P : Program} {w : World} {H : Hp} {h : Heap} {a : Addr} {ks : List Int} (N : SetN (intKind P w) h a ks) : ObjOk P w H h a (SetIO P w a ks.length) := by
  have ⟨ob, _, _, _, hob, _⟩ := N
  exact ⟨⟨ks, rfl, N⟩, ⟨ob, hob⟩, fun h1 h2 ⟨js, e, N1⟩ keep => ⟨js, e, N1.at keep⟩⟩
section
variable {X : Cx}
/-- set(xs), texts that are all different -/
theorem cr_setS (hc : X.calm = true) : CallR X (.type "set") (fun xs H Q => ∃ (l : Addr) (zs : List Str), xs = [V.ref l] ∧ SqL X.K H l (zs.map V.str) ∧ zs.Nodup ∧ zs.length < 64 ∧ ∀ a, H a = none → Q (.ref a) (upd H a (SetSO X.prog X.w a zs.length))) := by
  intro pins s σ H xs us Q I r h
  obtain ⟨l, zs, rfl, hl, hd, h64, q⟩ := h
  rw [Vals.ref1 r]
  obtain ⟨its, rv, pl, hz⟩ := I.list hl
  have hn : H s.heap.objs.size = none := I.hok.fresh (Nat.le_refl _)
  have hlen : zs.length = its.toArray.size := by
    have := rv.length
    rw [List.length_map] at this
    simpa using this
  refine call_setN (knd := PySem.strKind X.prog X.w) (ks := zs) (I.ok.hd hc) pl.isList hlen hd (by rw [← hlen]; unfold scanBound; omega) (fun i v hv => ?_) fun h' tk N keep => ?_
  · have hi : i < zs.length := by
      rw [hlen]
      exact (Array.getElem?_eq_some_iff.mp hv).1
    obtain ⟨u, e1, r1⟩ := rv.get (i := i) (x := .str zs[i]) (by rw [List.getElem?_map, List.getElem?_eq_getElem hi]; rfl)
    obtain ⟨t, rfl⟩ := r1
    have ev : v = .str zs[i] t := by
      rw [List.getElem?_toArray, e1] at hv
      exact (Option.some.inj hv).symm
    subst ev
    exact ⟨zs[i], List.getElem?_eq_getElem hi, strKind_is _ _ _ _, rfl⟩
  · have nw := setSO_new (H := upd H s.heap.objs.size (SetSO X.prog X.w s.heap.objs.size zs.reverse.length)) N
    rw [List.length_reverse] at nw
    exact ⟨.ref _, _, I.laid (t' := tk) keep (Nat.le_refl _) nw, rfl, q _ hn⟩
/-- set(xs), ints that are all different -/
theorem cr_setI (hc : X.calm = true) : CallR X (.type "set") (fun xs H Q => ∃ (l : Addr) (zs : List Int), xs = [V.ref l] ∧ SqL X.K H l (zs.map V.int) ∧ zs.Nodup ∧ zs.length < 64 ∧ ∀ a, H a = none → Q (.ref a) (upd H a (SetIO X.prog X.w a zs.length))) := by
  intro pins s σ H xs us Q I r h
  obtain ⟨l, zs, rfl, hl, hd, h64, q⟩ := h
  rw [Vals.ref1 r]
  obtain ⟨its, rv, pl, hz⟩ := I.list hl
  have hn : H s.heap.objs.size = none := I.hok.fresh (Nat.le_refl _)
  have hlen : zs.length = its.toArray.size := by
    have := rv.length
    rw [List.length_map] at this
    simpa using this
  refine call_setN (knd := intKind X.prog X.w) (ks := zs) (I.ok.hd hc) pl.isList hlen hd (by rw [← hlen]; unfold scanBound; omega) (fun i v hv => ?_) fun h' tk N keep => ?_
  · have hi : i < zs.length := by
      rw [hlen]
      exact (Array.getElem?_eq_some_iff.mp hv).1
    obtain ⟨u, e1, r1⟩ := rv.get (i := i) (x := .int zs[i]) (by rw [List.getElem?_map, List.getElem?_eq_getElem hi]; rfl)
    obtain ⟨t, rfl⟩ := r1
    have ev : v = .int zs[i] t := by
      rw [List.getElem?_toArray, e1] at hv
      exact (Option.some.inj hv).symm
    subst ev
    exact ⟨zs[i], List.getElem?_eq_getElem hi, intKind_is _ _ _ _, rfl⟩
  · have nw := setIO_new (H := upd H s.heap.objs.size (SetIO X.prog X.w s.heap.objs.size zs.reverse.length)) N
    rw [List.length_reverse] at nw
    exact ⟨.ref _, _, I.laid (t' := tk) keep (Nat.le_refl _) nw, rfl, q _ hn⟩
/-- sorted(set) of texts -/
theorem cr_sortedN (hc : X.calm = true) : CallR X (.builtin "sorted") (fun xs H Q => ∃ (a : Addr) (n : Nat), xs = [V.ref a] ∧ H a = some (SetSO X.prog X.w a n) ∧ n < 64 ∧ ∀ (ss : List Str) (p : Addr), ss.length = n → H p = none → Q (.ref p) (upd H p (.lst (ss.map V.str)))) := by
  intro pins s σ H xs us Q I r h
  obtain ⟨a, n, rfl, ha, h64, q⟩ := h
  obtain ⟨⟨ks, rfl, N⟩, _⟩ := I.hok a _ ha
  rw [Vals.ref1 r]
  refine sorted_setS N (I.ok.hd hc) h64 fun s2 p out c ss keep eg eo hp hpo hss hlen => ?_
  have hn : H p = none := I.hok.fresh hp
  have hsz : (ss.map V.str).length ≤ sizeLine := by
    rw [List.length_map, hlen, sizeLine_eq]
    omega
  have J : Inv X pins σ (upd H p (.lst (ss.map V.str))) { s with heap := s2.heap, gens := s2.gens, drawn := s2.drawn, toks := s2.toks } :=
    I.call (ch := []) (Un.laid keep hp hn) (I.hok.laid keep hp ⟨hsz, out.toList, c, vals_of_strs hss, hpo⟩) (by rw [eg]; exact I.bare) (fun _ z => nomatch z)
  obtain ⟨h2, g2, d2, t2, o2⟩ := s2
  obtain rfl : o2 = s.os := eo
  exact ⟨.ref p, _, J, rfl, q ss p hlen hn⟩
/-- sorted(set) of ints -/
theorem cr_sortedM (hc : X.calm = true) : CallR X (.builtin "sorted") (fun xs H Q => ∃ (a : Addr) (n : Nat), xs = [V.ref a] ∧ H a = some (SetIO X.prog X.w a n) ∧ n < 64 ∧ ∀ (ns : List Int) (p : Addr), ns.length = n → H p = none → Q (.ref p) (upd H p (.lst (ns.map V.int)))) := by
  intro pins s σ H xs us Q I r h
  obtain ⟨a, n, rfl, ha, h64, q⟩ := h
  obtain ⟨⟨ks, rfl, N⟩, _⟩ := I.hok a _ ha
  rw [Vals.ref1 r]
  refine sorted_setI N (I.ok.hd hc) h64 fun s2 p out c ns keep eg eo hp hpo hss hlen => ?_
  have hn : H p = none := I.hok.fresh hp
  have hsz : (ns.map V.int).length ≤ sizeLine := by
    rw [List.length_map, hlen, sizeLine_eq]
    omega
  have J : Inv X pins σ (upd H p (.lst (ns.map V.int))) { s with heap := s2.heap, gens := s2.gens, drawn := s2.drawn, toks := s2.toks } :=
    I.call (ch := []) (Un.laid keep hp hn) (I.hok.laid keep hp ⟨hsz, out.toList, c, vals_of_ints hss, hpo⟩) (by rw [eg]; exact I.bare) (fun _ z => nomatch z)
  obtain ⟨h2, g2, d2, t2, o2⟩ := s2
  obtain rfl : o2 = s.os := eo
  exact ⟨.ref p, _, J, rfl, q ns p hlen hn⟩
end
end Lo
/-! Sorted texts are told by what is in them; data of texts and rows. -/
namespace Lo
open PySem PySem.Spec L2 PyProof.Rows
def leS (x y : Str) : Prop := x.cps.toList ≤ y.cps.toList
theorem str_ext {x y : Str} (h : x.cps.toList = y.cps.toList) : x = y := by
  obtain ⟨a⟩ := x
  obtain ⟨b⟩ := y
  have e : a = b := Array.ext' h
  rw [e]
theorem leS_of {x y : Str} (h : (!ltCps y.cps.toList x.cps.toList) = true) : leS x y := by
  rw [ltCps_eq, Bool.not_eq_true', decide_eq_false_iff_not] at h
  exact List.not_lt.mp h
theorem rising_pw : ∀ (l : List Str) (p : Str), risingS p l = true → (p :: l).Pairwise leS
  | [], p, _ => List.pairwise_cons.mpr ⟨fun x h => absurd h List.not_mem_nil, List.Pairwise.nil⟩
  | x :: r, p, h => by
    have h2 : (!ltCps x.cps.toList p.cps.toList && risingS x r) = true := h
    rw [Bool.and_eq_true] at h2
    have ih := rising_pw r x h2.2
    have px := leS_of h2.1
    refine List.pairwise_cons.mpr ⟨fun y hy => ?_, ih⟩
    rcases List.mem_cons.mp hy with e | e
    · exact e ▸ px
    · exact List.le_trans px ((List.pairwise_cons.mp ih).1 y e)
theorem sorted_pw : ∀ l : List Str, sortedS l = true → l.Pairwise leS
  | [], _ => List.Pairwise.nil
  | x :: r, h => rising_pw r x h
theorem sorted_one : ∀ (l m : List Str), l.Perm m → l.Pairwise leS → m.Pairwise leS → l = m
  | [], m, p, _, _ => (List.nil_perm.mp p).symm
  | x :: l, [], p, _, _ => absurd p.length_eq (by simp)
  | x :: l, y :: m, p, hl, hm => by
    obtain ⟨l1, l2⟩ := List.pairwise_cons.mp hl
    obtain ⟨m1, m2⟩ := List.pairwise_cons.mp hm
    have e : x = y := by
      rcases List.mem_cons.mp (p.mem_iff.mp (List.mem_cons_self (a := x) (l := l))) with h | h
      · exact h
      · rcases List.mem_cons.mp (p.mem_iff.mpr (List.mem_cons_self (a := y) (l := m))) with h' | h'
        · exact h'.symm
        · exact str_ext (List.le_antisymm (l1 y h') (m1 x h))
    subst e
    rw [sorted_one l m (List.Perm.cons_inv p) l2 m2]
/-- two lists without repetition that have the same things -/
theorem perm_same {α : Type} [DecidableEq α] : ∀ (l m : List α), l.Nodup → m.Nodup → (∀ x, x ∈ l ↔ x ∈ m) → l.Perm m
  | [], m, _, _, h => by
    cases m with
    | nil => exact List.Perm.nil
    | cons y m => exact absurd ((h y).mpr List.mem_cons_self) List.not_mem_nil
  | x :: l, m, hl, hm, h => by
    obtain ⟨h1, h2⟩ := List.nodup_cons.mp hl
    have hx := (h x).mp List.mem_cons_self
    have hp := List.perm_cons_erase hx
    refine (List.Perm.cons x (perm_same l (m.erase x) h2 (hm.erase x) fun y => ?_)).trans hp.symm
    rw [hm.mem_erase_iff]
    constructor
    · intro hy
      exact ⟨fun e => h1 (e ▸ hy), (h y).mp (List.mem_cons_of_mem _ hy)⟩
    · rintro ⟨h3, h4⟩
      exact (List.mem_cons.mp ((h y).mpr h4)).resolve_left h3
theorem sorted_same {l m l' m' : List Str} (p : l'.Perm l) (q : m'.Perm m) (hl : sortedS l' = true) (hm : sortedS m' = true) (h1 : l.Nodup) (h2 : m.Nodup) (h : ∀ x, x ∈ l ↔ x ∈ m) : l' = m' :=
  sorted_one l' m' ((p.trans (perm_same l m h1 h2 h)).trans q.symm) (sorted_pw _ hl) (sorted_pw _ hm)
/-! ### data -/
def strsD (zs : List Str) : PyData := .list (zs.map PyData.str)
def rowD (r : SRow) : PyData := .tuple [.str r.1, .str r.2.1, .int r.2.2]
def rowsD (rows : List SRow) : PyData := .list (rows.map rowD)
def OkR (r : SRow) : Prop := PyData.strOk r.1 = true ∧ PyData.strOk r.2.1 = true
theorem lay_strs : ∀ zs : List Str, (∀ z ∈ zs, PyData.strOk z = true) → PyData.canLayAll0 (zs.map PyData.str) = true
  | [], _ => rfl
  | z :: zs, h => by
    have h1 := h z List.mem_cons_self
    have h2 := lay_strs zs fun x hx => h x (List.mem_cons_of_mem _ hx)
    simp [PyData.canLayAll0, PyData.canLay0, h1, h2]
theorem deep_strs : ∀ zs : List Str, PyData.depthAll (zs.map PyData.str) = 0
  | [] => rfl
  | z :: zs => by simp [PyData.depthAll, PyData.depth, deep_strs zs]
theorem shaped_strs {zs : List Str} (h : ∀ z ∈ zs, PyData.strOk z = true) : SeqAt.shaped (strsD zs) = true := by
  unfold strsD
  simp [SeqAt.shaped, PyData.canLay0, PyData.depth, lay_strs zs h, deep_strs]
theorem lay_rows : ∀ rows : List SRow, (∀ r ∈ rows, OkR r) → PyData.canLayAll0 (rows.map rowD) = true
  | [], _ => rfl
  | r :: rows, h => by
    obtain ⟨h1, h2⟩ := h r List.mem_cons_self
    have h3 := lay_rows rows fun x hx => h x (List.mem_cons_of_mem _ hx)
    simp [PyData.canLayAll0, PyData.canLay0, rowD, h1, h2, h3]
theorem deep_rows : ∀ rows : List SRow, PyData.depthAll (rows.map rowD) ≤ 1
  | [] => by simp [PyData.depthAll]
  | r :: rows => by
    have ih := deep_rows rows
    simp [PyData.depthAll, PyData.depth, rowD]
    omega
theorem shaped_rows {rows : List SRow} (hr : ∀ r ∈ rows, OkR r) : SeqAt.shaped (rowsD rows) = true := by
  have h := deep_rows rows
  unfold rowsD
  simp [SeqAt.shaped, PyData.canLay0, PyData.depth, lay_rows rows hr]
  omega
theorem eqv_strs : ∀ zs : List Str, PyData.eqvAll (zs.map PyData.str) (zs.map PyData.str) = true
  | [] => by simp [PyData.eqvAll]
  | z :: zs => by simp [PyData.eqvAll, PyData.eqv, eqv_strs zs]
theorem eqv_strsD (zs : List Str) : PyData.eqv (strsD zs) (strsD zs) = true := by
  unfold strsD
  simp [PyData.eqv, eqv_strs]
theorem eqv_rows : ∀ rows : List SRow, PyData.eqvAll (rows.map rowD) (rows.map rowD) = true
  | [] => by simp [PyData.eqvAll]
  | r :: rows => by simp [PyData.eqvAll, PyData.eqv, rowD, eqv_rows rows]
theorem eqv_rowsD (rows : List SRow) : PyData.eqv (rowsD rows) (rowsD rows) = true := by
  unfold rowsD
  simp [PyData.eqv, eqv_rows]
theorem eqv_rows0 (rows : List SRow) : PyData.eqv (rowsD rows) (.list []) = decide (rows = []) := by
  cases rows with
  | nil =>
    unfold rowsD
    simp [PyData.eqv, PyData.eqvAll]
  | cons r rows =>
    unfold rowsD
    simp [PyData.eqv, PyData.eqvAll]
theorem dp_strs {K : PySem.W.Frag} {H : Hp} : ∀ zs : List Str, DpAll K H (zs.map V.str) (zs.map PyData.str)
  | [] => .nil
  | z :: zs => .cons (.str z) (dp_strs zs)
theorem dp_rows {K : PySem.W.Frag} {H : Hp} : ∀ (ps : List Addr) (rows : List SRow), ps.length = rows.length → (∀ (i : Nat) (p : Addr) (r : SRow), ps[i]? = some p → rows[i]? = some r → RowT H p r) → DpAll K H (ps.map V.ref) (rows.map rowD)
  | [], [], _, _ => .nil
  | p :: ps, r :: rows, hl, h => .cons (.tup (SqT.of (h 0 p r rfl rfl)) (.cons (.str _) (.cons (.str _) (.cons (.int _) .nil)))) (dp_rows ps rows (Nat.succ.inj hl) fun i p' r' h1 h2 => h (i + 1) p' r' h1 h2)
  | [], _ :: _, hl, _ => absurd hl (by simp)
  | _ :: _, [], hl, _ => absurd hl (by simp)
theorem dp_sys {K : PySem.W.Frag} {H : Hp} {a : Addr} {rows : List SRow} (h : Sys RowT H a rows) : Dp K H (.ref a) (rowsD rows) := by
  obtain ⟨ps, h1, h2, h3⟩ := h
  exact .lst (SqL.of h1) (dp_rows ps rows h2 h3)
end Lo
namespace Lo
open PySem L2
abbrev sSystem : Stmt := top 51


def pools : List (List Str) := [["a", "b", "c", "d"], ["z", "Z9", "00", " "], ["n", "n1", "m", "long name"], ["x", "xx", "xxx", "y"]]
theorem pools_len : ∀ xs ∈ pools, xs.length = 4 := by decide +kernel
theorem pools_nd : ∀ xs ∈ pools, xs.Nodup := by decide +kernel
theorem pools_ok : ∀ xs ∈ pools, ∀ x ∈ xs, x ≠ ("" : Str) ∧ x ≠ ("0" : Str) ∧ x ≠ ("new" : Str) ∧ x ≠ ("old" : Str) ∧ PyData.strOk x = true := by decide +kernel
section
variable {P : Program} {w : World} {K : PySem.W.Frag} {mg : Str → Option Value} {base : Heap}
/-! ### _law_pool -/
def spPool (K : PySem.W.Frag) : Sp := fun vs H Q _ => ∃ (s : Addr) (at_ : Int), vs = [.ref s, .int at_] ∧ Scr K H s ∧ ∀ H' p xs, Same H H' → H' p = some (.tup (xs.map V.str)) → xs ∈ pools → Q (.ref p) H'
theorem scPool : FnScope ["script", "at"] ["script", "at"] (defScope sPool) := ⟨rfl, rfl, rfl, by decide +kernel, rfl, by decide +kernel, by decide +kernel⟩
theorem ok_pool {f fD : Addr} {fd fdD : FuncData} (F : Fun K "_law_pool" "_law_pool" sPool f fd) (GD : FnOk P w K mg base CX0 1 fD fdD ["script", "at", "many"] (spDraw K)) (kD : PySem.W.keepIn K (.ref fD) = true) (bD : Binds K fdD ["script", "at", "many"] []) (gD : mg "_law_draw" = some (.ref fD)) :
    FnOk P w K mg base CX0 2 f fd ["script", "at"] (spPool K) := by
  refine F.ok scPool (fun vs H Q E h => ?_) (fun cdv A outer s H vs Q E hr h => ?_)
  · obtain ⟨s, a, rfl, _⟩ := h
    rfl
  · obtain ⟨s, a, rfl, hS, q⟩ := h
    refine ⟨_, pss_one (ps_ret (pe_ix ix_tup (pe_tup (pa_cons (pe_tup (pa_cons pe_str (pa_cons pe_str (pa_cons pe_str (pa_cons pe_str pa_nil))))) (pa_cons (pe_tup (pa_cons pe_str (pa_cons pe_str (pa_cons pe_str (pa_cons pe_str pa_nil)))))
      (pa_cons (pe_tup (pa_cons pe_str (pa_cons pe_str (pa_cons pe_str (pa_cons pe_str pa_nil))))) (pa_cons (pe_tup (pa_cons pe_str (pa_cons pe_str (pa_cons pe_str (pa_cons pe_str pa_nil))))) pa_nil)))))
      (pe_call GD hr (by rfl) gD kD bD .nil pass0 (pa_cons (pv 0) (pa_cons (pv 1) (pa_cons pe_int pa_nil)))) (fun _ _ => rfl))), ?_⟩
    refine ⟨by show 4 ≤ sizeLine; decide, fun t0 n0 => ⟨by show 4 ≤ sizeLine; decide, fun t1 n1 => ⟨by show 4 ≤ sizeLine; decide, fun t2 n2 => ⟨by show 4 ≤ sizeLine; decide, fun t3 n3 => ⟨by show 4 ≤ sizeLine; decide, fun tt nt => ?_⟩⟩⟩⟩⟩
    have s0 := same_upd (o := HO.tup ((["a", "b", "c", "d"] : List Str).map V.str)) n0
    have s1 := same_upd (o := HO.tup ((["z", "Z9", "00", " "] : List Str).map V.str)) n1
    have s2 := same_upd (o := HO.tup ((["n", "n1", "m", "long name"] : List Str).map V.str)) n2
    have s3 := same_upd (o := HO.tup ((["x", "xx", "xxx", "y"] : List Str).map V.str)) n3
    have s4 := same_upd (o := HO.tup [V.ref t0, V.ref t1, V.ref t2, V.ref t3]) nt
    have e0 := s4 _ _ (s3 _ _ (s2 _ _ (s1 _ _ (upd_same (H := H) (a := t0) (o := HO.tup ((["a", "b", "c", "d"] : List Str).map V.str))))))
    have e1 := s4 _ _ (s3 _ _ (s2 _ _ (upd_same (a := t1) (o := HO.tup ((["z", "Z9", "00", " "] : List Str).map V.str)))))
    have e2 := s4 _ _ (s3 _ _ (upd_same (a := t2) (o := HO.tup ((["n", "n1", "m", "long name"] : List Str).map V.str))))
    have e3 := s4 _ _ (upd_same (a := t3) (o := HO.tup ((["x", "xx", "xxx", "y"] : List Str).map V.str)))
    have sAll := (((s0.trans s1).trans s2).trans s3).trans s4
    refine ⟨.ref s, rfl, .int a, rfl, s, a, 4, rfl, hS.same sAll, by decide, fun H' k s' h0 h1 => ?_⟩
    have et := s' _ _ (upd_same (a := tt) (o := HO.tup [V.ref t0, V.ref t1, V.ref t2, V.ref t3]))
    have hk : k = ((0 : Nat) : Int) ∨ k = ((1 : Nat) : Int) ∨ k = ((2 : Nat) : Int) ∨ k = ((3 : Nat) : Int) := by omega
    rcases hk with rfl | rfl | rfl | rfl
    · exact ⟨tt, _, _, _, rfl, rfl, SqT.of et, atI_nat rfl, q H' t0 _ (sAll.trans s') (s' _ _ e0) (by decide +kernel)⟩
    · exact ⟨tt, _, _, _, rfl, rfl, SqT.of et, atI_nat rfl, q H' t1 _ (sAll.trans s') (s' _ _ e1) (by decide +kernel)⟩
    · exact ⟨tt, _, _, _, rfl, rfl, SqT.of et, atI_nat rfl, q H' t2 _ (sAll.trans s') (s' _ _ e2) (by decide +kernel)⟩
    · exact ⟨tt, _, _, _, rfl, rfl, SqT.of et, atI_nat rfl, q H' t3 _ (sAll.trans s') (s' _ _ e3) (by decide +kernel)⟩
/-! ### _law_system -/
/-- names that a law draws -/
structure Names (ns : List Str) : Prop where
  two : 2 ≤ ns.length
  few : ns.length ≤ 4
  nd : ns.Nodup
  ok : ∀ x ∈ ns, x ≠ ("" : Str) ∧ x ≠ ("0" : Str) ∧ x ≠ ("new" : Str) ∧ x ≠ ("old" : Str) ∧ PyData.strOk x = true
theorem Names.ends (N : Names ns) : (("0" : Str) :: ns).Nodup ∧ ∀ x ∈ (("0" : Str) :: ns), x ≠ ("" : Str) ∧ x ≠ ("new" : Str) ∧ x ≠ ("old" : Str) ∧ PyData.strOk x = true := by
  refine ⟨List.nodup_cons.mpr ⟨fun h => (N.ok _ h).2.1 rfl, N.nd⟩, fun x hx => ?_⟩
  rcases List.mem_cons.mp hx with h | h
  · subst h
    decide +kernel
  · obtain ⟨a, b, c, d, e⟩ := N.ok x h
    exact ⟨a, c, d, e⟩
/-- its two sides are ends -/
def In2 (ns : List Str) (r : SRow) : Prop := r.1 ∈ (("0" : Str) :: ns) ∧ r.2.1 ∈ (("0" : Str) :: ns)
def spSystem (K : PySem.W.Frag) : Sp := fun vs H Q _ => ∃ (s np : Addr) (at_ most : Int) (ns : List Str), vs = [.ref s, .int at_, .ref np, .int most] ∧ Scr K H s ∧ H np = some (.tup (ns.map V.str)) ∧ Names ns ∧ 0 ≤ most ∧ most ≤ 10 ∧
  ∀ H' p rows, Same H H' → H p = none → Sys RowT H' p rows → Good rows → (rows.length : Int) ≤ most → (∀ r ∈ rows, OkR r ∧ In2 ns r) → Q (.ref p) H'
abbrev nSystem : List Str := ["script", "at", "names", "most", "found", "ends", "scale", "turn", "spot", "one", "other", "limit"]
theorem scSystem : FnScope nSystem ["script", "at", "names", "most"] (defScope sSystem) := ⟨rfl, rfl, rfl, by decide +kernel, rfl, by decide +kernel, by decide +kernel⟩
theorem ok_system {f fD : Addr} {fd fdD : FuncData} (F : Fun K "_law_system" "_law_system" sSystem f fd) (T : Blt mg) (GD : FnOk P w K mg base CX0 1 fD fdD ["script", "at", "many"] (spDraw K)) (kD : PySem.W.keepIn K (.ref fD) = true) (bD : Binds K fdD ["script", "at", "many"] []) (gD : mg "_law_draw" = some (.ref fD)) :
    FnOk P w K mg base CX0 2 f fd ["script", "at", "names", "most"] (spSystem K) := by
  refine F.ok scSystem (fun vs H Q E h => ?_) (fun cdv A outer s H vs Q E hr h => ?_)
  · obtain ⟨s, np, a, m, ns, rfl, _⟩ := h
    rfl
  · obtain ⟨s, np, a, most, ns, rfl, hS, hN, N, hm0, hm1, q⟩ := h
    have nd := scSystem.nd
    refine ⟨_, pss_cons (ps_par (i := 4) (j := 5) rfl nd rfl rfl (by decide) rfl rfl (pa_cons (pe_lst pa_nil) (pa_cons (pe_op op_catT (pe_tup (pa_cons pe_str pa_nil)) (pe_callTy call_tuple_of (by rfl) T.tuple PyProof.Rows.boot_tuple (pa_cons (pv 2) pa_nil))) pa_nil)) (by rfl))
      (pss_cons (ps_set (i := 6) nd rfl (.inl rfl) (pe_ix ix_tup (pe_tup (pa_cons pe_int (pa_cons pe_int (pa_cons pe_int (pa_cons pe_int (pa_cons (pe_op op_pow pe_int pe_int) pa_nil))))))
        (pe_call GD hr (by rfl) gD kD bD .nil pass0 (pa_cons (pv 0) (pa_cons (pv 1) (pa_cons pe_int pa_nil)))) (fun _ _ => rfl)))
      (pss_cons (ps_for PassesOwn.never rfl (pi_range1 (by rfl) T.range (pa_cons (pe_call GD hr (by rfl) gD kD bD .nil pass0 (pa_cons (pv 0) (pa_cons (pe_op op_add (pv 1) pe_int) (pa_cons (pe_op op_add (pv 3) pe_int) pa_nil)))) pa_nil)) (pg_name (i := 7) nd rfl (.inl rfl))
        (pss_cons (ps_set (i := 8) nd rfl (.inl rfl) (pe_op op_add (pe_op op_add (pv 1) pe_int) (pe_op op_mul pe_int (pv 7))))
        (pss_cons (ps_set (i := 9) nd rfl (.inl rfl) (pe_call GD hr (by rfl) gD kD bD .nil pass0 (pa_cons (pv 0) (pa_cons (pv 8) (pa_cons (pe_callB call_len_seq (by rfl) T.len PySem.boot_len (pa_cons (pv 5) pa_nil)) pa_nil)))))
        (pss_cons (ps_set (i := 10) nd rfl (.inl rfl) (pe_op op_modN (pe_callTy call_intI (by rfl) T.int PyProof.Rows.boot_int (pa_cons (pe_op op_add (pe_op op_add (pv 9) pe_int)
            (pe_call GD hr (by rfl) gD kD bD .nil pass0 (pa_cons (pv 0) (pa_cons (pe_op op_add (pv 8) pe_int) (pa_cons (pe_op op_sub (pe_callB call_len_seq (by rfl) T.len PySem.boot_len (pa_cons (pv 5) pa_nil)) pe_int) pa_nil))))) pa_nil))
            (pe_callB call_len_seq (by rfl) T.len PySem.boot_len (pa_cons (pv 5) pa_nil))))
        (pss_cons (ps_set (i := 11) nd rfl (.inl rfl) (pe_op op_sub (pe_call GD hr (by rfl) gD kD bD .nil pass0 (pa_cons (pv 0) (pa_cons (pe_op op_add (pv 8) pe_int) (pa_cons pe_int pa_nil)))) pe_int))
        (pss_cons (ps_if (PW.pt (pw_and (pt_cmpR op_gt (pv 6) pe_int (nomark _)) (pw_and1 (pt_cmpR op_eq (pe_call GD hr (by rfl) gD kD bD .nil pass0 (pa_cons (pv 0) (pa_cons (pe_op op_add (pv 8) pe_int) (pa_cons pe_int pa_nil)))) pe_int (nomark _)))))
          (pss_one (ps_set (i := 11) nd rfl (.inl rfl) (pe_op op_add (pe_op op_mul (pe_op op_sub (pv 11) pe_int) (pv 6)) (pv 11)))) pss_nil)
        (pss_one (ps_expr (pe_bm PySem.F.plainAttrs_list PySem.F.slot_list_append PySem.F.type_list_append mt_append (pv 4)
          (pa_cons (pe_tup (pa_cons (pe_ix ix_tup (pv 5) (pv 9) (fun _ _ => rfl)) (pa_cons (pe_ix ix_tup (pv 5) (pv 10) (fun _ _ => rfl)) (pa_cons (pv 11) pa_nil)))) pa_nil))))))))))
      (pss_one (ps_ret (pv 4))))), ?_⟩
    refine ⟨Nat.zero_le _, fun o no => ⟨by show 1 ≤ sizeLine; decide, fun z nz => ?_⟩⟩
    have sA := same_upd (o := HO.lst []) no
    have sB := same_upd (o := HO.tup [V.str "0"]) nz
    have s2 := sA.trans sB
    have nsne : ns.map V.str ≠ [] := fun e => by
      have := N.two
      cases ns with
      | nil => exact absurd this (by decide)
      | cons x r => exact nomatch e
    refine ⟨.ref np, rfl, np, _, rfl, .inr ⟨SqT.of (s2 _ _ hN), z, np, _, _, rfl, rfl, SqT.of upd_same, SqT.of (s2 _ _ hN), List.cons_ne_nil _ _, ?_, fun e => absurd e nsne, fun _ en nen => ?_⟩⟩
    · rw [List.length_map]
      have := N.few
      exact Nat.le_of_lt (small1000 (by show 1 + ns.length ≤ 1000; omega))
    have sC := same_upd (o := HO.tup ([V.str "0"] ++ ns.map V.str)) nen
    have s3 := s2.trans sC
    obtain ⟨end_nd, end_ok⟩ := N.ends
    have eE : [V.str "0"] ++ ns.map V.str = (("0" : Str) :: ns).map V.str := rfl
    have ho3 := sC _ _ (sB _ _ (upd_same (H := H) (a := o) (o := HO.lst [])))
    have he3 := upd_same (H := upd (upd H o (.lst [])) z (.tup [V.str "0"])) (a := en) (o := HO.tup ([V.str "0"] ++ ns.map V.str))
    generalize upd (upd (upd H o (.lst [])) z (.tup [V.str "0"])) en (.tup ([V.str "0"] ++ ns.map V.str)) = H3 at s3 ho3 he3 ⊢
    rw [eE] at he3
    -- the scale
    refine ⟨_, _, rfl, _, _, rfl, rfl, ⟨by decide, by decide, by decide⟩, by show 5 ≤ sizeLine; decide, fun sc nsc => ?_⟩
    have sD := same_upd (o := HO.tup [V.int 1, V.int 1, V.int 1, V.int 1000, V.int (10 ^ Int.toNat 15)]) nsc
    refine ⟨.ref s, rfl, .int a, rfl, s, a, 5, rfl, hS.same (s3.trans sD), by decide, fun H4 k s4 h0 h1 => ?_⟩
    have et := s4 _ _ (upd_same (H := H3) (a := sc) (o := HO.tup [V.int 1, V.int 1, V.int 1, V.int 1000, V.int (10 ^ Int.toNat 15)]))
    obtain ⟨scale, hat, hs0, hs1⟩ : ∃ scale : Int, atI [V.int 1, V.int 1, V.int 1, V.int 1000, V.int (10 ^ Int.toNat 15)] k = some (.int scale) ∧ -(2 ^ 64) < scale ∧ scale < 2 ^ 64 := by
      have hk : k = ((0 : Nat) : Int) ∨ k = ((1 : Nat) : Int) ∨ k = ((2 : Nat) : Int) ∨ k = ((3 : Nat) : Int) ∨ k = ((4 : Nat) : Int) := by omega
      rcases hk with rfl | rfl | rfl | rfl | rfl
      · exact ⟨1, atI_nat rfl, by decide, by decide⟩
      · exact ⟨1, atI_nat rfl, by decide, by decide⟩
      · exact ⟨1, atI_nat rfl, by decide, by decide⟩
      · exact ⟨1000, atI_nat rfl, by decide, by decide⟩
      · exact ⟨10 ^ Int.toNat 15, atI_nat rfl, by decide, by decide⟩
    refine ⟨sc, _, _, _, rfl, rfl, SqT.of et, hat, ?_⟩
    have s14 := (s3.trans sD).trans s4
    have ho4 := s4 _ _ (sD _ _ ho3)
    have he4 := s4 _ _ (sD _ _ he3)
    refine ⟨.ref s, rfl, .int a, rfl, _, _, rfl, rfl, .int most, rfl, _, _, rfl, rfl, s, _, _, rfl, hS.same s14, by omega, fun H5 turns s5 t0 t1 => ?_⟩
    refine ⟨_, rfl, by omega, by omega, for_range (lo := 0) (fun i σ H' => ∃ (y7 y8 y9 y10 y11 : Option V) (rows : List SRow) (qs : List Addr), σ = [some (.ref s), some (.int a), some (.ref np), some (.int most), some (.ref o), some (.ref en), some (.int scale), y7, y8, y9, y10, y11] ∧ Same H H' ∧
        H' en = some (.tup ((("0" : Str) :: ns).map V.str)) ∧ H' o = some (.lst (qs.map V.ref)) ∧ qs.length = i ∧ rows.length = i ∧ (∀ (j : Nat) (p : Addr) (r : SRow), qs[j]? = some p → rows[j]? = some r → RowT H' p r) ∧ ∀ r ∈ rows, Good1 r ∧ OkR r ∧ In2 ns r)
      ⟨none, none, none, none, none, [], [], rfl, s14.trans s5, s5 _ _ he4, s5 _ _ ho4, rfl, rfl, fun j p r e => (nomatch e), fun r h => absurd h List.not_mem_nil⟩ ?_ ?_⟩
    · rintro i σ H6 hi ⟨y7, y8, y9, y10, y11, rows, qs, rfl, s6, he6, ho6, hq, hrl, hrow, hgood⟩
      have elen : (((("0" : Str) :: ns).map V.str).length : Int) = (ns.length : Int) + 1 := by
        rw [List.length_map]
        rfl
      have l2 := N.two
      have l4 := N.few
      -- spot, one
      refine ⟨.int a, rfl, _, _, rfl, rfl, _, rfl, _, _, rfl, rfl, .inl ⟨by decide, by decide⟩, _, _, rfl, rfl, ?_⟩
      refine ⟨.ref s, rfl, _, rfl, .ref en, rfl, en, _, rfl, .inr (SqT.of he6), s, _, _, rfl, hS.same s6, by rw [elen]; omega, fun H7 one s7 o0 o1 => ?_⟩
      rw [elen] at o1
      have he7 := s7 _ _ he6
      -- other
      refine ⟨.int one, rfl, _, _, rfl, rfl, .ref s, rfl, _, rfl, _, _, rfl, rfl, .ref en, rfl, en, _, rfl, .inr (SqT.of he7), _, _, rfl, rfl, s, _, _, rfl, hS.same (s6.trans s7), by rw [elen]; omega, fun H8 d s8 d0 d1 => ?_⟩
      rw [elen] at d1
      have he8 := s8 _ _ he7
      refine ⟨_, _, rfl, rfl, _, rfl, .ref en, rfl, en, _, rfl, .inr (SqT.of he8), _, _, rfl, rfl, (by rw [elen]; omega), ?_⟩
      rw [elen]
      obtain ⟨z0, z1, z2⟩ := other_ne (o := one) (d := d) (n := (ns.length : Int) + 1) o0 o1 d0 (by omega)
      -- limit
      refine ⟨.ref s, rfl, _, rfl, _, _, rfl, rfl, s, _, 9, rfl, hS.same ((s6.trans s7).trans s8), by decide, fun H9 lim s9 l0 l1 => ?_⟩
      refine ⟨_, _, rfl, rfl, ?_⟩
      have s69 := ((s6.trans s7).trans s8).trans s9
      -- the two ends
      obtain ⟨j1, rfl, hj1⟩ : ∃ j : Nat, one = (j : Nat) ∧ j < (("0" : Str) :: ns).length := ⟨one.toNat, by omega, by rw [List.length_cons]; omega⟩
      obtain ⟨j2, ej2, hj2⟩ : ∃ j : Nat, ((j1 : Int) + 1 + d).fmod ((ns.length : Int) + 1) = (j : Nat) ∧ j < (("0" : Str) :: ns).length :=
        ⟨(((j1 : Int) + 1 + d).fmod ((ns.length : Int) + 1)).toNat, by omega, by rw [List.length_cons]; omega⟩
      rw [ej2] at z2
      dsimp only
      rw [ej2]
      have at1 : atI ((("0" : Str) :: ns).map V.str) (j1 : Nat) = some (.str (("0" : Str) :: ns)[j1]) := atI_nat (by rw [List.getElem?_map, List.getElem?_eq_getElem hj1]; rfl)
      have at2 : atI ((("0" : Str) :: ns).map V.str) (j2 : Nat) = some (.str (("0" : Str) :: ns)[j2]) := atI_nat (by rw [List.getElem?_map, List.getElem?_eq_getElem hj2]; rfl)
      have hne : (("0" : Str) :: ns)[j1] ≠ (("0" : Str) :: ns)[j2] := fun e => z2 (by rw [(List.getElem_inj end_nd).mp e])
      have g1 : ∀ c : Int, Good1 ((("0" : Str) :: ns)[j1], (("0" : Str) :: ns)[j2], c) ∧ OkR ((("0" : Str) :: ns)[j1], (("0" : Str) :: ns)[j2], c) ∧ In2 ns ((("0" : Str) :: ns)[j1], (("0" : Str) :: ns)[j2], c) := fun c => ⟨⟨hne, (end_ok _ (List.getElem_mem hj1)).1, (end_ok _ (List.getElem_mem hj2)).1⟩, ⟨(end_ok _ (List.getElem_mem hj1)).2.2.2, (end_ok _ (List.getElem_mem hj2)).2.2.2⟩, List.getElem_mem hj1, List.getElem_mem hj2⟩
      have fin : ∀ (H' : Hp) (t : Addr) (c : Int) (y : Option V), Same H6 H' → H' t = none → ∃ (y7 y8 y9 y10 y11 : Option V) (rows : List SRow) (qs' : List Addr),
          [some (V.ref s), some (.int a), some (.ref np), some (.int most), some (.ref o), some (.ref en), some (.int scale), some (.int (0 + (i : Int))), some (.int (a + 2 + 4 * (0 + (i : Int)))), some (.int (j1 : Nat)), some (.int (j2 : Nat)), y] = [some (.ref s), some (.int a), some (.ref np), some (.int most), some (.ref o), some (.ref en), some (.int scale), y7, y8, y9, y10, y11] ∧
          Same H (upd (upd H' t (.tup [.str (("0" : Str) :: ns)[j1], .str (("0" : Str) :: ns)[j2], .int c])) o (.lst (qs.map V.ref ++ [.ref t]))) ∧
          upd (upd H' t (.tup [.str (("0" : Str) :: ns)[j1], .str (("0" : Str) :: ns)[j2], .int c])) o (.lst (qs.map V.ref ++ [.ref t])) en = some (.tup ((("0" : Str) :: ns).map V.str)) ∧
          upd (upd H' t (.tup [.str (("0" : Str) :: ns)[j1], .str (("0" : Str) :: ns)[j2], .int c])) o (.lst (qs.map V.ref ++ [.ref t])) o = some (.lst (qs'.map V.ref)) ∧ qs'.length = i + 1 ∧ rows.length = i + 1 ∧
          (∀ (j : Nat) (p : Addr) (r : SRow), qs'[j]? = some p → rows[j]? = some r → RowT (upd (upd H' t (.tup [.str (("0" : Str) :: ns)[j1], .str (("0" : Str) :: ns)[j2], .int c])) o (.lst (qs.map V.ref ++ [.ref t]))) p r) ∧ ∀ r ∈ rows, Good1 r ∧ OkR r ∧ In2 ns r := by
        intro H' t c y s' nt
        have sT := same_upd (o := HO.tup [.str (("0" : Str) :: ns)[j1], .str (("0" : Str) :: ns)[j2], .int c]) nt
        have ho' := sT _ _ (s' _ _ ho6)
        have keep : ∀ (b : Addr) (xs : List V), upd H' t (.tup [.str (("0" : Str) :: ns)[j1], .str (("0" : Str) :: ns)[j2], .int c]) b = some (.tup xs) → upd (upd H' t (.tup [.str (("0" : Str) :: ns)[j1], .str (("0" : Str) :: ns)[j2], .int c])) o (.lst (qs.map V.ref ++ [.ref t])) b = some (.tup xs) := fun b xs e => by
          rw [upd_ne (ne_of e ho' (by intro z; cases z))]
          exact e
        refine ⟨_, _, _, _, _, rows ++ [((("0" : Str) :: ns)[j1], (("0" : Str) :: ns)[j2], c)], qs ++ [t], rfl, ((s6.trans s').trans sT).later no, keep _ _ (sT _ _ (s' _ _ he6)), by rw [upd_same, List.map_append]; rfl, by rw [List.length_append, hq]; rfl, by rw [List.length_append, hrl]; rfl, fun j p r hp hr' => ?_, fun r hr' => ?_⟩
        · by_cases k : j < i
          · rw [List.getElem?_append_left (by omega)] at hp hr'
            exact keep _ _ (sT _ _ (s' _ _ (hrow j p r hp hr')))
          · have hj2 : j = i := by
              have := (List.getElem?_eq_some_iff.mp hp).1
              rw [List.length_append, List.length_singleton] at this
              omega
            subst hj2
            rw [List.getElem?_append_right (by omega), hq, Nat.sub_self] at hp
            rw [List.getElem?_append_right (by omega), hrl, Nat.sub_self] at hr'
            have e1 : t = p := Option.some.inj hp
            have e2 := Option.some.inj hr'
            subst e1 e2
            exact keep _ _ upd_same
        · rcases List.mem_append.mp hr' with h | h
          · exact hgood r h
          · rw [List.mem_singleton] at h
            subst h
            exact g1 c
      have hsz : (qs.map V.ref).length < sizeLine := by
        rw [List.length_map, hq]
        exact small1000 (by omega)
      have ho9 := s9 _ _ (s8 _ _ (s7 _ _ ho6))
      have he9 := s9 _ _ he8
      have s39 := (s7.trans s8).trans s9
      refine ⟨_, rfl, _, _, rfl, rfl, _, rfl, ite2 (fun _ => ?_) (fun _ => ?_)⟩
      · refine ⟨.ref s, rfl, _, rfl, _, _, rfl, rfl, s, _, 2, rfl, hS.same s69, by decide, fun H10 k2 s10 _ _ => ?_⟩
        have ho10 := s10 _ _ ho9
        have he10 := s10 _ _ he9
        refine ⟨rfl, _, rfl, ite2 (fun _ => ?_) (fun _ => ?_)⟩
        · refine ⟨_, rfl, _, _, rfl, rfl, _, rfl, _, _, rfl, rfl, .inr ⟨hs0, hs1⟩, _, rfl, _, _, rfl, rfl, ?_⟩
          refine ⟨.ref o, rfl, .inl ⟨rfl, _, SqL.of ho10⟩, .ref en, rfl, _, rfl, en, _, _, _, rfl, rfl, SqT.of he10, at1, .ref en, rfl, _, rfl, en, _, _, _, rfl, rfl, SqT.of he10, at2, _, rfl, by show 3 ≤ sizeLine; decide, fun t nt => ?_⟩
          exact ⟨o, _, _, rfl, rfl, same_upd nt _ _ ho10, hsz, fin H10 t _ _ (s39.trans s10) nt⟩
        · refine ⟨.ref o, rfl, .inl ⟨rfl, _, SqL.of ho10⟩, .ref en, rfl, _, rfl, en, _, _, _, rfl, rfl, SqT.of he10, at1, .ref en, rfl, _, rfl, en, _, _, _, rfl, rfl, SqT.of he10, at2, _, rfl, by show 3 ≤ sizeLine; decide, fun t nt => ?_⟩
          exact ⟨o, _, _, rfl, rfl, same_upd nt _ _ ho10, hsz, fin H10 t _ _ (s39.trans s10) nt⟩
      · refine iteF ?_
        refine ⟨.ref o, rfl, .inl ⟨rfl, _, SqL.of ho9⟩, .ref en, rfl, _, rfl, en, _, _, _, rfl, rfl, SqT.of he9, at1, .ref en, rfl, _, rfl, en, _, _, _, rfl, rfl, SqT.of he9, at2, _, rfl, by show 3 ≤ sizeLine; decide, fun t nt => ?_⟩
        exact ⟨o, _, _, rfl, rfl, same_upd nt _ _ ho9, hsz, fin H9 t _ _ s39 nt⟩
    · rintro σ H6 ⟨y7, y8, y9, y10, y11, rows, qs, rfl, s6, he6, ho6, hq, hrl, hrow, hgood⟩
      refine ⟨.ref o, rfl, q H6 o rows s6 no ⟨qs, ho6, by omega, hrow⟩ ⟨fun r h => (hgood r h).1, by omega⟩ (by omega) fun r h => (hgood r h).2⟩
end
end Lo
namespace Lo
open PySem L2
structure Blt2 (mg : Str → Option Value) : Prop where
  sorted : mg "sorted" = none
  set : mg "set" = none
  sum : mg "sum" = none
  dict : mg "dict" = none
/-! ### _law_names_of -/
/-- names without the number -/
def noZ (ks : List Str) : List Str := ks.filter fun x => decide (x ≠ ("0" : Str))
theorem noZ_add (ks : List Str) (x : Str) : noZ (addN ks x) = if x = ("0" : Str) then noZ ks else addN (noZ ks) x := by
  unfold addN noZ
  by_cases z : x = ("0" : Str)
  · rw [if_pos z]
    split
    · rfl
    · rw [List.filter_append, List.filter_cons, if_neg (by rw [decide_eq_true_eq]; exact fun n => n z), List.filter_nil, List.append_nil]
  · rw [if_neg z]
    by_cases m : x ∈ ks
    · rw [if_pos m, if_pos (List.mem_filter.mpr ⟨m, decide_eq_true z⟩)]
    · rw [if_neg m, if_neg (fun h => m (List.mem_filter.mp h).1), List.filter_append, List.filter_cons, if_pos (decide_eq_true z), List.filter_nil]
theorem inV_strs (x : Str) : ∀ zs : List Str, inV (.str x) (zs.map V.str) = decide (x ∈ zs)
  | [] => by simp [inV]
  | z :: zs => by
    have ih := inV_strs x zs
    unfold inV at ih ⊢
    rw [List.map_cons, List.any_cons, ih]
    show ((z == x) || decide (x ∈ zs)) = decide (x ∈ z :: zs)
    by_cases e : z = x
    · subst e
      simp
    · have e' : ¬ x = z := fun q => e q.symm
      simp [e, e']
theorem flat_all (zs : List Str) : (zs.map V.str).all flatV = true := by
  rw [List.all_eq_true]
  intro v hv
  obtain ⟨z, _, rfl⟩ := List.mem_map.mp hv
  rfl
theorem ne_dec (x y : Str) : (!decide (V.str x = V.str y)) = decide (x ≠ y) := by
  by_cases e : x = y
  · subst e
    simp
  · rw [decide_eq_false fun q => e (V.str.inj q), decide_eq_true e]
    rfl
end Lo
/-! The last causes of the sums lead back to the left side: a chain of the least sum. -/
namespace Lo
section
variable {α : Type} [DecidableEq α]
/-- from x back along the last causes -/
inductive Cway (rows : List (Row α)) (left : α) (cs : List α) (cz : α → Nat) : α → List Nat → Prop
  | here : Cway rows left cs cz left []
  | step {x a : α} {c : Int} {l : List Nat} : x ≠ left → x ∈ cs → rows[cz x]? = some (a, x, c) → Cway rows left cs cz a l → Cway rows left cs cz x (cz x :: l)
/-- a chain of rows by their places -/
inductive Path (rows : List (Row α)) : α → List Nat → α → Int → Prop
  | nil (a : α) : Path rows a [] a 0
  | cons {a m b : α} {j : Nat} {c s : Int} {l : List Nat} : rows[j]? = some (a, m, c) → Path rows m l b s → Path rows a (j :: l) b (c + s)
variable {rows : List (Row α)} {left : α} {ss cs : List α} {sv : α → Int} {cz : α → Nat}
theorem Path.snoc {a m x : α} {l : List Nat} {s c : Int} {j : Nat} (h : Path rows a l m s) (hj : rows[j]? = some (m, x, c)) : Path rows a (l ++ [j]) x (s + c) := by
  induction h with
  | nil a =>
    have q : Path rows a [j] x (c + 0) := .cons hj (.nil x)
    have e : (0 : Int) + c = c + 0 := by omega
    rw [e]
    exact q
  | @cons a m' b j' c' s' l' h1 h2 ih =>
    have q := Path.cons h1 (ih hj)
    have e : c' + s' + c = c' + (s' + c) := by omega
    rw [e]
    exact q
theorem Cway.fn {x : α} {l : List Nat} (h : Cway rows left cs cz x l) : ∀ {l' : List Nat}, Cway rows left cs cz x l' → l = l' := by
  induction h with
  | here =>
    intro l' h'
    cases h' with
    | here => rfl
    | step n => exact absurd rfl n
  | @step x a c l n hc hr h ih =>
    intro l' h'
    cases h' with
    | here => exact absurd rfl n
    | @step _ a' c' l'' n' hc' hr' h' =>
      rw [hr] at hr'
      injection hr' with e
      injection e with e1 e2
      subst e1
      rw [ih h']
theorem Cway.under {x : α} {l : List Nat} (h : Cway rows left cs cz x l) : ∀ j ∈ l, ∃ (z a : α) (c : Int) (l' : List Nat), rows[j]? = some (a, z, c) ∧ Cway rows left cs cz z l' ∧ l'.length ≤ l.length := by
  induction h with
  | here => exact fun j hj => absurd hj List.not_mem_nil
  | @step x a c l n hc hr h ih =>
    intro j hj
    rcases List.mem_cons.mp hj with e | e
    · subst e
      exact ⟨x, a, c, _, hr, .step n hc hr h, Nat.le_refl _⟩
    · obtain ⟨z, a', c', l', h1, h2, h3⟩ := ih j e
      exact ⟨z, a', c', l', h1, h2, by rw [List.length_cons]; omega⟩
theorem Cway.nodup {x : α} {l : List Nat} (h : Cway rows left cs cz x l) : l.Nodup := by
  induction h with
  | here => exact List.nodup_nil
  | @step x a c l n hc hr h ih =>
    refine List.nodup_cons.mpr ⟨fun m => ?_, ih⟩
    obtain ⟨z, a', c', l', h1, h2, h3⟩ := h.under _ m
    rw [hr] at h1
    injection h1 with e
    injection e with _ e
    injection e with e _
    subst e
    have := (Cway.step n hc hr h).fn h2
    rw [← this, List.length_cons] at h3
    omega
theorem Cway.lt {x : α} {l : List Nat} (h : Cway rows left cs cz x l) : ∀ j ∈ l, j < rows.length := fun j hj => by
  obtain ⟨_, _, _, _, h1, _⟩ := h.under j hj
  exact (List.getElem?_eq_some_iff.mp h1).1
/-- the sums with their last causes -/
structure SW (rows : List (Row α)) (left : α) (ss : List α) (sv : α → Int) (cs : List α) (cz : α → Nat) : Prop extends Sums rows left ss sv where
  way : ∀ x ∈ ss, ∃ l, Cway rows left cs cz x l
  cau : ∀ x ∈ ss, x ≠ left → ∀ (a : α) (c : Int), rows[cz x]? = some (a, x, c) → a ∈ ss ∧ sv a + c ≤ sv x
theorem Sums.zero (S : Sums rows left ss sv) {v : α → Int} (hv : Sat rows v) : sv left = 0 := by
  have h1 := S.low
  have h2 := S.sound left S.has v hv
  omega
/-- a name on the way to x, when its sum is lowered from x: none -/
theorem SW.past (S : SW rows left ss sv cs cz) {v : α → Int} (hv : Sat rows v) {b : α} {j : Nat} {x : α} {l : List Nat} (h : Cway rows left cs cz x l) (hx : x ∈ ss) (hb : b ≠ left) :
    (∃ l', Cway rows left (addN cs b) (put cz b j) x l') ∨ (b ∈ ss ∧ sv b + v b ≤ sv x + v x) := by
  induction h with
  | here => exact .inl ⟨[], .here⟩
  | @step x a c l n hc hr h ih =>
    by_cases k : x = b
    · subst k
      exact .inr ⟨hx, Int.le_refl _⟩
    · obtain ⟨h1, h2⟩ := S.cau x hx n a c hr
      have h3 := hv _ (List.mem_of_getElem? hr)
      simp only at h3
      rcases ih h1 with ⟨l', q⟩ | ⟨q1, q2⟩
      · refine .inl ⟨_, Cway.step (c := c) n (mem_addN.mpr (.inl hc)) ?_ q⟩
        rw [put_off k]
        exact hr
      · exact .inr ⟨q1, by omega⟩
theorem Cway.moved {b : α} {j : Nat} {lb : List Nat} (B : Cway rows left (addN cs b) (put cz b j) b lb) {x : α} {l : List Nat} (h : Cway rows left cs cz x l) : ∃ l', Cway rows left (addN cs b) (put cz b j) x l' := by
  induction h with
  | here => exact ⟨[], .here⟩
  | @step x a c l n hc hr h ih =>
    by_cases k : x = b
    · subst k
      exact ⟨_, B⟩
    · obtain ⟨l', q⟩ := ih
      refine ⟨_, Cway.step (c := c) n (mem_addN.mpr (.inl hc)) ?_ q⟩
      rw [put_off k]
      exact hr
theorem SW.step (S : SW rows left ss sv cs cz) {v : α → Int} (hv : Sat rows v) {a b : α} {c : Int} {j : Nat} (hr : rows[j]? = some (a, b, c)) (nab : a ≠ b) (ha : a ∈ ss) (h : b ∈ ss → sv a + c < sv b) :
    SW rows left (addN ss b) (put sv b (sv a + c)) (addN cs b) (put cz b j) := by
  have hm := List.mem_of_getElem? hr
  have T := S.toSums.step hm ha h
  have z := S.toSums.zero hv
  have hb : b ≠ left := fun e => by
    subst e
    have h1 := h S.has
    have h2 := S.sound a ha v hv
    have h3 := hv _ hm
    simp only at h3
    omega
  obtain ⟨la, wa⟩ := S.way a ha
  have hab : ∃ l', Cway rows left (addN cs b) (put cz b j) a l' := by
    rcases S.past hv (b := b) (j := j) wa ha hb with q | ⟨q1, q2⟩
    · exact q
    · have h1 := h q1
      have h3 := hv _ hm
      simp only at h3
      omega
  obtain ⟨la', wa'⟩ := hab
  have B : Cway rows left (addN cs b) (put cz b j) b (put cz b j b :: la') := by
    refine .step (c := c) hb (mem_addN.mpr (.inr rfl)) ?_ wa'
    rw [put_at]
    exact hr
  refine { T with way := fun x hx => ?_, cau := fun x hx nx a' c' hr' => ?_ }
  · by_cases k : x = b
    · subst k
      exact ⟨_, B⟩
    · obtain ⟨l, w⟩ := S.way x ((mem_addN.mp hx).resolve_right k)
      exact B.moved w
  · by_cases k : x = b
    · subst k
      rw [put_at, hr] at hr'
      injection hr' with e
      injection e with e1 e
      injection e with _ e2
      subst e1 e2
      refine ⟨mem_addN.mpr (.inl ha), ?_⟩
      rw [put_at, put_off nab]
      exact Int.le_refl _
    · rw [put_off k] at hr'
      obtain ⟨h1, h2⟩ := S.cau x ((mem_addN.mp hx).resolve_right k) nx a' c' hr'
      refine ⟨mem_addN.mpr (.inl h1), ?_⟩
      rw [put_off k]
      by_cases m : a' = b
      · subst m
        rw [put_at]
        have := h h1
        omega
      · rw [put_off m]
        exact h2
theorem SW.start (rows : List (Row α)) (left : α) (sv : α → Int) (cz : α → Nat) (h : sv left = 0) : SW rows left [left] sv [] cz := by
  refine { Sums.start rows left sv h with way := fun x hx => ?_, cau := fun x hx nx => absurd (List.mem_singleton.mp hx) nx }
  rw [List.mem_singleton] at hx
  subst hx
  exact ⟨[], .here⟩
theorem SW.path (S : SW rows left ss sv cs cz) (hd : ∀ a ∈ ss, Done rows ss sv a) (z : sv left = 0) {x : α} {l : List Nat} (h : Cway rows left cs cz x l) (hx : x ∈ ss) : Path rows left l.reverse x (sv x) := by
  induction h with
  | here =>
    rw [z]
    exact .nil left
  | @step x a c l n hc hr h ih =>
    obtain ⟨h1, h2⟩ := S.cau x hx n a c hr
    have h3 := (hd a h1 _ (List.mem_of_getElem? hr) rfl).2
    simp only at h3
    have e : sv x = sv a + c := by omega
    rw [List.reverse_cons, e]
    exact (ih h1).snoc hr
/-- the chain that is read off -/
def Chain (rows : List (Row α)) (left right : α) (k : Int) (l : List Nat) : Prop := l.Nodup ∧ (∀ j ∈ l, j < rows.length) ∧ Path rows left l.reverse right k
theorem SW.chain (S : SW rows left ss sv cs cz) (hd : ∀ a ∈ ss, Done rows ss sv a) {v : α → Int} (hv : Sat rows v) {right : α} (hr : right ∈ ss) :
    ∃ l, Cway rows left cs cz right l ∧ Chain rows left right (sv right) l := by
  obtain ⟨l, w⟩ := S.way right hr
  exact ⟨l, w, w.nodup, w.lt, S.path hd (S.toSums.zero hv) w hr⟩
/-- the sides alike: nothing between them -/
theorem best_self {v : α → Int} (hv : Sat rows v) {b : Option Int} (B : Best rows left left b) : b = some 0 := by
  cases b with
  | none => exact absurd (fun u _ => by omega) (B.2 0 fun k e => nomatch e)
  | some k =>
    have h1 := B.1 k rfl v hv
    by_cases h : 0 < k
    · exact absurd (fun u _ => by omega) (B.2 0 fun k' e => by injection e with e; omega)
    · have : k = 0 := by omega
      rw [this]
/-- no greatest value: there are solutions as far as one wishes -/
theorem best_far {right : α} (B : Best rows left right none) (n : Int) : ∃ u, Sat (rows ++ [(right, left, 0 - n)]) u := by
  have h := B.2 n fun k e => nomatch e
  have : ∃ u, Sat rows u ∧ ¬ u left - u right ≤ n := Classical.byContradiction fun k => h fun u hu => Classical.byContradiction fun j => k ⟨u, hu, j⟩
  obtain ⟨u, h1, h2⟩ := this
  refine ⟨u, fun r hr => ?_⟩
  rcases List.mem_append.mp hr with q | q
  · exact h1 r q
  · rw [List.mem_singleton] at q
    subst q
    show u right - u left ≤ 0 - n
    omega
theorem best_near {right : α} {n : Int} (B : Best rows left right (some n)) : ∃ u, Sat (rows ++ [(right, left, 0 - n)]) u := by
  have h := B.2 (n - 1) fun k e => by injection e with e; omega
  have : ∃ u, Sat rows u ∧ ¬ u left - u right ≤ n - 1 := Classical.byContradiction fun k => h fun u hu => Classical.byContradiction fun j => k ⟨u, hu, j⟩
  obtain ⟨u, h1, h2⟩ := this
  refine ⟨u, fun r hr => ?_⟩
  rcases List.mem_append.mp hr with q | q
  · exact h1 r q
  · rw [List.mem_singleton] at q
    subst q
    show u right - u left ≤ 0 - n
    omega
theorem best_beyond {right : α} {n : Int} (B : Best rows left right (some n)) (u : α → Int) : ¬ Sat (rows ++ [(right, left, 0 - n - 1)]) u := fun h => told_denied.mp ⟨u, h⟩ (B.1 n rfl)
end
end Lo
/-! The greatest values of a system as one function; one more row. -/
namespace Lo
section
variable {α : Type} [DecidableEq α]
variable {rows : List (Row α)} {v : α → Int}
theorem told_trans {a b c : α} {x y : Int} (h : Told rows a b x) (k : Told rows b c y) : Told rows a c (x + y) := fun u hu => by
  have h1 := h u hu
  have h2 := k u hu
  omega
theorem told_le {a b : α} {x y : Int} (h : Told rows a b x) (k : x ≤ y) : Told rows a b y := fun u hu => by
  have := h u hu
  omega
theorem best_one {a b : α} {r r' : Option Int} (h : Best rows a b r) (k : Best rows a b r') : r = r' := by
  cases r with
  | none =>
    cases r' with
    | none => rfl
    | some y => exact absurd (k.1 y rfl) (h.2 y fun z e => nomatch e)
  | some x =>
    cases r' with
    | none => exact absurd (h.1 x rfl) (k.2 x fun z e => nomatch e)
    | some y =>
      have h1 : ¬ x < y := fun l => k.2 x (fun z e => by injection e with e; omega) (h.1 x rfl)
      have h2 : ¬ y < x := fun l => h.2 y (fun z e => by injection e with e; omega) (k.1 y rfl)
      have : x = y := by omega
      rw [this]
/-- a least integer with a property that none below a bound has -/
theorem least_int {p : Int → Prop} (lo : Int) (h : ∀ n, p n → lo ≤ n) {n : Int} (hn : p n) : ∃ m, p m ∧ ∀ n, p n → m ≤ n := by
  have key : ∀ d : Nat, ∀ n, p n → n - lo ≤ d → ∃ m, p m ∧ ∀ n, p n → m ≤ n := by
    intro d
    induction d with
    | zero =>
      intro n hn hd
      exact ⟨n, hn, fun k hk => by have := h k hk; have := h n hn; omega⟩
    | succ d ih =>
      intro n hn hd
      by_cases e : ∃ k, p k ∧ k < n
      · obtain ⟨k, hk, hlt⟩ := e
        exact ih k hk (by omega)
      · exact ⟨n, hn, fun k hk => by
          have : ¬ k < n := fun z => e ⟨k, hk, z⟩
          omega⟩
  exact key (n - lo).toNat n hn (by have := h n hn; omega)
theorem best_is (hv : Sat rows v) (a b : α) : ∃ r, Best rows a b r := by
  by_cases h : ∃ n, Told rows a b n
  · obtain ⟨n, hn⟩ := h
    obtain ⟨m, hm, hle⟩ := least_int (p := Told rows a b) (v a - v b) (fun n t => t v hv) hn
    refine ⟨some m, fun k e => by injection e with e; exact e ▸ hm, fun n hlt t => ?_⟩
    have h1 := hlt m rfl
    have h2 := hle n t
    omega
  · exact ⟨none, fun k e => (nomatch e), fun n _ t => h ⟨n, t⟩⟩
open Classical in
/-- the greatest value of a minus b -/
noncomputable def D (rows : List (Row α)) (a b : α) : Option Int := if h : ∃ r, Best rows a b r then Classical.choose h else none
theorem d_best (hv : Sat rows v) (a b : α) : Best rows a b (D rows a b) := by
  have h := best_is hv a b
  unfold D
  rw [dif_pos h]
  exact Classical.choose_spec h
theorem d_of (hv : Sat rows v) {a b : α} {r : Option Int} (h : Best rows a b r) : D rows a b = r := best_one (d_best hv a b) h
theorem d_self (hv : Sat rows v) (a : α) : D rows a a = some 0 := best_self hv (d_best hv a a)
theorem d_told (hv : Sat rows v) {a b : α} {x : Int} (h : D rows a b = some x) : Told rows a b x := (d_best hv a b).1 x h
theorem told_d (hv : Sat rows v) {a b : α} {x : Int} (h : Told rows a b x) : ∃ y, D rows a b = some y ∧ y ≤ x := by
  have B := d_best hv a b
  cases e : D rows a b with
  | none =>
    rw [e] at B
    exact absurd h (B.2 x fun k z => nomatch z)
  | some y =>
    rw [e] at B
    refine ⟨y, rfl, ?_⟩
    have : ¬ x < y := fun l => B.2 x (fun k z => by injection z with z; omega) h
    omega
theorem d_tri (hv : Sat rows v) {a b c : α} {x y : Int} (h : D rows a b = some x) (k : D rows b c = some y) : ∃ z, D rows a c = some z ∧ z ≤ x + y := told_d hv (told_trans (d_told hv h) (d_told hv k))
theorem d_back (hv : Sat rows v) {a b : α} {x y : Int} (h : D rows a b = some x) (k : D rows b a = some y) : 0 ≤ x + y := by
  obtain ⟨z, e, hz⟩ := d_tri hv h k
  rw [d_self hv] at e
  injection e with e
  omega
theorem d_row (hv : Sat rows v) {a b : α} {c : Int} (h : (a, b, c) ∈ rows) : ∃ x, D rows a b = some x ∧ x ≤ c := told_d hv (told_own h)
/-- sums that are sound and closed under the rows are the greatest values -/
theorem closed_best {a : α} {f : α → Option Int} (fa : f a = some 0) (snd : ∀ y k, f y = some k → Told rows a y k) (cl : ∀ r ∈ rows, ∀ k, f r.1 = some k → ∃ k', f r.2.1 = some k' ∧ k' ≤ k + r.2.2) (hv : Sat rows v) (y : α) : Best rows a y (f y) := by
  refine ⟨fun k e => snd y k e, fun n hn t => ?_⟩
  have hu : Sat rows (fun x => match f x with | some k => -k | none => v x - ((((rows.map fun r => (v r.1 + (f r.2.1).getD 0 - r.2.2).natAbs).sum : Nat) : Int) + ((n + 1 + v y).natAbs : Int))) := by
    intro r hr
    have hb : v r.1 + (f r.2.1).getD 0 - r.2.2 ≤ _ := big_le (fun r => v r.1 + (f r.2.1).getD 0 - r.2.2) hr
    have hs := hv r hr
    cases e1 : f r.1 with
    | some k =>
      obtain ⟨k', e2, hle⟩ := cl r hr k e1
      simp only [e1, e2]
      omega
    | none =>
      cases e2 : f r.2.1 with
      | some k' =>
        simp only [e1, e2]
        rw [e2] at hb
        simp only [Option.getD_some] at hb
        omega
      | none =>
        simp only [e1, e2]
        omega
  have h1 := t _ hu
  simp only [fa] at h1
  cases e : f y with
  | some k =>
    simp only [e] at h1
    have := hn k e
    omega
  | none =>
    simp only [e] at h1
    omega
/-- a side that no row has -/
theorem d_alone (hv : Sat rows v) {a : α} (h : ∀ r ∈ rows, r.1 ≠ a) (y : α) : D rows a y = if y = a then some 0 else none := by
  refine d_of hv (closed_best (f := fun y => if y = a then some 0 else none) (if_pos rfl) (fun y k e => ?_) (fun r hr k e => ?_) hv y)
  · by_cases z : y = a
    · subst z
      simp only [if_true] at e
      injection e with e
      subst e
      intro u hu
      omega
    · simp only [if_neg z] at e
      cases e
  · simp only [if_neg (h r hr)] at e
    cases e
/-- the lesser one -/
def minO : Option Int → Option Int → Option Int
  | some x, some y => some (if y < x then y else x)
  | some x, none => some x
  | none, y => y
def addO (x : Option Int) (c : Int) (y : Option Int) : Option Int := match x, y with
  | some a, some b => some (a + c + b)
  | _, _ => none
theorem minO_le {x y : Option Int} {k : Int} (h : x = some k) : ∃ m, minO x y = some m ∧ m ≤ k := by
  subst h
  cases y with
  | none => exact ⟨k, rfl, Int.le_refl _⟩
  | some b =>
    refine ⟨_, rfl, ?_⟩
    split
    · omega
    · omega
theorem minO_le2 {x y : Option Int} {k : Int} (h : y = some k) : ∃ m, minO x y = some m ∧ m ≤ k := by
  subst h
  cases x with
  | none => exact ⟨k, rfl, Int.le_refl _⟩
  | some b =>
    refine ⟨_, rfl, ?_⟩
    split
    · omega
    · omega
theorem minO_or {x y : Option Int} {k : Int} (h : minO x y = some k) : x = some k ∨ y = some k := by
  cases x with
  | none => exact .inr h
  | some a =>
    cases y with
    | none => exact .inl h
    | some b =>
      have h' : some (if b < a then b else a) = some k := h
      injection h' with h'
      by_cases l : b < a
      · rw [if_pos l] at h'
        exact .inr (by rw [h'])
      · rw [if_neg l] at h'
        exact .inl (by rw [h'])
/-- one more row: is there a solution still? -/
theorem more_sat (hv : Sat rows v) {l r : α} {c : Int} (h : ∀ b, D rows r l = some b → 0 ≤ b + c) : ∃ u, Sat (rows ++ [(l, r, c)]) u := by
  have B := d_best hv r l
  have hn : ¬ Told rows r l (-c - 1) := fun t => by
    obtain ⟨y, e, hy⟩ := told_d hv t
    have := h y e
    omega
  have : ∃ u, Sat rows u ∧ ¬ u r - u l ≤ -c - 1 := Classical.byContradiction fun k => hn fun u hu => Classical.byContradiction fun j => k ⟨u, hu, j⟩
  obtain ⟨u, h1, h2⟩ := this
  refine ⟨u, fun q hq => ?_⟩
  rcases List.mem_append.mp hq with m | m
  · exact h1 q m
  · rw [List.mem_singleton] at m
    subst m
    show u l - u r ≤ c
    omega
theorem more_none (hv : Sat rows v) {l r : α} {c b : Int} (h : D rows r l = some b) (hb : b + c < 0) (u : α → Int) : ¬ Sat (rows ++ [(l, r, c)]) u := fun hu => by
  have h1 := d_told hv h u fun q hq => hu q (List.mem_append_left _ hq)
  have h2 := hu (l, r, c) (List.mem_append_right _ (List.mem_singleton.mpr rfl))
  simp only at h2
  omega
theorem sub_sat {q : Row α} {u : α → Int} (h : Sat (rows ++ [q]) u) : Sat rows u := fun r hr => h r (List.mem_append_left _ hr)
/-- one more row: the greatest values -/
theorem more_d (hv : Sat rows v) {l r : α} {c : Int} {u : α → Int} (hu : Sat (rows ++ [(l, r, c)]) u) (a y : α) : D (rows ++ [(l, r, c)]) a y = minO (D rows a y) (addO (D rows a l) c (D rows r y)) := by
  have new : Told (rows ++ [(l, r, c)]) l r c := told_own (List.mem_append_right _ (List.mem_singleton.mpr rfl))
  have up : ∀ {a b : α} {x : Int}, D rows a b = some x → Told (rows ++ [(l, r, c)]) a b x := fun e w hw => d_told hv e w (sub_sat hw)
  have nn : ∀ b, D rows r l = some b → 0 ≤ b + c := fun b e => by
    have : ¬ b + c < 0 := fun z => more_none hv e z u hu
    omega
  have cyc : ∀ {a : α} {x y : Int}, D rows a l = some x → D rows r a = some y → 0 ≤ x + c + y := fun {a x y} h1 h2 => by
    obtain ⟨z, e, hz⟩ := d_tri hv h2 h1
    have := nn z e
    omega
  refine d_of hu (closed_best (a := a) (f := fun y => minO (D rows a y) (addO (D rows a l) c (D rows r y))) ?_ (fun y k e => ?_) (fun q hq k e => ?_) hu y)
  · show minO (D rows a a) (addO (D rows a l) c (D rows r a)) = some 0
    rw [d_self hv]
    cases e1 : D rows a l with
    | none => rfl
    | some x =>
      cases e2 : D rows r a with
      | none => rfl
      | some y =>
        have := cyc e1 e2
        show some (if x + c + y < 0 then x + c + y else 0) = some 0
        rw [if_neg (by omega)]
  · rcases minO_or e with e | e
    · exact up e
    · cases e1 : D rows a l with
      | none =>
        rw [e1] at e
        cases e
      | some x =>
        cases e2 : D rows r y with
        | none =>
          rw [e1, e2] at e
          cases e
        | some z =>
          rw [e1, e2] at e
          have e : some (x + c + z) = some k := e
          injection e with e
          subst e
          exact told_trans (told_trans (up e1) new) (up e2)
  · rcases List.mem_append.mp hq with m | m
    · obtain ⟨x, ex, hx⟩ := d_row hv (show (q.1, q.2.1, q.2.2) ∈ rows from m)
      rcases minO_or e with e | e
      · obtain ⟨z, ez, hz⟩ := d_tri hv e ex
        obtain ⟨m', em, hm⟩ := minO_le (y := addO (D rows a l) c (D rows r q.2.1)) ez
        exact ⟨m', em, by omega⟩
      · cases e1 : D rows a l with
        | none =>
          rw [e1] at e
          cases e
        | some x1 =>
          cases e2 : D rows r q.1 with
          | none =>
            rw [e1, e2] at e
            cases e
          | some x2 =>
            rw [e1, e2] at e
            have e : some (x1 + c + x2) = some k := e
            injection e with e
            obtain ⟨z, ez, hz⟩ := d_tri hv e2 ex
            obtain ⟨m', em, hm⟩ := minO_le2 (x := D rows a q.2.1) (y := addO (D rows a l) c (D rows r q.2.1)) (k := x1 + c + z) (by rw [e1, ez]; rfl)
            exact ⟨m', by rw [e1] at em; exact em, by omega⟩
    · rw [List.mem_singleton] at m
      subst m
      obtain ⟨m', em, hm⟩ : ∃ m', minO (D rows a r) (addO (D rows a l) c (D rows r r)) = some m' ∧ m' ≤ k + c := by
        have hl : ∃ x, D rows a l = some x ∧ x ≤ k := by
          rcases minO_or e with e | e
          · exact ⟨k, e, Int.le_refl _⟩
          · cases e1 : D rows a l with
            | none =>
              rw [e1] at e
              cases e
            | some x1 =>
              cases e2 : D rows r l with
              | none =>
                rw [e1, e2] at e
                cases e
              | some x2 =>
                rw [e1, e2] at e
                have e : some (x1 + c + x2) = some k := e
                injection e with e
                have := nn x2 e2
                exact ⟨x1, rfl, by omega⟩
        obtain ⟨x, e1, hx⟩ := hl
        obtain ⟨m', em, hm⟩ := minO_le2 (x := D rows a r) (y := addO (D rows a l) c (D rows r r)) (k := x + c + 0) (by rw [e1, d_self hv]; rfl)
        exact ⟨m', em, by omega⟩
      exact ⟨m', em, hm⟩
/-- a row that is told already -/
theorem more_told (hv : Sat rows v) {l r : α} {c : Int} (h : Told rows l r c) (a y : α) : Sat (rows ++ [(l, r, c)]) v ∧ D (rows ++ [(l, r, c)]) a y = D rows a y := by
  have same : ∀ u, Sat rows u ↔ Sat (rows ++ [(l, r, c)]) u := fun u => ⟨fun hu q hq => by
    rcases List.mem_append.mp hq with m | m
    · exact hu q m
    · rw [List.mem_singleton] at m
      subst m
      exact h u hu, sub_sat⟩
  have tl : ∀ n, Told (rows ++ [(l, r, c)]) a y n ↔ Told rows a y n := fun n => ⟨fun t u hu => t u ((same u).mp hu), fun t u hu => t u ((same u).mpr hu)⟩
  refine ⟨(same v).mp hv, d_of ((same v).mp hv) ⟨fun k e => (tl k).mpr ((d_best hv a y).1 k e), fun n hn t => (d_best hv a y).2 n hn ((tl n).mp t)⟩⟩
end
end Lo
/-! The fewest rows that tell the same: why they tell all, and why none of them is told by the others. -/
namespace Lo
section
variable {α : Type} [DecidableEq α]
variable {rows : List (Row α)} {v : α → Int}
theorem path_told {a b : α} {l : List Nat} {s : Int} (h : Path rows a l b s) : Told rows a b s := by
  induction h with
  | nil a =>
    intro u hu
    omega
  | cons hj h ih => exact told_trans (told_own (List.mem_of_getElem? hj)) ih
open Classical in
theorem told_path (hv : Sat rows v) {a b : α} {k : Int} (h : Told rows a b k) : ∃ l s, Path rows a l b s ∧ s ≤ k := by
  let Pm : α → Int → Prop := fun y m => ∃ l, Path rows a l y m
  have low : ∀ y m, Pm y m → v a - v y ≤ m := fun y m ⟨l, hp⟩ => path_told hp v hv
  let f : α → Option Int := fun y => if h : ∃ m, Pm y m ∧ ∀ n, Pm y n → m ≤ n then some (Classical.choose h) else none
  have fspec : ∀ y k, f y = some k → Pm y k ∧ ∀ n, Pm y n → k ≤ n := by
    intro y k e
    by_cases h : ∃ m, Pm y m ∧ ∀ n, Pm y n → m ≤ n
    · have e1 : f y = some (Classical.choose h) := dif_pos h
      rw [e1] at e
      injection e with e
      exact e ▸ Classical.choose_spec h
    · have e1 : f y = none := dif_neg h
      rw [e1] at e
      cases e
  have fhas : ∀ y m, Pm y m → ∃ k, f y = some k ∧ k ≤ m := by
    intro y m hm
    have h := least_int (p := Pm y) (v a - v y) (low y) hm
    have e1 : f y = some (Classical.choose h) := dif_pos h
    exact ⟨_, e1, (Classical.choose_spec h).2 m hm⟩
  have fa : f a = some 0 := by
    obtain ⟨k, e, hk⟩ := fhas a 0 ⟨[], .nil a⟩
    have := low a k (fspec a k e).1
    have : k = 0 := by omega
    rw [e, this]
  have B := closed_best (a := a) (f := f) fa (fun y k e => by
    obtain ⟨⟨l, hp⟩, _⟩ := fspec y k e
    exact path_told hp) (fun r hr k e => by
    obtain ⟨⟨l, hp⟩, _⟩ := fspec _ k e
    obtain ⟨j, hj, ej⟩ := List.getElem_of_mem hr
    exact fhas r.2.1 (k + r.2.2) ⟨_, hp.snoc (j := j) (x := r.2.1) (c := r.2.2) (by rw [List.getElem?_eq_getElem hj, ej])⟩) hv b
  obtain ⟨x, e, hx⟩ := told_d hv h
  rw [d_of hv B] at e
  obtain ⟨⟨l, hp⟩, _⟩ := fspec b x e
  exact ⟨l, x, hp, hx⟩
/-! ### sides that are tied -/
/-- a and b are tied: their difference is one number at all solutions -/
def Eqv (rows : List (Row α)) (a b : α) : Prop := ∃ x, D rows a b = some x ∧ D rows b a = some (-x)
theorem eqv_refl (hv : Sat rows v) (a : α) : Eqv rows a a := ⟨0, d_self hv a, by rw [d_self hv]; rfl⟩
theorem Eqv.symm {a b : α} (h : Eqv rows a b) : Eqv rows b a := by
  obtain ⟨x, h1, h2⟩ := h
  exact ⟨-x, h2, by rw [h1, Int.neg_neg]⟩
theorem eqv_of (hv : Sat rows v) {a b : α} {x y : Int} (h1 : D rows a b = some x) (h2 : D rows b a = some y) (h : x + y ≤ 0) : Eqv rows a b := by
  have := d_back hv h1 h2
  have e : y = -x := by omega
  exact ⟨x, h1, by rw [h2, e]⟩
theorem Eqv.trans (hv : Sat rows v) {a b c : α} (h : Eqv rows a b) (k : Eqv rows b c) : Eqv rows a c := by
  obtain ⟨x, h1, h2⟩ := h
  obtain ⟨y, k1, k2⟩ := k
  obtain ⟨z, e1, hz⟩ := d_tri hv h1 k1
  obtain ⟨w, e2, hw⟩ := d_tri hv k2 h2
  exact eqv_of hv e1 e2 (by omega)
/-- the difference of tied sides -/
theorem Eqv.val (hv : Sat rows v) {a b : α} (h : Eqv rows a b) : D rows a b = some (v a - v b) := by
  obtain ⟨x, h1, h2⟩ := h
  have a1 := d_told hv h1 v hv
  have a2 := d_told hv h2 v hv
  have : x = v a - v b := by omega
  rw [h1, this]
/-- m is on a shortest way from a to b -/
def Tight (rows : List (Row α)) (a m b : α) : Prop := ∃ x y z, D rows a m = some x ∧ D rows m b = some y ∧ D rows a b = some z ∧ x + y ≤ z
/-- what makes rows E the fewest -/
structure Edges (rows E : List (Row α)) (hs : List α) : Prop where
  own : ∀ x y c, (x, y, c) ∈ E → x ≠ y ∧ D rows x y = some c
  succ : ∀ x y c y' c', (x, y, c) ∈ E → (x, y', c') ∈ E → Eqv rows x y → Eqv rows x y' → y = y'
  lead : ∀ x y c, (x, y, c) ∈ E → ¬ Eqv rows x y → x ∈ hs ∧ y ∈ hs ∧ ∀ m ∈ hs, m ≠ x → m ≠ y → ¬ Tight rows x m y
  two : ∀ (A B : List (Row α)) (p : Row α), E = A ++ p :: B → ∀ q ∈ A ++ B, ¬ (q.1 = p.1 ∧ q.2.1 = p.2.1)
  one : ∀ a ∈ hs, ∀ b ∈ hs, Eqv rows a b → a = b
variable {E : List (Row α)} {hs : List α}
theorem Edges.told (N : Edges rows E hs) (hv : Sat rows v) : Sat E v := fun q hq => by
  obtain ⟨x, y, c⟩ := q
  exact d_told hv (N.own x y c hq).2 v hv
theorem path_d (hv : Sat rows v) {G : List (Row α)} (hG : ∀ x y c, (x, y, c) ∈ G → D rows x y = some c) {a b : α} {l : List Nat} {s : Int} (h : Path G a l b s) : ∃ z, D rows a b = some z ∧ z ≤ s := by
  induction h with
  | nil a => exact ⟨0, d_self hv a, Int.le_refl _⟩
  | cons hj h ih =>
    obtain ⟨z, e, hz⟩ := ih
    obtain ⟨w, e2, hw⟩ := d_tri hv (hG _ _ _ (List.mem_of_getElem? hj)) e
    exact ⟨w, e2, by omega⟩
/-- none of them is told by the others -/
theorem Edges.needed (N : Edges rows E hs) (hv : Sat rows v) {A B : List (Row α)} {L R : α} {k : Int} (hE : E = A ++ (L, R, k) :: B) : ¬ Told (A ++ B) L R k := by
  intro t
  have hf : (L, R, k) ∈ E := by
    rw [hE]
    exact List.mem_append_right _ List.mem_cons_self
  have hG : ∀ q ∈ A ++ B, q ∈ E := fun q hq => by
    rw [hE]
    rcases List.mem_append.mp hq with h | h
    · exact List.mem_append_left _ h
    · exact List.mem_append_right _ (List.mem_cons_of_mem _ h)
  have hGd : ∀ x y c, (x, y, c) ∈ A ++ B → D rows x y = some c := fun x y c h => (N.own x y c (hG _ h)).2
  have notf : ∀ c, (L, R, c) ∉ A ++ B := fun c h => N.two A B _ hE _ h ⟨rfl, rfl⟩
  have satG : Sat (A ++ B) v := fun q hq => N.told hv q (hG q hq)
  obtain ⟨nlr, hk⟩ := N.own L R k hf
  obtain ⟨l, s, hp, hs'⟩ := told_path satG t
  by_cases tied : Eqv rows L R
  · cases hp with
    | nil => exact nlr rfl
    | @cons _ y _ j c s' l' hj hp' =>
      have hm := List.mem_of_getElem? hj
      obtain ⟨z, ez, hz⟩ := path_d hv hGd hp'
      obtain ⟨x, ex, ex'⟩ := tied
      rw [hk] at ex
      injection ex with ex
      subst ex
      obtain ⟨w, ew, hw⟩ := d_tri hv ez ex'
      have t1 : Eqv rows L y := eqv_of hv (hGd _ _ _ hm) ew (by omega)
      have e := N.succ L y c R k (hG _ hm) hf t1 ⟨k, hk, ex'⟩
      subst e
      exact notf _ hm
  · obtain ⟨hL, hR, hmid⟩ := N.lead L R k hf tied
    have key : ∀ {x r : α} {l : List Nat} {s : Int}, Path (A ++ B) x l r s → r = R → Eqv rows L x → (∃ p, D rows L x = some p ∧ p + s ≤ k) → False := by
      intro x r l s hp
      induction hp with
      | nil x =>
        intro e t1 _
        subst e
        exact tied t1
      | @cons x y r j c s' l' hj hp' ih =>
        intro e t1 ⟨p, ep, hps⟩
        subst e
        have hm := List.mem_of_getElem? hj
        obtain ⟨q, eq, hq⟩ := d_tri hv ep (hGd _ _ _ hm)
        by_cases t2 : Eqv rows L y
        · exact ih rfl t2 ⟨q, eq, by omega⟩
        · have t3 : ¬ Eqv rows x y := fun z => t2 (t1.trans hv z)
          obtain ⟨hx, hy, _⟩ := N.lead x y c (hG _ hm) t3
          have ex := N.one L hL x hx t1
          subst ex
          by_cases yr : y = r
          · subst yr
            exact notf _ hm
          · obtain ⟨z, ez, hz⟩ := path_d hv hGd hp'
            exact hmid y hy (fun e => t2 (e ▸ eqv_refl hv _)) yr ⟨q, z, k, eq, ez, hk, by omega⟩
    exact key hp rfl (eqv_refl hv L) ⟨0, d_self hv L, by omega⟩
open Classical in
noncomputable def between (rows : List (Row α)) (hs : List α) (a b : α) : Nat := (hs.filter fun m => decide (Tight rows a m b)).length
theorem filter_lt {p q : α → Bool} : ∀ (l : List α), (∀ x ∈ l, p x = true → q x = true) → (∃ x ∈ l, q x = true ∧ p x = false) → (l.filter p).length < (l.filter q).length
  | [], _, h => by
    obtain ⟨x, hx, _⟩ := h
    exact absurd hx List.not_mem_nil
  | a :: l, h, h2 => by
    have mono : (l.filter p).length ≤ (l.filter q).length := by
      clear h2
      induction l with
      | nil => exact Nat.le_refl _
      | cons b l ih =>
        have ih := ih fun x hx => h x (by
          rcases List.mem_cons.mp hx with e | e
          · exact e ▸ List.mem_cons_self
          · exact List.mem_cons_of_mem _ (List.mem_cons_of_mem _ e))
        have hb := h b (List.mem_cons_of_mem _ List.mem_cons_self)
        rw [List.filter_cons, List.filter_cons]
        cases eq : q b with
        | true =>
          cases ep : p b with
          | true =>
            simp only [if_true, List.length_cons]
            omega
          | false =>
            simp
            omega
        | false =>
          cases ep : p b with
          | true =>
            rw [hb ep] at eq
            cases eq
          | false =>
            simp
            omega
    have ha := h a List.mem_cons_self
    by_cases d : q a = true ∧ p a = false
    · rw [List.filter_cons_of_pos d.1, List.filter_cons_of_neg (by rw [d.2]; exact fun z => nomatch z), List.length_cons]
      omega
    · have h3 : ∃ x ∈ l, q x = true ∧ p x = false := by
        obtain ⟨x, hx, h4⟩ := h2
        rcases List.mem_cons.mp hx with e | e
        · subst e
          exact absurd h4 d
        · exact ⟨x, e, h4⟩
      have ih := filter_lt l (fun x hx => h x (List.mem_cons_of_mem _ hx)) h3
      cases eq : q a with
      | true =>
        cases ep : p a with
        | true =>
          rw [List.filter_cons_of_pos ep, List.filter_cons_of_pos eq, List.length_cons, List.length_cons]
          omega
        | false => exact absurd ⟨eq, ep⟩ d
      | false =>
        cases ep : p a with
        | true =>
          rw [ha ep] at eq
          cases eq
        | false =>
          rw [List.filter_cons_of_neg (by rw [ep]; exact fun z => nomatch z), List.filter_cons_of_neg (by rw [eq]; exact fun z => nomatch z)]
          exact ih
/-- together they tell the differences of the heads -/
theorem heads_told (hv : Sat rows v) {u : α → Int} (hu : Sat E u) (one : ∀ a ∈ hs, ∀ b ∈ hs, Eqv rows a b → a = b)
    (all : ∀ a ∈ hs, ∀ b ∈ hs, a ≠ b → ∀ k, D rows a b = some k → (∀ m ∈ hs, m ≠ a → m ≠ b → ¬ Tight rows a m b) → (a, b, k) ∈ E) :
    ∀ n a b, a ∈ hs → b ∈ hs → between rows hs a b ≤ n → ∀ k, D rows a b = some k → u a - u b ≤ k := by
  intro n
  induction n with
  | zero =>
    intro a b ha hb hn k hk
    exfalso
    have : a ∈ hs.filter fun m => @decide (Tight rows a m b) (Classical.propDecidable _) := List.mem_filter.mpr ⟨ha, by simp only [decide_eq_true_eq]; exact ⟨0, k, k, d_self hv a, hk, hk, by omega⟩⟩
    have := List.length_pos_of_mem this
    unfold between at hn
    omega
  | succ n ih =>
    intro a b ha hb hn k hk
    by_cases e : a = b
    · subst e
      rw [d_self hv] at hk
      injection hk with hk
      omega
    by_cases h : ∃ m ∈ hs, m ≠ a ∧ m ≠ b ∧ Tight rows a m b
    · obtain ⟨m, hm, ma, mb, T⟩ := h
      obtain ⟨x, y, z, h1, h2, h3, h4⟩ := id T
      rw [hk] at h3
      injection h3 with h3
      subst h3
      have sub1 : between rows hs a m < between rows hs a b := by
        refine filter_lt hs (fun w _ hw => ?_) ⟨b, hb, ?_, ?_⟩
        · simp only [decide_eq_true_eq] at hw ⊢
          obtain ⟨p, q, r, e1, e2, e3, e4⟩ := hw
          rw [h1] at e3
          injection e3 with e3
          obtain ⟨t, et, ht⟩ := d_tri hv e2 h2
          exact ⟨p, t, k, e1, et, hk, by omega⟩
        · simp only [decide_eq_true_eq]
          exact ⟨k, 0, k, hk, d_self hv b, hk, by omega⟩
        · simp only [decide_eq_false_iff_not]
          rintro ⟨p, q, r, e1, e2, e3, e4⟩
          rw [hk] at e1
          rw [h1] at e3
          injection e1 with e1
          injection e3 with e3
          exact mb (one m hm b hb (eqv_of hv h2 e2 (by omega)))
      have sub2 : between rows hs m b < between rows hs a b := by
        refine filter_lt hs (fun w _ hw => ?_) ⟨a, ha, ?_, ?_⟩
        · simp only [decide_eq_true_eq] at hw ⊢
          obtain ⟨p, q, r, e1, e2, e3, e4⟩ := hw
          rw [h2] at e3
          injection e3 with e3
          obtain ⟨t, et, ht⟩ := d_tri hv h1 e1
          exact ⟨t, q, k, et, e2, hk, by omega⟩
        · simp only [decide_eq_true_eq]
          exact ⟨0, k, k, d_self hv a, hk, hk, by omega⟩
        · simp only [decide_eq_false_iff_not]
          rintro ⟨p, q, r, e1, e2, e3, e4⟩
          rw [hk] at e2
          rw [h2] at e3
          injection e2 with e2
          injection e3 with e3
          exact ma (one m hm a ha (eqv_of hv e1 h1 (by omega)))
      have i1 := ih a m ha hm (by omega) x h1
      have i2 := ih m b hm hb (by omega) y h2
      omega
    · have := hu _ (all a ha b hb e k hk fun m hm ma mb T => h ⟨m, hm, ma, mb, T⟩)
      exact this
/-- a ring of tied sides -/
theorem ring_told (hv : Sat rows v) {u : α → Int} (ms : List α) (hm : 0 < ms.length) (h : ∀ (i : Nat) (hi : i < ms.length), u ms[i] - u (ms[(i + 1) % ms.length]'(Nat.mod_lt _ hm)) ≤ v ms[i] - v (ms[(i + 1) % ms.length]'(Nat.mod_lt _ hm))) :
    ∀ x ∈ ms, ∀ y ∈ ms, u x - u y = v x - v y := by
  have up : ∀ (i : Nat) (hi : i < ms.length), u ms[0] - v ms[0] ≤ u ms[i] - v ms[i] := by
    intro i
    induction i with
    | zero =>
      intro hi
      exact Int.le_refl _
    | succ i ih =>
      intro hi
      have h1 := ih (by omega)
      have h2 := h i (by omega)
      have e : (i + 1) % ms.length = i + 1 := Nat.mod_eq_of_lt hi
      simp only [e] at h2
      omega
  have down : ∀ (d i : Nat) (hi : i < ms.length), ms.length - i ≤ d → u ms[i] - v ms[i] ≤ u ms[0] - v ms[0] := by
    intro d
    induction d with
    | zero =>
      intro i hi hd
      omega
    | succ d ih =>
      intro i hi hd
      have h2 := h i hi
      by_cases k : i + 1 < ms.length
      · have e : (i + 1) % ms.length = i + 1 := Nat.mod_eq_of_lt k
        simp only [e] at h2
        have h1 := ih (i + 1) k (by omega)
        omega
      · have e : (i + 1) % ms.length = 0 := by
          have : i + 1 = ms.length := by omega
          rw [this, Nat.mod_self]
        simp only [e] at h2
        omega
  have all : ∀ x ∈ ms, u x - v x = u ms[0] - v ms[0] := fun x hx => by
    obtain ⟨i, hi, rfl⟩ := List.getElem_of_mem hx
    have h1 := up i hi
    have h2 := down ms.length i hi (by omega)
    omega
  intro x hx y hy
  have h1 := all x hx
  have h2 := all y hy
  omega
end
end Lo
/-! Groups of tied sides, their heads, the rows made of them; how many there are does not hang on the order. -/
namespace Lo
section
variable {α : Type} [DecidableEq α]
def hstep (e : α → α → Bool) (hs : List α) (x : α) : List α := if hs.any (fun h => e h x) then hs else hs ++ [x]
def headsOf (e : α → α → Bool) (l : List α) : List α := l.foldl (hstep e) []
theorem headsOf_snoc (e : α → α → Bool) (l : List α) (x : α) : headsOf e (l ++ [x]) = hstep e (headsOf e l) x := by
  unfold headsOf
  rw [List.foldl_append]
  rfl
structure Eqq (e : α → α → Bool) : Prop where
  refl : ∀ a, e a a = true
  symm : ∀ a b, e a b = true → e b a = true
  trans : ∀ a b c, e a b = true → e b c = true → e a c = true
/-- heads of what was seen -/
structure Hds (e : α → α → Bool) (hs seen : List α) : Prop where
  sub : ∀ h ∈ hs, h ∈ seen
  apart : hs.Pairwise fun a b => e a b = false
  cover : ∀ x ∈ seen, ∃ h ∈ hs, e h x = true
  first : ∀ h ∈ hs, ∃ rest, seen.filter (e h) = h :: rest
variable {e : α → α → Bool}
theorem Hds.one {hs seen : List α} (H : Hds e hs seen) (q : Eqq e) : ∀ a ∈ hs, ∀ b ∈ hs, e a b = true → a = b := by
  intro a ha b hb hab
  have h := H.apart
  clear H
  induction hs with
  | nil => exact absurd ha List.not_mem_nil
  | cons x t ih =>
    obtain ⟨h1, h2⟩ := List.pairwise_cons.mp h
    rcases List.mem_cons.mp ha with e1 | e1
    · rcases List.mem_cons.mp hb with e2 | e2
      · rw [e1, e2]
      · subst e1
        rw [h1 b e2] at hab
        cases hab
    · rcases List.mem_cons.mp hb with e2 | e2
      · subst e2
        have := q.symm _ _ hab
        rw [h1 a e1] at this
        cases this
      · exact ih e1 e2 h2
theorem Hds.step {hs seen : List α} (H : Hds e hs seen) (q : Eqq e) (x : α) : Hds e (hstep e hs x) (seen ++ [x]) := by
  unfold hstep
  by_cases k : hs.any (fun h => e h x) = true
  · rw [if_pos k]
    rw [List.any_eq_true] at k
    obtain ⟨h0, hh0, e0⟩ := k
    refine ⟨fun h hh => List.mem_append_left _ (H.sub h hh), H.apart, fun y hy => ?_, fun h hh => ?_⟩
    · rcases List.mem_append.mp hy with m | m
      · exact H.cover y m
      · rw [List.mem_singleton] at m
        exact ⟨h0, hh0, m ▸ e0⟩
    · obtain ⟨rest, hr⟩ := H.first h hh
      exact ⟨rest ++ [x].filter (e h), by rw [List.filter_append, hr]; rfl⟩
  · rw [if_neg k]
    have none : ∀ h ∈ hs, e h x = false := fun h hh => by
      cases z : e h x with
      | false => rfl
      | true => exact absurd (List.any_eq_true.mpr ⟨h, hh, z⟩) k
    refine ⟨fun h hh => ?_, List.pairwise_append.mpr ⟨H.apart, List.pairwise_singleton _ _, fun a ha b hb => ?_⟩, fun y hy => ?_, fun h hh => ?_⟩
    · rcases List.mem_append.mp hh with m | m
      · exact List.mem_append_left _ (H.sub h m)
      · exact List.mem_append_right _ m
    · rw [List.mem_singleton] at hb
      subst hb
      exact none a ha
    · rcases List.mem_append.mp hy with m | m
      · obtain ⟨h, hh, e0⟩ := H.cover y m
        exact ⟨h, List.mem_append_left _ hh, e0⟩
      · exact ⟨x, List.mem_append_right _ (List.mem_singleton.mpr rfl), by rw [List.mem_singleton.mp m]; exact q.refl x⟩
    · rcases List.mem_append.mp hh with m | m
      · obtain ⟨rest, hr⟩ := H.first h m
        exact ⟨rest ++ [x].filter (e h), by rw [List.filter_append, hr]; rfl⟩
      · rw [List.mem_singleton] at m
        subst m
        have z : seen.filter (e h) = [] := List.filter_eq_nil_iff.mpr fun y hy hy2 => by
          obtain ⟨g, hg, eg⟩ := H.cover y hy
          have := q.trans _ _ _ eg (q.symm _ _ hy2)
          rw [none g hg] at this
          cases this
        refine ⟨[], ?_⟩
        rw [List.filter_append, z, List.filter_cons_of_pos (q.refl h)]
        rfl
theorem heads_ok (q : Eqq e) (l : List α) : Hds e (headsOf e l) l := by
  have key : ∀ (l hs seen : List α), Hds e hs seen → Hds e (l.foldl (hstep e) hs) (seen ++ l) := by
    intro l
    induction l with
    | nil =>
      intro hs seen H
      rw [List.append_nil]
      exact H
    | cons x l ih =>
      intro hs seen H
      have := ih _ _ (H.step q x)
      rw [List.append_assoc] at this
      exact this
  have z : Hds e ([] : List α) [] := ⟨fun h m => absurd m List.not_mem_nil, List.Pairwise.nil, fun x m => absurd m List.not_mem_nil, fun h m => absurd m List.not_mem_nil⟩
  exact key l [] [] z
theorem Hds.nodup {hs seen : List α} (H : Hds e hs seen) (q : Eqq e) : hs.Nodup := H.apart.imp fun {a b} h z => by
  subst z
  rw [q.refl] at h
  cases h
/-! ### the rows -/
/-- the next ones around -/
def rot (ms : List α) : List α := ms.drop 1 ++ ms.take 1
theorem rot_len (ms : List α) : (rot ms).length = ms.length := by
  unfold rot
  rw [List.length_append, List.length_drop, List.length_take]
  omega
theorem rot_get (ms : List α) (i : Nat) (hi : i < ms.length) : (rot ms)[i]? = ms[(i + 1) % ms.length]? := by
  unfold rot
  by_cases k : i + 1 < ms.length
  · rw [List.getElem?_append_left (by rw [List.length_drop]; omega), List.getElem?_drop, Nat.mod_eq_of_lt k, Nat.add_comm]
  · have e : i + 1 = ms.length := by omega
    rw [List.getElem?_append_right (by rw [List.length_drop]; omega), List.length_drop, e, Nat.mod_self, List.getElem?_take_of_lt (by omega), show i - (ms.length - 1) = 0 by omega]
def ringE (w : α → α → Int) (ms : List α) : List (Row α) := if 1 < ms.length then (ms.zip (rot ms)).map fun p => (p.1, p.2, w p.1 p.2) else []
def leadE (w : α → α → Int) (c : α → α → Bool) (hs : List α) : List (Row α) := hs.flatMap fun a => (hs.filter (c a)).map fun b => (a, b, w a b)
def edgesE (e : α → α → Bool) (w : α → α → Int) (c : α → α → Bool) (hs l : List α) : List (Row α) := (hs.flatMap fun h => ringE w (l.filter (e h))) ++ leadE w c hs
theorem ringE_mem {w : α → α → Int} {ms : List α} {x y : α} {c : Int} (h : (x, y, c) ∈ ringE w ms) : 1 < ms.length ∧ ∃ (i : Nat) (hi : i < ms.length), x = ms[i] ∧ ms[(i + 1) % ms.length]? = some y ∧ c = w x y := by
  unfold ringE at h
  by_cases k : 1 < ms.length
  · rw [if_pos k] at h
    obtain ⟨p, hp, ep⟩ := List.mem_map.mp h
    obtain ⟨i, hi, ei⟩ := List.getElem_of_mem hp
    rw [List.length_zip, rot_len, Nat.min_self] at hi
    have e1 : ms[i] = p.1 := by rw [← ei, List.getElem_zip]
    have e2 : ms[(i + 1) % ms.length]? = some p.2 := by
      rw [← rot_get ms i hi, ← ei, List.getElem_zip]
      exact List.getElem?_eq_getElem _
    injection ep with q1 q2
    injection q2 with q2 q3
    refine ⟨k, i, hi, by rw [e1, q1], by rw [e2, q2], ?_⟩
    rw [← q3, q1, q2]
  · rw [if_neg k] at h
    exact absurd h List.not_mem_nil
theorem ringE_has {w : α → α → Int} {ms : List α} (k : 1 < ms.length) (i : Nat) (hi : i < ms.length) {y : α} (hy : ms[(i + 1) % ms.length]? = some y) : (ms[i], y, w ms[i] y) ∈ ringE w ms := by
  unfold ringE
  rw [if_pos k]
  refine List.mem_map.mpr ⟨(ms[i], y), ?_, rfl⟩
  have hr : i < (rot ms).length := by
    rw [rot_len]
    exact hi
  have e : (rot ms)[i] = y := by
    have := rot_get ms i hi
    rw [hy, List.getElem?_eq_getElem hr] at this
    exact Option.some.inj this
  refine List.mem_of_getElem? (i := i) ?_
  rw [List.getElem?_eq_getElem (by rw [List.length_zip, rot_len, Nat.min_self]; exact hi), List.getElem_zip, e]
theorem ringE_len (w : α → α → Int) (ms : List α) : (ringE w ms).length = if 1 < ms.length then ms.length else 0 := by
  unfold ringE
  split
  · rw [List.length_map, List.length_zip, rot_len, Nat.min_self]
  · rfl
theorem leadE_mem {w : α → α → Int} {c : α → α → Bool} {hs : List α} {x y : α} {k : Int} : (x, y, k) ∈ leadE w c hs ↔ x ∈ hs ∧ y ∈ hs ∧ c x y = true ∧ k = w x y := by
  unfold leadE
  rw [List.mem_flatMap]
  constructor
  · rintro ⟨a, ha, h⟩
    obtain ⟨b, hb, eb⟩ := List.mem_map.mp h
    obtain ⟨h1, h2⟩ := List.mem_filter.mp hb
    injection eb with q1 q2
    injection q2 with q2 q3
    subst q1 q2
    exact ⟨ha, h1, h2, q3.symm⟩
  · rintro ⟨hx, hy, hc, rfl⟩
    exact ⟨x, hx, List.mem_map.mpr ⟨y, List.mem_filter.mpr ⟨hy, hc⟩, rfl⟩⟩
variable {rows : List (Row α)} {v : α → Int}
/-- what the tests of the program stand for -/
structure Tests (rows : List (Row α)) (hs : List α) (e : α → α → Bool) (w : α → α → Int) (c : α → α → Bool) : Prop where
  e : ∀ a b, e a b = true ↔ Eqv rows a b
  w : ∀ a b k, D rows a b = some k → w a b = k
  c : ∀ a b, a ∈ hs → b ∈ hs → (c a b = true ↔ a ≠ b ∧ D rows a b ≠ none ∧ ∀ m ∈ hs, m ≠ a → m ≠ b → ¬ Tight rows a m b)
theorem Tests.eqq {hs : List α} {w : α → α → Int} {c : α → α → Bool} (T : Tests rows hs e w c) (hv : Sat rows v) : Eqq e :=
  ⟨fun a => (T.e a a).mpr (eqv_refl hv a), fun a b h => (T.e b a).mpr ((T.e a b).mp h).symm, fun a b c h k => (T.e a c).mpr (((T.e a b).mp h).trans hv ((T.e b c).mp k))⟩
theorem edges_mem {w : α → α → Int} {c : α → α → Bool} {hs l : List α} {x y : α} {k : Int} (h : (x, y, k) ∈ edgesE e w c hs l) : (∃ g ∈ hs, (x, y, k) ∈ ringE w (l.filter (e g))) ∨ (x, y, k) ∈ leadE w c hs := by
  unfold edgesE at h
  rcases List.mem_append.mp h with m | m
  · exact .inl (List.mem_flatMap.mp m)
  · exact .inr m
theorem ring_facts {w : α → α → Int} {l : List α} (q : Eqq e) (hnd : l.Nodup) {g x y : α} {k : Int} (h : (x, y, k) ∈ ringE w (l.filter (e g))) : x ≠ y ∧ e g x = true ∧ e g y = true ∧ e x y = true ∧ x ∈ l ∧ k = w x y := by
  obtain ⟨h1, i, hi, ex, ey, ek⟩ := ringE_mem h
  have hx := List.mem_filter.mp (ex ▸ List.getElem_mem hi)
  have hy := List.mem_filter.mp (List.mem_of_getElem? ey)
  refine ⟨fun z => ?_, hx.2, hy.2, q.trans _ _ _ (q.symm _ _ hx.2) hy.2, hx.1, ek⟩
  have hm : (i + 1) % (l.filter (e g)).length < (l.filter (e g)).length := Nat.mod_lt _ (by omega)
  rw [List.getElem?_eq_getElem hm] at ey
  have ey := Option.some.inj ey
  rw [ex, ← ey] at z
  have := (List.getElem_inj (hnd.filter _)).mp z
  by_cases t : i + 1 < (l.filter (e g)).length
  · rw [Nat.mod_eq_of_lt t] at this
    omega
  · rw [show i + 1 = (l.filter (e g)).length by omega, Nat.mod_self] at this
    omega
theorem edges_ok {w : α → α → Int} {c : α → α → Bool} {hs l : List α} (T : Tests rows hs e w c) (hv : Sat rows v) (hnd : l.Nodup) (H : Hds e hs l) : Edges rows (edgesE e w c hs l) hs := by
  have q := T.eqq hv
  have one := H.one q
  have leadF : ∀ {x y : α} {k : Int}, (x, y, k) ∈ leadE w c hs → x ∈ hs ∧ y ∈ hs ∧ x ≠ y ∧ e x y = false ∧ D rows x y = some k ∧ ∀ m ∈ hs, m ≠ x → m ≠ y → ¬ Tight rows x m y := fun {x y k} h => by
    obtain ⟨h1, h2, h3, h4⟩ := leadE_mem.mp h
    obtain ⟨c1, c2, c3⟩ := (T.c x y h1 h2).mp h3
    refine ⟨h1, h2, c1, ?_, ?_, c3⟩
    · cases z : e x y with
      | false => rfl
      | true => exact absurd (one x h1 y h2 z) c1
    · cases z : D rows x y with
      | none => exact absurd z c2
      | some m => rw [h4, T.w x y m z]
  have ringF : ∀ {g x y : α} {k : Int}, (x, y, k) ∈ ringE w (l.filter (e g)) → D rows x y = some k := fun {g x y k} h => by
    obtain ⟨_, _, _, h1, _, h2⟩ := ring_facts q hnd h
    have z := ((T.e x y).mp h1).val hv
    rw [z, h2, T.w x y _ z]
  refine ⟨fun x y k h => ?_, fun x y k y' k' h h' t t' => ?_, fun x y k h t => ?_, fun A B p hE r hr => ?_, fun a ha b hb t => one a ha b hb ((T.e a b).mpr t)⟩
  · rcases edges_mem h with ⟨g, hg, m⟩ | m
    · exact ⟨(ring_facts q hnd m).1, ringF m⟩
    · obtain ⟨_, _, h1, _, h2, _⟩ := leadF m
      exact ⟨h1, h2⟩
  · have t1 := (T.e _ _).mpr t
    have t2 := (T.e _ _).mpr t'
    rcases edges_mem h with ⟨g, hg, m⟩ | m
    · rcases edges_mem h' with ⟨g', hg', m'⟩ | m'
      · obtain ⟨_, a1, _⟩ := ring_facts q hnd m
        obtain ⟨_, a2, _⟩ := ring_facts q hnd m'
        have eg := one g hg g' hg' (q.trans _ _ _ a1 (q.symm _ _ a2))
        subst eg
        obtain ⟨_, i, hi, ex, ey, _⟩ := ringE_mem m
        obtain ⟨_, i', hi', ex', ey', _⟩ := ringE_mem m'
        have ei := (List.getElem_inj (hnd.filter _)).mp (ex.symm.trans ex')
        subst ei
        rw [ey] at ey'
        exact Option.some.inj ey'
      · obtain ⟨_, _, _, z, _⟩ := leadF m'
        rw [z] at t2
        cases t2
    · obtain ⟨_, _, _, z, _⟩ := leadF m
      rw [z] at t1
      cases t1
  · rcases edges_mem h with ⟨g, hg, m⟩ | m
    · obtain ⟨_, _, _, h1, _⟩ := ring_facts q hnd m
      exact absurd ((T.e _ _).mp h1) t
    · obtain ⟨h1, h2, _, _, _, h3⟩ := leadF m
      exact ⟨h1, h2, h3⟩
  · have pw : (edgesE e w c hs l).Pairwise fun p q => ¬ (p.1 = q.1 ∧ p.2.1 = q.2.1) := by
      unfold edgesE
      refine List.pairwise_append.mpr ⟨List.pairwise_flatMap.mpr ⟨fun g hg => ?_, H.apart.imp_of_mem fun {a b} ha hb hab x hx y hy z => ?_⟩, ?_, fun x hx y hy z => ?_⟩
      · unfold ringE
        split
        · refine List.pairwise_map.mpr ?_
          refine List.pairwise_iff_getElem.mpr fun i j hi hj hij z => ?_
          rw [List.getElem_zip, List.getElem_zip] at z
          have hi' : i < (l.filter (e g)).length := by
            rw [List.length_zip, rot_len, Nat.min_self] at hi
            exact hi
          have hj' : j < (l.filter (e g)).length := by
            rw [List.length_zip, rot_len, Nat.min_self] at hj
            exact hj
          have := (List.getElem_inj (hnd.filter _)).mp z.1
          omega
        · exact List.Pairwise.nil
      · obtain ⟨x1, x2, x3⟩ := x
        obtain ⟨y1, y2, y3⟩ := y
        obtain ⟨_, a1, _⟩ := ring_facts q hnd hx
        obtain ⟨_, a2, _⟩ := ring_facts q hnd hy
        have z1 : x1 = y1 := z.1
        subst z1
        have := q.trans _ _ _ a1 (q.symm _ _ a2)
        rw [hab] at this
        cases this
      · unfold leadE
        refine List.pairwise_flatMap.mpr ⟨fun a ha => List.pairwise_map.mpr (((H.nodup q).filter _).imp fun {b b'} n z => n z.2), (H.nodup q).imp fun {a b} n x hx y hy z => ?_⟩
        obtain ⟨x', _, rfl⟩ := List.mem_map.mp hx
        obtain ⟨y', _, rfl⟩ := List.mem_map.mp hy
        exact n z.1
      · obtain ⟨x1, x2, x3⟩ := x
        obtain ⟨y1, y2, y3⟩ := y
        obtain ⟨g, hg, m⟩ := List.mem_flatMap.mp hx
        obtain ⟨_, _, _, h1, _⟩ := ring_facts q hnd m
        obtain ⟨_, _, _, h2, _⟩ := leadF hy
        obtain ⟨z1, z2⟩ := z
        have z1 : x1 = y1 := z1
        have z2 : x2 = y2 := z2
        subst z1 z2
        rw [h1] at h2
        cases h2
    rw [hE] at pw
    obtain ⟨_, p2, p3⟩ := List.pairwise_append.mp pw
    obtain ⟨p4, _⟩ := List.pairwise_cons.mp p2
    rcases List.mem_append.mp hr with m | m
    · exact p3 r m p List.mem_cons_self
    · exact fun z => p4 r m ⟨z.1.symm, z.2.symm⟩
/-- together they tell all rows -/
theorem edges_tell {w : α → α → Int} {c : α → α → Bool} {hs l : List α} (T : Tests rows hs e w c) (hv : Sat rows v) (H : Hds e hs l) (hl : ∀ r ∈ rows, r.1 ∈ l ∧ r.2.1 ∈ l) {u : α → Int} (hu : Sat (edgesE e w c hs l) u) : Sat rows u := by
  have q := T.eqq hv
  have one := H.one q
  have grp : ∀ g ∈ hs, ∀ x ∈ l, e g x = true → u x - u g = v x - v g := fun g hg x hx t => by
    have mg : g ∈ l.filter (e g) := List.mem_filter.mpr ⟨H.sub g hg, q.refl g⟩
    have mx : x ∈ l.filter (e g) := List.mem_filter.mpr ⟨hx, t⟩
    by_cases k : 1 < (l.filter (e g)).length
    · refine ring_told hv (l.filter (e g)) (by omega) (fun i hi => ?_) x mx g mg
      have hm : (i + 1) % (l.filter (e g)).length < (l.filter (e g)).length := Nat.mod_lt _ (by omega)
      have hr := ringE_has (w := w) k i hi (List.getElem?_eq_getElem hm)
      have hE : ((l.filter (e g))[i], (l.filter (e g))[(i + 1) % (l.filter (e g)).length], w (l.filter (e g))[i] (l.filter (e g))[(i + 1) % (l.filter (e g)).length]) ∈ edgesE e w c hs l := List.mem_append_left _ (List.mem_flatMap.mpr ⟨g, hg, hr⟩)
      have h1 := hu _ hE
      have t1 := (List.mem_filter.mp (List.getElem_mem hi)).2
      have t2 := (List.mem_filter.mp (List.getElem_mem hm)).2
      have z := ((T.e _ _).mp (q.trans _ _ _ (q.symm _ _ t1) t2)).val hv
      rw [T.w _ _ _ z] at h1
      exact h1
    · have : ∀ (m : List α), ¬ 1 < m.length → x ∈ m → g ∈ m → x = g := by
        intro m hm h1 h2
        match m, hm with
        | [], _ => exact absurd h1 List.not_mem_nil
        | [a], _ =>
          rw [List.mem_singleton] at h1 h2
          rw [h1, h2]
        | a :: b :: t, hm => exact absurd (by simp) hm
      have e1 := this _ k mx mg
      subst e1
      omega
  intro r hr
  obtain ⟨a, b, c'⟩ := r
  obtain ⟨la, lb⟩ := hl _ hr
  obtain ⟨ga, hga, ta⟩ := H.cover a la
  obtain ⟨gb, hgb, tb⟩ := H.cover b lb
  have h1 := grp ga hga a la ta
  have h2 := grp gb hgb b lb tb
  obtain ⟨x, ex, hx⟩ := d_row hv hr
  have d1 := ((T.e _ _).mp ta).val hv
  have d2 := ((T.e _ _).mp tb).symm.val hv
  obtain ⟨y, ey, hy⟩ := d_tri hv d1 ex
  obtain ⟨k, ek, hk⟩ := d_tri hv ey d2
  have h3 := heads_told (E := edgesE e w c hs l) hv hu (fun a ha b hb t => one a ha b hb ((T.e a b).mpr t)) (fun a ha b hb n k hk hm => by
    refine List.mem_append_right _ (leadE_mem.mpr ⟨ha, hb, (T.c a b ha hb).mpr ⟨n, by rw [hk]; exact (fun z => nomatch z), hm⟩, (T.w a b k hk).symm⟩)) (between rows hs ga gb) ga gb hga hgb (Nat.le_refl _) k ek
  show u a - u b ≤ c'
  omega
theorem edges_len (e : α → α → Bool) (w : α → α → Int) (c : α → α → Bool) (hs l : List α) : (edgesE e w c hs l).length = (hs.map fun h => if 1 < (l.filter (e h)).length then (l.filter (e h)).length else 0).sum + (hs.map fun a => (hs.filter (c a)).length).sum := by
  unfold edgesE leadE
  rw [List.length_append, List.length_flatMap, List.length_flatMap]
  congr 2
  · refine List.map_congr_left fun h _ => ringE_len w _
  · refine List.map_congr_left fun a _ => ?_
    rw [List.length_map]
/-! ### the number does not hang on the heads -/
theorem rep_sum (q : Eqq e) (g : α → Nat) (gi : ∀ a b, e a b = true → g a = g b) : ∀ (h1 h2 : List α), h1.Pairwise (fun a b => e a b = false) → h2.Pairwise (fun a b => e a b = false) → (∀ a ∈ h1, ∃ b ∈ h2, e a b = true) → (∀ b ∈ h2, (∃ a ∈ h1, e a b = true) ∨ g b = 0) → (h1.map g).sum = (h2.map g).sum
  | [], h2, _, _, _, hb => by
    have : ∀ l : List α, (∀ b ∈ l, g b = 0) → (l.map g).sum = 0 := by
      intro l
      induction l with
      | nil => exact fun _ => rfl
      | cons b l ih =>
        intro h
        rw [List.map_cons, List.sum_cons, h b List.mem_cons_self, ih fun x hx => h x (List.mem_cons_of_mem _ hx)]
    rw [this h2 fun b m => (hb b m).resolve_left fun ⟨a, z, _⟩ => absurd z List.not_mem_nil]
    rfl
  | a :: h1, h2, p1, p2, ha, hb => by
    obtain ⟨b, mb, tb⟩ := ha a List.mem_cons_self
    obtain ⟨pa, p1'⟩ := List.pairwise_cons.mp p1
    have hp := List.perm_cons_erase mb
    have symm' : ∀ {x y : α}, e x y = false → e y x = false := fun {x y} h => by
      cases z : e y x with
      | false => rfl
      | true =>
        rw [q.symm _ _ z] at h
        cases h
    have p2' := (hp.pairwise_iff (fun {x y} h => symm' h)).mp p2
    obtain ⟨pb, p3⟩ := List.pairwise_cons.mp p2'
    have ih := rep_sum q g gi h1 (h2.erase b) p1' p3 (fun a' m' => by
      obtain ⟨b', mb', tb'⟩ := ha a' (List.mem_cons_of_mem _ m')
      refine ⟨b', ?_, tb'⟩
      rcases List.mem_cons.mp (hp.mem_iff.mp mb') with z | z
      · subst z
        have := q.trans _ _ _ tb (q.symm _ _ tb')
        rw [pa a' m'] at this
        cases this
      · exact z) (fun b' mb' => by
      rcases hb b' (hp.mem_iff.mpr (List.mem_cons_of_mem _ mb')) with ⟨a', ma', ta'⟩ | z
      · rcases List.mem_cons.mp ma' with z | z
        · subst z
          have := q.trans _ _ _ (q.symm _ _ tb) ta'
          rw [pb b' mb'] at this
          cases this
        · exact .inl ⟨a', z, ta'⟩
      · exact .inr z)
    have e1 : (h2.map g).sum = g b + ((h2.erase b).map g).sum := by
      rw [(hp.map g).sum_nat, List.map_cons, List.sum_cons]
    rw [List.map_cons, List.sum_cons, e1, ih, gi a b tb]
end
end Lo
/-! The number of the fewest rows by another order of the names; the table of all sums by middles. -/
namespace Lo
section
variable {α : Type} [DecidableEq α]
variable {rows : List (Row α)} {v : α → Int} {e : α → α → Bool}
theorem Tight.left (hv : Sat rows v) {a a' m b : α} (t : Eqv rows a a') (h : Tight rows a m b) : Tight rows a' m b := by
  obtain ⟨x, y, z, h1, h2, h3, h4⟩ := h
  obtain ⟨x', e1, l1⟩ := d_tri hv (t.symm.val hv) h1
  obtain ⟨z', e2, l2⟩ := d_tri hv (t.symm.val hv) h3
  obtain ⟨z'', e3, l3⟩ := d_tri hv (t.val hv) e2
  rw [h3] at e3
  injection e3 with e3
  exact ⟨x', y, z', e1, h2, e2, by omega⟩
theorem Tight.right (hv : Sat rows v) {a m b b' : α} (t : Eqv rows b b') (h : Tight rows a m b) : Tight rows a m b' := by
  obtain ⟨x, y, z, h1, h2, h3, h4⟩ := h
  obtain ⟨y', e1, l1⟩ := d_tri hv h2 (t.val hv)
  obtain ⟨z', e2, l2⟩ := d_tri hv h3 (t.val hv)
  obtain ⟨z'', e3, l3⟩ := d_tri hv e2 (t.symm.val hv)
  rw [h3] at e3
  injection e3 with e3
  exact ⟨x, y', z', h1, e1, e2, by omega⟩
theorem Tight.mid (hv : Sat rows v) {a m m' b : α} (t : Eqv rows m m') (h : Tight rows a m b) : Tight rows a m' b := by
  obtain ⟨x, y, z, h1, h2, h3, h4⟩ := h
  obtain ⟨x', e1, l1⟩ := d_tri hv h1 (t.val hv)
  obtain ⟨y', e2, l2⟩ := d_tri hv (t.symm.val hv) h2
  exact ⟨x', y', z, e1, e2, h3, by omega⟩
theorem some_left (hv : Sat rows v) {a a' b : α} (t : Eqv rows a a') (h : D rows a b ≠ none) : D rows a' b ≠ none := by
  cases q : D rows a b with
  | none => exact absurd q h
  | some x =>
    obtain ⟨y, ey, _⟩ := d_tri hv (t.symm.val hv) q
    rw [ey]
    exact fun z => nomatch z
theorem some_right (hv : Sat rows v) {a b b' : α} (t : Eqv rows b b') (h : D rows a b ≠ none) : D rows a b' ≠ none := by
  cases q : D rows a b with
  | none => exact absurd q h
  | some x =>
    obtain ⟨y, ey, _⟩ := d_tri hv q (t.val hv)
    rw [ey]
    exact fun z => nomatch z
/-- a row between groups that is needed -/
def Need (rows : List (Row α)) (l : List α) (a b : α) : Prop := ¬ Eqv rows a b ∧ D rows a b ≠ none ∧ ∀ m ∈ l, ¬ Eqv rows m a → ¬ Eqv rows m b → ¬ Tight rows a m b
theorem Need.left (hv : Sat rows v) {l : List α} {a a' b : α} (t : Eqv rows a a') (h : Need rows l a b) : Need rows l a' b :=
  ⟨fun z => h.1 (t.trans hv z), some_left hv t h.2.1, fun m hm h1 h2 T => h.2.2 m hm (fun z => h1 (z.trans hv t)) h2 (T.left hv t.symm)⟩
theorem Need.right (hv : Sat rows v) {l : List α} {a b b' : α} (t : Eqv rows b b') (h : Need rows l a b) : Need rows l a b' :=
  ⟨fun z => h.1 (z.trans hv t.symm), some_right hv t h.2.1, fun m hm h1 h2 T => h.2.2 m hm h1 (fun z => h2 (z.trans hv t)) (T.right hv t.symm)⟩
/-- names outside of l1 are alone -/
def Alone (rows : List (Row α)) (l1 l2 : List α) : Prop := ∀ x ∈ l2, x ∉ l1 → ∀ y, y ≠ x → D rows x y = none ∧ D rows y x = none
theorem need_is (hv : Sat rows v) {l1 l2 hs : List α} {w : α → α → Int} {c : α → α → Bool} (T : Tests rows hs e w c) (H : Hds e hs l1) (sub : ∀ x ∈ l1, x ∈ l2) (al : Alone rows l1 l2) {a b : α} (ha : a ∈ hs) (hb : b ∈ hs) : c a b = true ↔ Need rows l2 a b := by
  have q := T.eqq hv
  have one := H.one q
  rw [T.c a b ha hb]
  constructor
  · rintro ⟨h1, h2, h3⟩
    refine ⟨fun z => h1 (one a ha b hb ((T.e a b).mpr z)), h2, fun m hm ma mb t => ?_⟩
    by_cases m1 : m ∈ l1
    · obtain ⟨g, hg, eg⟩ := H.cover m m1
      have tg := (T.e g m).mp eg
      exact h3 g hg (fun z => ma (z ▸ tg.symm)) (fun z => mb (z ▸ tg.symm)) (t.mid hv tg.symm)
    · obtain ⟨x, _, _, e1, _⟩ := t
      have na : a ≠ m := fun z => m1 (z ▸ H.sub a ha)
      rw [(al m hm m1 a na).2] at e1
      cases e1
  · rintro ⟨h1, h2, h3⟩
    refine ⟨fun z => h1 (z ▸ eqv_refl hv a), h2, fun m hm ma mb => h3 m (sub m (H.sub m hm)) (fun z => ma (one m hm a ha ((T.e m a).mpr z))) fun z => mb (one m hm b hb ((T.e m b).mpr z))⟩
theorem filter_sum (p : α → Bool) : ∀ l : List α, (l.filter p).length = (l.map fun x => if p x = true then 1 else 0).sum
  | [] => rfl
  | x :: l => by
    rw [List.map_cons, List.sum_cons, List.filter_cons]
    have ih := filter_sum p l
    split
    · rw [List.length_cons, ih]
      omega
    · rw [ih]
      omega
open Classical in
/-- the number of the fewest rows, by two lists of names -/
theorem due_same (hv : Sat rows v) {l1 l2 h1 h2 : List α} {w : α → α → Int} {c1 c2 : α → α → Bool} (T1 : Tests rows h1 e w c1) (T2 : Tests rows h2 e w c2) (H1 : Hds e h1 l1) (H2 : Hds e h2 l2) (n1 : l1.Nodup) (n2 : l2.Nodup) (sub : ∀ x ∈ l1, x ∈ l2) (al : Alone rows l1 l2) :
    (h1.map fun h => if 1 < (l1.filter (e h)).length then (l1.filter (e h)).length else 0).sum + (h1.map fun a => (h1.filter (c1 a)).length).sum =
    (h2.map fun h => if 1 < (l2.filter (e h)).length then (l2.filter (e h)).length else 0).sum + (h2.map fun a => (h2.filter (c2 a)).length).sum := by
  have q := T1.eqq hv
  have to2 : ∀ a ∈ h1, ∃ b ∈ h2, e a b = true := fun a ha => by
    obtain ⟨b, hb, eb⟩ := H2.cover a (sub a (H1.sub a ha))
    exact ⟨b, hb, q.symm _ _ eb⟩
  have to1 : ∀ b ∈ h2, (∃ a ∈ h1, e a b = true) ∨ b ∉ l1 := fun b hb => by
    by_cases m : b ∈ l1
    · exact .inl (H1.cover b m)
    · exact .inr m
  have lone : ∀ b ∈ h2, b ∉ l1 → ∀ y, e b y = true → y = b := fun b hb m y t => Classical.byContradiction fun n => by
    have z := ((T1.e b y).mp t).val hv
    rw [(al b (H2.sub b hb) m y n).1] at z
    cases z
  congr 1
  · have e1 : (h1.map fun h => if 1 < (l1.filter (e h)).length then (l1.filter (e h)).length else 0) = h1.map fun h => if 1 < (l2.filter (e h)).length then (l2.filter (e h)).length else 0 := by
      refine List.map_congr_left fun h hh => ?_
      have : (l1.filter (e h)).length = (l2.filter (e h)).length := (perm_same _ _ (n1.filter _) (n2.filter _) fun x => by
        rw [List.mem_filter, List.mem_filter]
        refine ⟨fun ⟨a, b⟩ => ⟨sub x a, b⟩, fun ⟨a, b⟩ => ⟨?_, b⟩⟩
        by_cases m : x ∈ l1
        · exact m
        · have z := ((T1.e h x).mp b).val hv
          rw [(al x a m h fun z => m (z ▸ H1.sub h hh)).2] at z
          cases z).length_eq
      rw [this]
    rw [e1]
    refine rep_sum q _ (fun a b t => ?_) h1 h2 H1.apart H2.apart to2 fun b hb => (to1 b hb).imp id fun m => ?_
    · have : l2.filter (e a) = l2.filter (e b) := List.filter_congr fun x _ => by
        cases z : e a x with
        | true => exact (q.trans _ _ _ (q.symm _ _ t) z).symm
        | false =>
          cases z2 : e b x with
          | false => rfl
          | true =>
            rw [q.trans _ _ _ t z2] at z
            cases z
      rw [this]
    · have : ¬ 1 < (l2.filter (e b)).length := fun k => by
        have nd := n2.filter (e b)
        have m0 := List.getElem_mem (l := l2.filter (e b)) (n := 0) (by omega)
        have m1 := List.getElem_mem (l := l2.filter (e b)) (n := 1) k
        have z0 := lone b hb m _ (List.mem_filter.mp m0).2
        have z1 := lone b hb m _ (List.mem_filter.mp m1).2
        have := (List.getElem_inj nd).mp (z0.trans z1.symm)
        omega
      rw [if_neg this]
  · let n : α → α → Nat := fun a b => if Need rows l2 a b then 1 else 0
    have al2 : Alone rows l2 l2 := fun x hx m => absurd hx m
    have s1 : (h1.map fun a => (h1.filter (c1 a)).length) = h1.map fun a => (h1.map (n a)).sum := List.map_congr_left fun a ha => by
      rw [filter_sum]
      congr 1
      refine List.map_congr_left fun b hb => ?_
      have := need_is hv T1 H1 sub al ha hb
      show (if c1 a b = true then 1 else 0) = if Need rows l2 a b then 1 else 0
      by_cases k : Need rows l2 a b
      · rw [if_pos k, if_pos (this.mpr k)]
      · rw [if_neg k, if_neg fun z => k (this.mp z)]
    have s2 : (h2.map fun a => (h2.filter (c2 a)).length) = h2.map fun a => (h2.map (n a)).sum := List.map_congr_left fun a ha => by
      rw [filter_sum]
      congr 1
      refine List.map_congr_left fun b hb => ?_
      have := need_is hv T2 H2 (fun x h => h) al2 ha hb
      show (if c2 a b = true then 1 else 0) = if Need rows l2 a b then 1 else 0
      by_cases k : Need rows l2 a b
      · rw [if_pos k, if_pos (this.mpr k)]
      · rw [if_neg k, if_neg fun z => k (this.mp z)]
    have far : ∀ b ∈ h2, b ∉ l1 → ∀ a, n a b = 0 ∧ n b a = 0 := fun b hb m a => by
      have key : ∀ x y, x = b ∨ y = b → ¬ Need rows l2 x y := fun x y h N => by
        by_cases z : x = y
        · exact N.1 (z ▸ eqv_refl hv x)
        · rcases h with h | h
          · subst h
            exact N.2.1 (al x (H2.sub x hb) m y fun w => z w.symm).1
          · subst h
            exact N.2.1 (al y (H2.sub y hb) m x z).2
      exact ⟨if_neg (key a b (.inr rfl)), if_neg (key b a (.inl rfl))⟩
    have ni : ∀ a b b', e b b' = true → n a b = n a b' := fun a b b' t => by
      have t := (T1.e b b').mp t
      show (if Need rows l2 a b then 1 else 0) = if Need rows l2 a b' then 1 else 0
      by_cases k : Need rows l2 a b
      · rw [if_pos k, if_pos (k.right hv t)]
      · rw [if_neg k, if_neg fun z => k (z.right hv t.symm)]
    have nj : ∀ a a' b, e a a' = true → n a b = n a' b := fun a a' b t => by
      have t := (T1.e a a').mp t
      show (if Need rows l2 a b then 1 else 0) = if Need rows l2 a' b then 1 else 0
      by_cases k : Need rows l2 a b
      · rw [if_pos k, if_pos (k.left hv t)]
      · rw [if_neg k, if_neg fun z => k (z.left hv t.symm)]
    rw [s1, s2]
    have i1 : (h1.map fun a => (h1.map (n a)).sum) = h1.map fun a => (h2.map (n a)).sum := List.map_congr_left fun a ha => rep_sum q (n a) (fun b b' t => ni a b b' t) h1 h2 H1.apart H2.apart to2 fun b hb => (to1 b hb).imp id fun m => (far b hb m a).1
    rw [i1]
    refine rep_sum q _ (fun a b t => ?_) h1 h2 H1.apart H2.apart to2 fun b hb => (to1 b hb).imp id fun m => ?_
    · congr 1
      exact List.map_congr_left fun x _ => nj a b x t
    · have : ∀ l : List α, (l.map (n b)).sum = 0 := by
        intro l
        induction l with
        | nil => rfl
        | cons x l ih => rw [List.map_cons, List.sum_cons, ih, (far b hb m x).2]
      exact this h2
/-! ### a ring of negative sum, or a solution -/
theorem Path.lift {q : Row α} {a b : α} {l : List Nat} {s : Int} (h : Path rows a l b s) : Path (rows ++ [q]) a l b s := by
  induction h with
  | nil a => exact .nil a
  | @cons a m b j c s l hj h ih =>
    refine .cons (m := m) ?_ ih
    rw [List.getElem?_append_left (List.getElem?_eq_some_iff.mp hj).1]
    exact hj
theorem sat_or : ∀ n (rows : List (Row α)), rows.length = n → (∃ v, Sat rows v) ∨ ∃ a l s, Path rows a l a s ∧ s < 0 := by
  intro n
  induction n with
  | zero =>
    intro rows h
    rw [List.length_eq_zero_iff] at h
    subst h
    exact .inl ⟨fun _ => 0, fun r hr => absurd hr List.not_mem_nil⟩
  | succ n ih =>
    intro rows h
    have hne : rows ≠ [] := fun z => by
      rw [z] at h
      cases h
    have e := List.dropLast_concat_getLast hne
    generalize rows.getLast hne = q at e
    generalize rows.dropLast = rs at e
    subst e
    rw [List.length_append, List.length_singleton] at h
    rcases ih rs (by omega) with ⟨v, hv⟩ | ⟨a, l, s, hp, hs⟩
    · obtain ⟨x, y, c⟩ := q
      by_cases k : ∃ b, D rs y x = some b ∧ b + c < 0
      · obtain ⟨b, eb, hb⟩ := k
        obtain ⟨l, s, hp, hs⟩ := told_path hv (d_told hv eb)
        refine .inr ⟨x, rs.length :: l, c + s, .cons (m := y) ?_ hp.lift, by omega⟩
        rw [List.getElem?_append_right (Nat.le_refl _), Nat.sub_self]
        rfl
      · exact .inl (more_sat hv fun b eb => by
          have : ¬ b + c < 0 := fun z => k ⟨b, eb, z⟩
          omega)
    · exact .inr ⟨a, l, s, hp.lift, hs⟩
/-! ### the table by middles -/
abbrev Tb (α : Type) := α → α → Option Int
def put2 (F : Tb α) (i j : α) (k : Int) : Tb α := fun a b => if a = i ∧ b = j then some k else F a b
theorem put2_at (F : Tb α) (i j : α) (k : Int) : put2 F i j k i j = some k := if_pos ⟨rfl, rfl⟩
theorem put2_off {F : Tb α} {i j a b : α} {k : Int} (h : ¬ (a = i ∧ b = j)) : put2 F i j k a b = F a b := if_neg h
structure Fw (rows : List (Row α)) (ends : List α) (F : Tb α) : Prop where
  diag : ∀ a ∈ ends, ∃ k, F a a = some k ∧ k ≤ 0
  snd : ∀ a b k, F a b = some k → Told rows a b k
  dom : ∀ a b k, F a b = some k → a ∈ ends ∧ b ∈ ends
def Rowed (rows : List (Row α)) (F : Tb α) : Prop := ∀ r ∈ rows, ∃ k, F r.1 r.2.1 = some k ∧ k ≤ r.2.2
def Neg (ends : List α) (F : Tb α) : Prop := ∃ a ∈ ends, ∃ k, F a a = some k ∧ k < 0
def Clo (M : List α) (F : Tb α) : Prop := ∀ m ∈ M, ∀ i j x y, F i m = some x → F m j = some y → ∃ z, F i j = some z ∧ z ≤ x + y
def Down (F F' : Tb α) : Prop := ∀ i j k, F i j = some k → ∃ k', F' i j = some k' ∧ k' ≤ k
theorem Down.refl (F : Tb α) : Down F F := fun i j k e => ⟨k, e, Int.le_refl _⟩
theorem Down.trans {F G K : Tb α} (h : Down F G) (k : Down G K) : Down F K := fun i j x e => by
  obtain ⟨y, e1, l1⟩ := h i j x e
  obtain ⟨z, e2, l2⟩ := k i j y e1
  exact ⟨z, e2, by omega⟩
theorem Down.put {F : Tb α} {i j : α} {k : Int} (h : ∀ x, F i j = some x → k ≤ x) : Down F (put2 F i j k) := fun a b x e => by
  by_cases z : a = i ∧ b = j
  · obtain ⟨rfl, rfl⟩ := z
    exact ⟨k, put2_at F a b k, h x e⟩
  · exact ⟨x, by rw [put2_off z]; exact e, Int.le_refl _⟩
theorem Neg.down {ends : List α} {F G : Tb α} (h : Neg ends F) (d : Down F G) : Neg ends G := by
  obtain ⟨a, ha, k, e, hk⟩ := h
  obtain ⟨k', e', l⟩ := d a a k e
  exact ⟨a, ha, k', e', by omega⟩
theorem Rowed.down {F G : Tb α} (h : Rowed rows F) (d : Down F G) : Rowed rows G := fun r hr => by
  obtain ⟨k, e, l⟩ := h r hr
  obtain ⟨k', e', l'⟩ := d _ _ k e
  exact ⟨k', e', by omega⟩
theorem Fw.put {ends : List α} {F : Tb α} (W : Fw rows ends F) {i j : α} {k : Int} (hi : i ∈ ends) (hj : j ∈ ends) (t : Told rows i j k) (h : ∀ x, F i j = some x → k ≤ x) : Fw rows ends (put2 F i j k) := by
  refine ⟨fun a ha => ?_, fun a b x e => ?_, fun a b x e => ?_⟩
  · obtain ⟨x, e, l⟩ := W.diag a ha
    obtain ⟨x', e', l'⟩ := Down.put h a a x e
    exact ⟨x', e', by omega⟩
  · by_cases z : a = i ∧ b = j
    · obtain ⟨rfl, rfl⟩ := z
      rw [put2_at] at e
      injection e with e
      exact e ▸ t
    · rw [put2_off z] at e
      exact W.snd a b x e
  · by_cases z : a = i ∧ b = j
    · exact ⟨z.1 ▸ hi, z.2 ▸ hj⟩
    · rw [put2_off z] at e
      exact W.dom a b x e
/-- within the turn of the middle m, begun at F0 -/
def FwMid (ends : List α) (F0 : Tb α) (m : α) (done : α → α → Prop) (F : Tb α) : Prop := Neg ends F ∨ ((∀ i, F i m = F0 i m) ∧ (∀ j, F m j = F0 m j) ∧ (∀ i j, F i j = F0 i j ∨ ∃ x y, F0 i m = some x ∧ F0 m j = some y ∧ F i j = some (x + y)) ∧ Down F0 F ∧
  ∀ i j, done i j → ∀ x y, F0 i m = some x → F0 m j = some y → ∃ z, F i j = some z ∧ z ≤ x + y)
theorem FwMid.start (ends : List α) (F : Tb α) (m : α) : FwMid ends F m (fun _ _ => False) F := .inr ⟨fun _ => rfl, fun _ => rfl, fun _ _ => .inl rfl, Down.refl F, fun _ _ h => h.elim⟩
theorem FwMid.more {ends : List α} {F0 F : Tb α} {m : α} {d d' : α → α → Prop} (h : FwMid ends F0 m d F) (k : ∀ i j, d' i j → d i j ∨ F0 i m = none ∨ F0 m j = none) : FwMid ends F0 m d' F := by
  rcases h with h | ⟨h1, h2, h3, h4, h5⟩
  · exact .inl h
  · refine .inr ⟨h1, h2, h3, h4, fun i j hd x y e1 e2 => ?_⟩
    rcases k i j hd with z | z | z
    · exact h5 i j z x y e1 e2
    · rw [z] at e1
      cases e1
    · rw [z] at e2
      cases e2
/-- a lesser sum is found -/
theorem FwMid.put {ends : List α} {F0 F : Tb α} {m : α} {d : α → α → Prop} (W : Fw rows ends F) (hm : m ∈ ends) (h : FwMid ends F0 m d F) {i j : α} {x y : Int} (hx : Neg ends F ∨ F0 i m = some x) (hy : F m j = some y) (hlt : ∀ z, F i j = some z → x + y < z) : FwMid ends F0 m (fun a b => d a b ∨ (a = i ∧ b = j)) (put2 F i j (x + y)) := by
  have dn : Down F (put2 F i j (x + y)) := Down.put fun z e => Int.le_of_lt (hlt z e)
  rcases h with h | ⟨h1, h2, h3, h4, h5⟩
  · exact .inl (h.down dn)
  rcases hx with hx | hx
  · exact .inl (hx.down dn)
  by_cases ng : Neg ends F
  · exact .inl (ng.down dn)
  obtain ⟨k, ek, lk⟩ := W.diag m hm
  have k0 : k = 0 := by
    have : ¬ k < 0 := fun z => ng ⟨m, hm, k, ek, z⟩
    omega
  subst k0
  have nj : j ≠ m := fun z => by
    subst z
    rw [ek] at hy
    injection hy with hy
    have := hlt x (by rw [h1]; exact hx)
    omega
  have ni : i ≠ m := fun z => by
    subst z
    rw [← h1, ek] at hx
    injection hx with hx
    have := hlt y hy
    omega
  refine .inr ⟨fun a => ?_, fun b => ?_, fun a b => ?_, h4.trans dn, fun a b hd p q e1 e2 => ?_⟩
  · rw [put2_off fun z => nj z.2.symm]
    exact h1 a
  · rw [put2_off fun z => ni z.1.symm]
    exact h2 b
  · by_cases z : a = i ∧ b = j
    · obtain ⟨rfl, rfl⟩ := z
      exact .inr ⟨x, y, hx, by rw [← h2]; exact hy, put2_at _ _ _ _⟩
    · rw [put2_off z]
      exact h3 a b
  · rcases hd with hd | ⟨rfl, rfl⟩
    · obtain ⟨z, ez, lz⟩ := h5 a b hd p q e1 e2
      obtain ⟨z', ez', lz'⟩ := dn a b z ez
      exact ⟨z', ez', by omega⟩
    · rw [hx] at e1
      rw [← h2, hy] at e2
      injection e1 with e1
      injection e2 with e2
      exact ⟨x + y, put2_at _ _ _ _, by omega⟩
/-- none is found -/
theorem FwMid.skip {ends : List α} {F0 F : Tb α} {m : α} {d : α → α → Prop} (h : FwMid ends F0 m d F) {i j : α} {x y : Int} (hx : Neg ends F ∨ F0 i m = some x) (hy : F m j = some y) {z : Int} (hz : F i j = some z) (hge : z ≤ x + y) : FwMid ends F0 m (fun a b => d a b ∨ (a = i ∧ b = j)) F := by
  rcases h with h | ⟨h1, h2, h3, h4, h5⟩
  · exact .inl h
  rcases hx with hx | hx
  · exact .inl hx
  refine .inr ⟨h1, h2, h3, h4, fun a b hd p q e1 e2 => ?_⟩
  rcases hd with hd | ⟨rfl, rfl⟩
  · exact h5 a b hd p q e1 e2
  · rw [hx] at e1
    rw [← h2, hy] at e2
    injection e1 with e1
    injection e2 with e2
    exact ⟨z, hz, by omega⟩
/-- the turn's end -/
theorem FwMid.clo {ends M : List α} {F0 F : Tb α} {m : α} (W : Fw rows ends F) (W0 : Fw rows ends F0) (hm : m ∈ ends) (hM : ∀ x ∈ M, x ∈ ends) (h : FwMid ends F0 m (fun a b => a ∈ ends ∧ b ∈ ends) F) (c : Neg ends F0 ∨ Clo M F0) : Neg ends F ∨ Clo (M ++ [m]) F := by
  rcases h with h | ⟨h1, h2, h3, h4, h5⟩
  · exact .inl h
  by_cases ng : Neg ends F
  · exact .inl ng
  rcases c with c | c
  · exact .inl (c.down h4)
  have h5 : ∀ i j x y, F0 i m = some x → F0 m j = some y → ∃ z, F i j = some z ∧ z ≤ x + y := fun i j x y e1 e2 => h5 i j ⟨(W0.dom _ _ _ e1).1, (W0.dom _ _ _ e2).2⟩ x y e1 e2
  refine .inr fun g hg i j x y e1 e2 => ?_
  rcases List.mem_append.mp hg with mg | mg
  · -- an earlier middle
    obtain ⟨kg, ekg, lkg⟩ := W.diag g (hM g mg)
    rcases h3 i g with q1 | ⟨x1, x2, q1, q1', q1''⟩
    · rw [q1] at e1
      rcases h3 g j with q2 | ⟨y1, y2, q2, q2', q2''⟩
      · rw [q2] at e2
        obtain ⟨z, ez, lz⟩ := c g mg i j x y e1 e2
        obtain ⟨z', ez', lz'⟩ := h4 i j z ez
        exact ⟨z', ez', by omega⟩
      · rw [q2''] at e2
        injection e2 with e2
        obtain ⟨z, ez, lz⟩ := c g mg i m x y1 e1 q2
        obtain ⟨z', ez', lz'⟩ := h5 i j z y2 ez q2'
        exact ⟨z', ez', by omega⟩
    · rw [q1''] at e1
      injection e1 with e1
      rcases h3 g j with q2 | ⟨y1, y2, q2, q2', q2''⟩
      · rw [q2] at e2
        obtain ⟨z, ez, lz⟩ := c g mg m j x2 y q1' e2
        obtain ⟨z', ez', lz'⟩ := h5 i j x1 z q1 ez
        exact ⟨z', ez', by omega⟩
      · rw [q2''] at e2
        injection e2 with e2
        obtain ⟨z, ez, lz⟩ := c g mg m m x2 y1 q1' q2
        have : ¬ z < 0 := fun w => ng (Neg.down ⟨m, hm, z, ez, w⟩ h4)
        obtain ⟨z', ez', lz'⟩ := h5 i j x1 y2 q1 q2'
        exact ⟨z', ez', by omega⟩
  · rw [List.mem_singleton] at mg
    subst mg
    rw [h1] at e1
    rw [h2] at e2
    exact h5 i j x y e1 e2
/-- the end: no negative sum beside the diagonal, and all is as it should be -/
theorem fw_path {ends : List α} {F : Tb α} (W : Fw rows ends F) (R : Rowed rows F) (C : Clo ends F) {a b : α} {l : List Nat} {s : Int} (h : Path rows a l b s) (ha : a ∈ ends) : ∃ z, F a b = some z ∧ z ≤ s := by
  induction h with
  | nil a => exact W.diag a ha
  | @cons a m b j c s l hj h ih =>
    obtain ⟨x, ex, lx⟩ := R _ (List.mem_of_getElem? hj)
    obtain ⟨y, ey, ly⟩ := ih (W.dom _ _ _ ex).2
    obtain ⟨z, ez, lz⟩ := C m (W.dom _ _ _ ex).2 a b x y ex ey
    have lx : x ≤ c := lx
    exact ⟨z, ez, by omega⟩
theorem fw_none {ends : List α} {F : Tb α} (W : Fw rows ends F) (h : Neg ends F) (v : α → Int) : ¬ Sat rows v := fun hv => by
  obtain ⟨a, ha, k, e, hk⟩ := h
  have := W.snd a a k e v hv
  omega
theorem fw_some {ends : List α} {F : Tb α} (W : Fw rows ends F) (R : Rowed rows F) (C : Clo ends F) (ng : ¬ Neg ends F) (hends : ∀ r ∈ rows, r.1 ∈ ends) : ∃ v, Sat rows v ∧ ∀ a ∈ ends, ∀ b ∈ ends, D rows a b = F a b := by
  rcases sat_or _ rows rfl with ⟨v, hv⟩ | ⟨a, l, s, hp, hs⟩
  · refine ⟨v, hv, fun a ha b hb => ?_⟩
    cases e : D rows a b with
    | some x =>
      obtain ⟨l, s, hp, hs⟩ := told_path hv (d_told hv e)
      obtain ⟨z, ez, lz⟩ := fw_path W R C hp ha
      obtain ⟨y, ey, ly⟩ := told_d hv (W.snd a b z ez)
      rw [e] at ey
      injection ey with ey
      rw [ez]
      congr 1
      omega
    | none =>
      cases e2 : F a b with
      | none => rfl
      | some z =>
        obtain ⟨y, ey, _⟩ := told_d hv (W.snd a b z e2)
        rw [e] at ey
        cases ey
  · have ha : a ∈ ends := by
      cases hp with
      | nil => omega
      | cons hj _ => exact hends _ (List.mem_of_getElem? hj)
    obtain ⟨z, ez, lz⟩ := fw_path W R C hp ha
    exact absurd ⟨a, ha, z, ez, by omega⟩ ng
end
end Lo
namespace Lo
open PySem L2
abbrev sTightened : Stmt := top 13
abbrev sWithRows : Stmt := top 14
abbrev sLowered : Stmt := top 15
abbrev sTableOf : Stmt := top 16
/-! ### _lowered -/
/-- keys and values as one function -/
def opt (ks : List Str) (f : Str → Int) (y : Str) : Option Int := if y ∈ ks then some (f y) else none
theorem opt_in {ks : List Str} {f : Str → Int} {y : Str} (h : y ∈ ks) : opt ks f y = some (f y) := if_pos h
theorem opt_out {ks : List Str} {f : Str → Int} {y : Str} (h : y ∉ ks) : opt ks f y = none := if_neg h
theorem opt_some {ks : List Str} {f : Str → Int} {y : Str} {k : Int} (h : opt ks f y = some k) : y ∈ ks ∧ f y = k := by
  by_cases m : y ∈ ks
  · rw [opt_in m] at h
    exact ⟨m, Option.some.inj h⟩
  · rw [opt_out m] at h
    cases h
/-- one entry is lowered -/
def lowS (base : Int) (kf : List Str × (Str → Int)) (q : Str × Int) : List Str × (Str → Int) :=
  if q.1 ∉ kf.1 ∨ base + q.2 < kf.2 q.1 then (addN kf.1 q.1, put kf.2 q.1 (base + q.2)) else kf
def low (base : Int) (kf : List Str × (Str → Int)) (fs : List (Str × Int)) : List Str × (Str → Int) := fs.foldl (lowS base) kf
theorem lowS_opt (base : Int) (kf : List Str × (Str → Int)) (q : Str × Int) (y : Str) : opt (lowS base kf q).1 (lowS base kf q).2 y = if y = q.1 then minO (opt kf.1 kf.2 y) (some (base + q.2)) else opt kf.1 kf.2 y := by
  unfold lowS
  by_cases c : q.1 ∉ kf.1 ∨ base + q.2 < kf.2 q.1
  · rw [if_pos c]
    dsimp only
    by_cases e : y = q.1
    · rw [if_pos e, opt_in (mem_addN.mpr (.inr e)), e, put_at]
      by_cases m : q.1 ∈ kf.1
      · rw [opt_in m]
        have := c.resolve_left fun z => z m
        show _ = some (if base + q.2 < kf.2 q.1 then base + q.2 else kf.2 q.1)
        rw [if_pos this]
      · rw [opt_out m]
        rfl
    · rw [if_neg e]
      by_cases m : y ∈ kf.1
      · rw [opt_in (mem_addN.mpr (.inl m)), opt_in m, put_off e]
      · rw [opt_out (fun z => (mem_addN.mp z).elim m e), opt_out m]
  · rw [if_neg c]
    by_cases e : y = q.1
    · rw [if_pos e]
      have m : q.1 ∈ kf.1 := Classical.byContradiction fun z => c (.inl z)
      have l : ¬ base + q.2 < kf.2 q.1 := fun z => c (.inr z)
      rw [e, opt_in m]
      show _ = some (if base + q.2 < kf.2 q.1 then base + q.2 else kf.2 q.1)
      rw [if_neg l]
    · rw [if_neg e]
theorem lowS_nd {base : Int} {kf : List Str × (Str → Int)} {q : Str × Int} (h : kf.1.Nodup) : (lowS base kf q).1.Nodup := by
  unfold lowS
  split
  · exact nodup_addN h
  · exact h
theorem low_nd {base : Int} : ∀ (fs : List (Str × Int)) (kf : List Str × (Str → Int)), kf.1.Nodup → (low base kf fs).1.Nodup
  | [], kf, h => h
  | q :: fs, kf, h => low_nd fs _ (lowS_nd h)
theorem low_len {base : Int} : ∀ (fs : List (Str × Int)) (kf : List Str × (Str → Int)), (low base kf fs).1.length ≤ kf.1.length + fs.length
  | [], kf => Nat.le_refl _
  | q :: fs, kf => by
    have ih := low_len (base := base) fs (lowS base kf q)
    have : (lowS base kf q).1.length ≤ kf.1.length + 1 := by
      unfold lowS
      split
      · exact length_addN
      · omega
    rw [List.length_cons]
    show (low base (lowS base kf q) fs).1.length ≤ _
    omega
theorem low_opt {base : Int} : ∀ (fs : List (Str × Int)) (kf : List Str × (Str → Int)), (fs.map (·.1)).Nodup → ∀ y,
    (∀ m, (y, m) ∈ fs → opt (low base kf fs).1 (low base kf fs).2 y = minO (opt kf.1 kf.2 y) (some (base + m))) ∧ (y ∉ fs.map (·.1) → opt (low base kf fs).1 (low base kf fs).2 y = opt kf.1 kf.2 y)
  | [], kf, _, y => ⟨fun m h => absurd h List.not_mem_nil, fun _ => rfl⟩
  | q :: fs, kf, h, y => by
    rw [List.map_cons] at h
    obtain ⟨h1, h2⟩ := List.nodup_cons.mp h
    obtain ⟨i1, i2⟩ := low_opt (base := base) fs (lowS base kf q) h2 y
    refine ⟨fun m hm => ?_, fun hn => ?_⟩
    · rcases List.mem_cons.mp hm with e | e
      · have e1 : q.1 = y := by rw [← e]
        have e2 : q.2 = m := by rw [← e]
        have := i2 (e1 ▸ h1)
        show opt (low base (lowS base kf q) fs).1 (low base (lowS base kf q) fs).2 y = _
        rw [this, lowS_opt, if_pos e1.symm, e2]
      · have ny : y ≠ q.1 := fun z => h1 (z ▸ List.mem_map.mpr ⟨_, e, rfl⟩)
        have := i1 m e
        show opt (low base (lowS base kf q) fs).1 (low base (lowS base kf q) fs).2 y = _
        rw [this, lowS_opt, if_neg ny]
    · rw [List.map_cons] at hn
      have := i2 fun z => hn (List.mem_cons_of_mem _ z)
      show opt (low base (lowS base kf q) fs).1 (low base (lowS base kf q) fs).2 y = _
      rw [this, lowS_opt, if_neg (fun z : y = q.1 => hn (z ▸ List.mem_cons_self))]
theorem low_snoc (base : Int) (kf : List Str × (Str → Int)) (fs : List (Str × Int)) (q : Str × Int) : low base kf (fs ++ [q]) = lowS base (low base kf fs) q := by
  unfold low
  rw [List.foldl_append]
  rfl
/-- pairs of a name and a number, in a list -/
def Prs (H : Hp) (l : Addr) (fs : List (Str × Int)) : Prop := ∃ qs : List Addr, H l = some (.lst (qs.map V.ref)) ∧ qs.length = fs.length ∧ ∀ (i : Nat) (q : Addr) (r : Str × Int), qs[i]? = some q → fs[i]? = some r → H q = some (.tup [.str r.1, .int r.2])
theorem Prs.same {H H' : Hp} {l : Addr} {fs : List (Str × Int)} (s : Same H H') (h : Prs H l fs) : Prs H' l fs := by
  obtain ⟨qs, h1, h2, h3⟩ := h
  exact ⟨qs, s _ _ h1, h2, fun i q r hq hr => s _ _ (h3 i q r hq hr)⟩
section
variable {P : Program} {w : World} {K : PySem.W.Frag} {mg : Str → Option Value} {base : Heap}
def spLowered : Sp := fun vs H Q _ => ∃ (r l : Addr) (b : Int) (ks : List Str) (f : Str → Int) (fs : List (Str × Int)), vs = [.ref r, .int b, .ref l] ∧ H r = some (.dK (dS ks fun x => .int (f x))) ∧ Prs H l fs ∧ ks.length ≤ 300 ∧ fs.length ≤ 300 ∧
  ∀ H' d, Same H H' → H d = none → H' d = some (.dK (dS (low b (ks, f) fs).1 fun x => .int ((low b (ks, f) fs).2 x))) → Q (.ref d) H'
abbrev nLowered : List Str := ["row", "base", "further", "found", "name", "more"]
theorem scLowered : FnScope nLowered ["row", "base", "further"] (defScope sLowered) := ⟨rfl, rfl, rfl, by decide +kernel, rfl, by decide +kernel, by decide +kernel⟩
theorem ok_lowered {f : Addr} {fd : FuncData} (F : Fun K "_lowered" "_lowered" sLowered f fd) (U : Blt2 mg) : FnOk P w K mg base CX0 1 f fd ["row", "base", "further"] spLowered := by
  refine F.ok scLowered (fun vs H Q E h => ?_) (fun cdv A outer s H vs Q E hr h => ?_)
  · obtain ⟨r, l, b, ks, f, fs, rfl, _⟩ := h
    rfl
  · obtain ⟨r, l, b, ks, f, fs, rfl, hr0, ⟨qs, hl, hql, hqs⟩, k3, f3, q⟩ := h
    have nd := scLowered.nd
    have hu := hu_of hr
    refine ⟨_, pss_cons (ps_set (i := 3) nd rfl (.inl rfl) (pe_callTy call_dictD (by rfl) U.dict PyProof.Rows.boot_dict (pa_cons (pv 0) pa_nil)))
      (pss_cons (ps_for PassesOwn.never rfl (pi_list (pv 2)) (pg_tup rfl (pgs_cons (pg_name (i := 4) nd rfl (.inl rfl)) (pgs_cons (pg_name (i := 5) nd rfl (.inl rfl)) pgs_nil)))
        (pss_one (ps_if (PW.pt (pw_or (pt_cmp (pc_dnotin hu (pv 4) (pv 3))) (pw_or1 (pt_cmpR op_lt (pe_op op_add (pv 1) (pv 5)) (pe_dget hu (pv 3) (pv 4) (fun _ _ => rfl)) (nomark _)))))
          (pss_one (ps_dput hu (pv 3) (pv 4) (pe_op op_add (pv 1) (pv 5)) rfl)) pss_nil)))
      (pss_one (ps_ret (pv 3)))), ?_⟩
    refine ⟨.ref r, rfl, r, _, rfl, Rd.of hr0, fun d nd' => ?_⟩
    have s1 := same_upd (o := HO.dK (dS ks fun x => .int (f x))) nd'
    refine ⟨.ref l, rfl, l, rfl, ⟨_, SqL.of (s1 _ _ hl)⟩, for_list (K := K) (a := l) (xs := qs.map V.ref) (fun i σ H' => ∃ (y4 y5 : Option V), σ = [some (.ref r), some (.int b), some (.ref l), some (.ref d), y4, y5] ∧ Same H H' ∧ H' d = some (.dK (dS (low b (ks, f) (fs.take i)).1 fun x => .int ((low b (ks, f) (fs.take i)).2 x))))
      ⟨none, none, rfl, s1, upd_same⟩ (fun i σ H' _ ⟨_, _, _, e, _⟩ => SqL.of (e _ _ hl)) ?_ ?_⟩
    · rintro i x σ H1 hi ⟨y4, y5, rfl, s2, hd⟩
      have hi1 : i < qs.length := by
        have := (List.getElem?_eq_some_iff.mp hi).1
        rw [List.length_map] at this
        exact this
      obtain rfl : x = .ref qs[i] := by
        rw [List.getElem?_map, List.getElem?_eq_getElem hi1] at hi
        exact (Option.some.inj hi).symm
      have hi2 : i < fs.length := hql ▸ hi1
      have hq := s2 _ _ (hqs i _ _ (List.getElem?_eq_getElem hi1) (List.getElem?_eq_getElem hi2))
      have etake : fs.take (i + 1) = fs.take i ++ [fs[i]] := by rw [List.take_add_one, List.getElem?_eq_getElem hi2]; rfl
      generalize hkf : low b (ks, f) (fs.take i) = kf at hd
      have hlen : kf.1.length ≤ 600 := by
        have := low_len (base := b) (fs.take i) (ks, f)
        rw [hkf, List.length_take] at this
        simp only at this
        omega
      obtain ⟨y, m, hym⟩ : ∃ y m, fs[i] = (y, m) := ⟨_, _, rfl⟩
      rw [hym] at hq etake
      refine ⟨qs[i], _, rfl, SqT.of hq, rfl, _, _, rfl, _, _, rfl, rfl, ?_⟩
      have fin : ∀ (z4 z5 : Option V), (y ∉ kf.1 ∨ b + m < kf.2 y) → ∃ (y4 y5 : Option V), [some (V.ref r), some (.int b), some (.ref l), some (.ref d), z4, z5] = [some (V.ref r), some (.int b), some (.ref l), some (.ref d), y4, y5] ∧ Same H (upd H1 d (.dK (dS (addN kf.1 y) (put (fun x => V.int (kf.2 x)) y (.int (b + m)))))) ∧
          upd H1 d (.dK (dS (addN kf.1 y) (put (fun x => V.int (kf.2 x)) y (.int (b + m))))) d = some (.dK (dS (low b (ks, f) (fs.take i ++ [(y, m)])).1 fun x => .int ((low b (ks, f) (fs.take i ++ [(y, m)])).2 x))) := fun z4 z5 c => by
        refine ⟨z4, z5, rfl, s2.later nd', ?_⟩
        have : lowS b kf (y, m) = (addN kf.1 y, put kf.2 y (b + m)) := if_pos c
        rw [upd_same, low_snoc, hkf, this, put_map (fun n : Int => V.int n)]
      rw [etake]
      by_cases hy : y ∈ kf.1
      · refine ⟨.str y, rfl, .ref d, rfl, d, _, rfl, dget hd hy, _, rfl, iteF ?_⟩
        refine ⟨.int b, rfl, .int m, rfl, _, _, rfl, rfl, .ref d, rfl, .str y, rfl, d, _, rfl, dget hd hy, _, _, rfl, rfl, _, rfl, ite2 (fun e => ?_) (fun e => ?_)⟩
        · have hlt := of_decide_eq_true e
          exact ⟨.int b, rfl, .int m, rfl, _, _, rfl, rfl, .ref d, rfl, .str y, rfl, d, _, rfl, dput y (.int (b + m)) hd (by omega), fin _ _ (.inr hlt)⟩
        · have hge : ¬ b + m < kf.2 y := fun z => e (decide_eq_true z)
          refine ⟨_, _, rfl, s2, ?_⟩
          have : lowS b kf (y, m) = kf := if_neg fun c => c.elim (fun z => z hy) hge
          rw [low_snoc, hkf, this]
          exact hd
      · refine ⟨.str y, rfl, .ref d, rfl, d, _, rfl, dget0 hd hy, _, rfl, iteT (iteT ?_)⟩
        exact ⟨.int b, rfl, .int m, rfl, _, _, rfl, rfl, .ref d, rfl, .str y, rfl, d, _, rfl, dput y (.int (b + m)) hd (by omega), fin _ _ (.inl hy)⟩
    · rintro σ H1 ⟨y4, y5, rfl, s2, hd⟩
      rw [List.length_map, hql, List.take_length] at hd
      exact ⟨.ref d, rfl, q H1 d s2 nd' hd⟩
end
end Lo
namespace Lo
open PySem L2
/-- a table of rows of numbers, each row a dict of its own -/
structure TabG (H : Hp) (d : Addr) (ns : List Str) (ra : Str → Addr) (rk : Str → List Str) (rv : Str → Str → Int) : Prop where
  dict : H d = some (.dK (dS ns fun x => .ref (ra x)))
  nd : ns.Nodup
  row : ∀ x ∈ ns, H (ra x) = some (.dK (dS (rk x) fun y => .int (rv x y)))
  off : ∀ x ∈ ns, ra x ≠ d
  rnd : ∀ x ∈ ns, (rk x).Nodup
def Tells (ns : List Str) (rk : Str → List Str) (rv : Str → Str → Int) (G : Str → Str → Option Int) : Prop := ∀ x ∈ ns, ∀ y, opt (rk x) (rv x) y = G x y
theorem TabG.same {H H' : Hp} {d : Addr} {ns : List Str} {ra : Str → Addr} {rk : Str → List Str} {rv : Str → Str → Int} (s : Same H H') (T : TabG H d ns ra rk rv) : TabG H' d ns ra rk rv :=
  ⟨s _ _ T.dict, T.nd, fun x hx => s _ _ (T.row x hx), T.off, T.rnd⟩
theorem TabG.put {H : Hp} {d : Addr} {ns : List Str} {ra : Str → Addr} {rk : Str → List Str} {rv : Str → Str → Int} (T : TabG H d ns ra rk rv) {x : Str} {z : Addr} {ks : List Str} {f : Str → Int} (hz : H z = some (.dK (dS ks fun y => .int (f y)))) (nz : z ≠ d) (hk : ks.Nodup) :
    TabG (upd H d (.dK (dS (addN ns x) (put (fun x => V.ref (ra x)) x (.ref z))))) d (addN ns x) (put ra x z) (put rk x ks) (put rv x f) := by
  refine ⟨by rw [upd_same, put_map (fun n : Addr => V.ref n)], nodup_addN T.nd, fun w hw => ?_, fun w hw => ?_, fun w hw => ?_⟩
  · by_cases e : w = x
    · rw [e, put_at, put_at, put_at, upd_ne nz]
      exact hz
    · have m := (mem_addN.mp hw).resolve_right e
      rw [put_off e, put_off e, put_off e, upd_ne (T.off w m)]
      exact T.row w m
  · by_cases e : w = x
    · rw [e, put_at]
      exact nz
    · rw [put_off e]
      exact T.off w ((mem_addN.mp hw).resolve_right e)
  · by_cases e : w = x
    · rw [e, put_at]
      exact hk
    · rw [put_off e]
      exact T.rnd w ((mem_addN.mp hw).resolve_right e)
theorem Tells.put {ns : List Str} {rk : Str → List Str} {rv : Str → Str → Int} {G : Str → Str → Option Int} (T : Tells ns rk rv G) {x : Str} {ks : List Str} {f : Str → Int} (h : ∀ y, opt ks f y = G x y) : Tells (addN ns x) (Lo.put rk x ks) (Lo.put rv x f) G := fun w hw y => by
  by_cases e : w = x
  · rw [e, put_at, put_at]
    exact h y
  · rw [put_off e, put_off e]
    exact T w ((mem_addN.mp hw).resolve_right e) y
/-- a side that is reached is the first or has a row -/
theorem d_named {rows : List SRow} {v : Str → Int} (hv : Sat rows v) {x y : Str} {k : Int} (h : D rows x y = some k) : y = x ∨ Named rows y := by
  refine Classical.byContradiction fun n => ?_
  have nx : y ≠ x := fun e => n (.inl e)
  have ny : ¬ Named rows y := fun e => n (.inr e)
  have B := closed_best (rows := rows) (a := x) (f := fun z => if z = y then none else D rows x z) (by show (if x = y then none else D rows x x) = some 0; rw [if_neg (fun e => nx e.symm), d_self hv]) (fun z k e => by
    by_cases q : z = y
    · simp only [if_pos q] at e
      cases e
    · simp only [if_neg q] at e
      exact d_told hv e) (fun r hr k e => by
    have q1 : r.1 ≠ y := fun e => ny ⟨r, hr, .inl e.symm⟩
    have q2 : r.2.1 ≠ y := fun e => ny ⟨r, hr, .inr e.symm⟩
    simp only [if_neg q1] at e
    simp only [if_neg q2]
    obtain ⟨c, ec, lc⟩ := d_row hv (show (r.1, r.2.1, r.2.2) ∈ rows from hr)
    obtain ⟨z, ez, lz⟩ := d_tri hv e ec
    exact ⟨z, ez, by omega⟩) hv y
  have := d_of hv B
  rw [h, if_pos rfl] at this
  cases this
theorem keys_few {rows : List SRow} {v : Str → Int} (hv : Sat rows v) {ns : List Str} {rk : Str → List Str} {rv : Str → Str → Int} (T : Tells ns rk rv (D rows)) (hn : ∀ x, Named rows x → x ∈ ns) {x : Str} (hx : x ∈ ns) (hd : (rk x).Nodup) : (rk x).length ≤ ns.length := by
  refine nodup_le _ _ hd fun y hy => ?_
  have := T x hx y
  rw [opt_in hy] at this
  rcases d_named hv this.symm with e | e
  · exact e ▸ hx
  · exact hn y e
section
variable {P : Program} {w : World} {K : PySem.W.Frag} {mg : Str → Option Value} {base : Heap}
/-! ### _with_rows -/
def spWithRows : Sp := fun vs H Q _ => ∃ (t : Addr) (l r : Str) (rows : List SRow) (v : Str → Int) (ns : List Str) (ra : Str → Addr) (rk : Str → List Str) (rv : Str → Str → Int), vs = [.ref t, .str l, .str r] ∧ TabG H t ns ra rk rv ∧ Tells ns rk rv (D rows) ∧ Sat rows v ∧ l ≠ r ∧ ns.length ≤ 250 ∧ (∀ x, Named rows x → x ∈ ns) ∧
  ∀ H' d ns' ra' rk' rv', Same H H' → H d = none → TabG H' d ns' ra' rk' rv' → Tells ns' rk' rv' (D rows) → (∀ x ∈ ns, x ∈ ns') → l ∈ ns' → r ∈ ns' → (∀ x ∈ ns', x ∈ ns ∨ x = l ∨ x = r) → Q (.ref d) H'
abbrev nWithRows : List Str := ["table", "left", "right", "found", "name"]
theorem scWithRows : FnScope nWithRows ["table", "left", "right"] (defScope sWithRows) := ⟨rfl, rfl, rfl, by decide +kernel, rfl, by decide +kernel, by decide +kernel⟩
theorem ok_withrows {f : Addr} {fd : FuncData} (F : Fun K "_with_rows" "_with_rows" sWithRows f fd) (U : Blt2 mg) : FnOk P w K mg base CX0 1 f fd ["table", "left", "right"] spWithRows := by
  refine F.ok scWithRows (fun vs H Q E h => ?_) (fun cdv A outer s H vs Q E hr h => ?_)
  · obtain ⟨t, l, r, rows, v, ns, ra, rk, rv, rfl, _⟩ := h
    rfl
  · obtain ⟨t, l, r, rows, v, ns, ra, rk, rv, rfl, TG, Te, hv, nlr, few, hn, q⟩ := h
    have nd := scWithRows.nd
    have hu := hu_of hr
    refine ⟨_, pss_cons (ps_set (i := 3) nd rfl (.inl rfl) (pe_callTy call_dictD (by rfl) U.dict PyProof.Rows.boot_dict (pa_cons (pv 0) pa_nil)))
      (pss_cons (ps_for PassesOwn.never rfl (pi_tup (pe_tup (pa_cons (pv 1) (pa_cons (pv 2) pa_nil)))) (pg_name (i := 4) nd rfl (.inl rfl))
        (pss_one (ps_if (pt_cmp (pc_dnotin hu (pv 4) (pv 0))) (pss_one (ps_dput hu (pv 3) (pv 4) (pe_disp (pps_cons (pv 4) pe_int pps_nil) rfl rfl (fun z => nomatch z) (by decide)) rfl)) pss_nil)))
      (pss_one (ps_ret (pv 3)))), ?_⟩
    refine ⟨.ref t, rfl, t, _, rfl, Rd.of TG.dict, fun d nd' => ?_⟩
    have s1 := same_upd (o := HO.dK (dS ns fun x => V.ref (ra x))) nd'
    have T1 : TabG (upd H d (.dK (dS ns fun x => .ref (ra x)))) d ns ra rk rv := ⟨upd_same, TG.nd, fun x hx => s1 _ _ (TG.row x hx), fun x hx e => (by
      have z := TG.row x hx
      rw [e, nd'] at z
      exact nomatch z), TG.rnd⟩
    refine ⟨.str l, rfl, .str r, rfl, by show 2 ≤ sizeLine; decide, fun tp ntp => ?_⟩
    have s2 := same_upd (o := HO.tup [V.str l, V.str r]) ntp
    refine ⟨tp, rfl, ⟨_, SqT.of upd_same⟩, for_tup (K := K) (a := tp) (xs := [.str l, .str r]) (fun i σ H' => ∃ (y4 : Option V) (ns' : List Str) (ra' : Str → Addr) (rk' : Str → List Str) (rv' : Str → Str → Int), σ = [some (.ref t), some (.str l), some (.str r), some (.ref d), y4] ∧ Same H H' ∧ H' tp = some (.tup [.str l, .str r]) ∧
        TabG H' d ns' ra' rk' rv' ∧ Tells ns' rk' rv' (D rows) ∧ (∀ x ∈ ns, x ∈ ns') ∧ (1 ≤ i → l ∈ ns') ∧ (2 ≤ i → r ∈ ns') ∧ (∀ x ∈ ns', x ∈ ns ∨ x = l ∨ x = r) ∧ ns'.length ≤ ns.length + i)
      ⟨none, ns, ra, rk, rv, rfl, s1.trans s2, upd_same, T1.same s2, Te, fun x h => h, fun h => (nomatch h), fun h => (nomatch h), fun x h => .inl h, Nat.le_refl _⟩ (fun i σ H' _ ⟨_, _, _, _, _, _, _, e, _⟩ => SqT.of e) ?_ ?_⟩
    · rintro i x σ H1 hi ⟨y4, ns', ra', rk', rv', rfl, s3, htp, T3, Te3, sub, hl, hr', only, len⟩
      obtain ⟨z, rfl, zl, zr, zo⟩ : ∃ z : Str, x = .str z ∧ (i = 0 → z = l) ∧ (i = 1 → z = r) ∧ (z = l ∨ z = r) := by
        match i, hi with
        | 0, hi => exact ⟨l, (Option.some.inj hi).symm, fun _ => rfl, fun e => (nomatch e), .inl rfl⟩
        | 1, hi => exact ⟨r, (Option.some.inj hi).symm, fun e => (nomatch e), fun _ => rfl, .inr rfl⟩
      have hi2 : i < 2 := (List.getElem?_eq_some_iff.mp hi).1
      have ht3 := s3 _ _ TG.dict
      have fin1 : ∀ {ns2 : List Str}, (∀ x ∈ ns', x ∈ ns2) → z ∈ ns2 → (1 ≤ i + 1 → l ∈ ns2) ∧ (2 ≤ i + 1 → r ∈ ns2) := fun {ns2} h hz => by
        refine ⟨fun _ => ?_, fun k => ?_⟩
        · by_cases e : i = 0
          · exact zl e ▸ hz
          · exact h l (hl (by omega))
        · exact zr (by omega) ▸ hz
      by_cases m : z ∈ ns
      · refine ⟨.str z, rfl, .ref t, rfl, t, _, rfl, dget ht3 m, _, rfl, iteF ?_⟩
        obtain ⟨f1, f2⟩ := fin1 (fun x h => h) (sub z m)
        exact ⟨_, ns', ra', rk', rv', rfl, s3, htp, T3, Te3, sub, f1, f2, only, by omega⟩
      · refine ⟨.str z, rfl, .ref t, rfl, t, _, rfl, dget0 ht3 m, _, rfl, iteT ?_⟩
        intro n0 nn0
        have s4 := same_upd (o := HO.dK []) nn0
        have em : mergeK [] [((Sum.inr z : Key), V.int 0)] = dS [z] fun _ => .int 0 := by
          show putK (dS [] fun _ => V.int 0) (Sum.inr z) (.int 0) = _
          rw [dS_put]
          have e : put (fun _ : Str => V.int 0) z (.int 0) = fun _ => V.int 0 := by
            funext q
            unfold put
            split <;> rfl
          rw [e]
          rfl
        refine ⟨.str z, rfl, upd_same, [((Sum.inr z : Key), V.int 0)], rfl, by show 1 ≤ 15; decide, ?_⟩
        rw [em, upd_upd]
        have s5 : Same H1 (upd H1 n0 (.dK (dS [z] fun _ => .int 0))) := same_upd nn0
        have T5 := T3.same s5
        have hd5 := T5.dict
        have nz : n0 ≠ d := fun e => by
          rw [e, T3.dict] at nn0
          cases nn0
        refine ⟨.ref d, rfl, .str z, rfl, d, _, rfl, dput z (.ref n0) hd5 (by omega), ?_⟩
        have T6 := T5.put (x := z) (z := n0) (ks := [z]) (f := fun _ => 0) upd_same nz (nd_one z)
        have nalone : ∀ q ∈ rows, q.1 ≠ z := fun q hq e => m (hn z ⟨q, hq, .inl e.symm⟩)
        have Te6 := Te3.put (x := z) (ks := [z]) (f := fun _ => 0) fun y => by
          rw [d_alone hv nalone y]
          unfold opt
          simp only [List.mem_singleton]
        obtain ⟨f1, f2⟩ := fin1 (ns2 := addN ns' z) (fun x h => mem_addN.mpr (.inl h)) (mem_addN.mpr (.inr rfl))
        have ntp' : tp ≠ d := ne_of htp T3.dict (by intro q; cases q)
        refine ⟨_, _, _, _, _, rfl, (s3.trans s5).later nd', ?_, T6, Te6, fun x h => mem_addN.mpr (.inl (sub x h)), f1, f2, fun x h => ?_, ?_⟩
        · rw [upd_ne ntp']
          exact s5 _ _ htp
        · rcases mem_addN.mp h with h | h
          · exact only x h
          · exact .inr (h ▸ zo)
        · have := length_addN (l := ns') (x := z)
          omega
    · rintro σ H1 ⟨y4, ns', ra', rk', rv', rfl, s3, htp, T3, Te3, sub, hl, hr', only, len⟩
      exact ⟨.ref d, rfl, q H1 d ns' ra' rk' rv' s3 nd' T3 Te3 sub (hl (by show 1 ≤ 2; decide)) (hr' (by show 2 ≤ 2; decide)) only⟩
end
end Lo
namespace Lo
open PySem L2
/-- all but one thing is as it was -/
def SameX (t : Addr) (H H' : Hp) : Prop := ∀ b o, b ≠ t → H b = some o → H' b = some o
theorem SameX.trans {t : Addr} {H H' H'' : Hp} (h : SameX t H H') (k : SameX t H' H'') : SameX t H H'' := fun b o n e => k b o n (h b o n e)
theorem same_x {t : Addr} {H H' : Hp} (h : Same H H') : SameX t H H' := fun b o _ e => h b o e
theorem sameX_back {t : Addr} {H H' : Hp} {o : HO} (e : H t = some o) (h : SameX t H H') : Same H (upd H' t o) := fun b x q => by
  by_cases z : b = t
  · rw [z, upd_same]
    rw [z] at q
    exact e.symm.trans q
  · rw [upd_ne z]
    exact h b x z q
theorem rget {H : Hp} {a : Addr} {ks : List Str} {f : Str → V} {x : Str} (e : Rd H a (.dK (dS ks f))) (h : x ∈ ks) : DGet H a (.str x) (some (f x)) := .inl ⟨_, Sum.inr x, e, rfl, by rw [dS_in h]⟩
theorem rget0 {H : Hp} {a : Addr} {ks : List Str} {f : Str → V} {x : Str} (e : Rd H a (.dK (dS ks f))) (h : x ∉ ks) : DGet H a (.str x) none := .inl ⟨_, Sum.inr x, e, rfl, by rw [dS_out h]⟩
theorem dS_at {ks : List Str} {f : Str → V} {i : Nat} (hi : i < ks.length) : (dS ks f)[i]? = some (Sum.inr ks[i], f ks[i]) := by
  unfold dS
  rw [List.getElem?_map, List.getElem?_eq_getElem hi]
  rfl
theorem Prs.unfrz {H : Hp} {L t : Addr} {fs : List (Str × Int)} {od : Obj} {u o : HO} (h : Prs H L fs) (ht : H t = some (.frz od u)) : Prs (upd H t o) L fs := by
  obtain ⟨qs, h1, h2, h3⟩ := h
  refine ⟨qs, by rw [upd_ne (ne_of h1 ht (by intro z; cases z))]; exact h1, h2, fun i q r hq hr => ?_⟩
  have z := h3 i q r hq hr
  rw [upd_ne (ne_of z ht (by intro z; cases z))]
  exact z
theorem TabG.aside {H : Hp} {d t : Addr} {ns : List Str} {ra : Str → Addr} {rk : Str → List Str} {rv : Str → Str → Int} {o : HO} (T : TabG H d ns ra rk rv) (h : d ≠ t) (k : ∀ x ∈ ns, ra x ≠ t) : TabG (upd H t o) d ns ra rk rv :=
  ⟨by rw [upd_ne h]; exact T.dict, T.nd, fun x hx => by rw [upd_ne (k x hx)]; exact T.row x hx, T.off, T.rnd⟩
/-- what tightened answers -/
def TightAns (H : Hp) (x : V) (rows : List SRow) (l r : Str) (c : Int) (ns : List Str) : Prop :=
  (x = .non ∧ ∀ u, ¬ Sat (rows ++ [(l, r, c)]) u) ∨ ∃ d ra rk rv, x = .ref d ∧ TabG H d ns ra rk rv ∧ Tells ns rk rv (D (rows ++ [(l, r, c)])) ∧ ∃ u, Sat (rows ++ [(l, r, c)]) u
theorem or_fn {P : Program} {w : World} {K : PySem.W.Frag} {mg : Str → Option Value} {base : Heap} {CX : CXT} {k j : Nat} {f : Addr} {fd : FuncData} {ps : List Str} {sp1 sp2 : Sp} (h1 : FnOk P w K mg base CX k f fd ps sp1) (h2 : FnOk P w K mg base CX j f fd ps sp2) (hk : k ≤ j) :
    FnOk P w K mg base CX j f fd ps (fun vs H Q E => sp1 vs H Q E ∨ sp2 vs H Q E) := by
  constructor
  · rintro vs H Q E (h | h)
    · exact h1.len vs H Q E h
    · exact h2.len vs H Q E h
  · rintro A o s H as us vs Q E room env bd vl (h | h)
    · exact h1.run A o s H as us vs Q E (room.mono hk) env bd vl h
    · exact h2.run A o s H as us vs Q E room env bd vl h
section
variable {P : Program} {w : World} {K : PySem.W.Frag} {mg : Str → Option Value} {base : Heap}
/-! ### tightened, both sides in the table -/
def spTight1 : Sp := fun vs H Q _ => ∃ (t : Addr) (l r : Str) (c : Int) (rows : List SRow) (v : Str → Int) (ns : List Str) (ra : Str → Addr) (rk : Str → List Str) (rv : Str → Str → Int), vs = [.ref t, .str l, .str r, .int c] ∧ TabG H t ns ra rk rv ∧ Tells ns rk rv (D rows) ∧ Sat rows v ∧ l ≠ r ∧ ns.length ≤ 250 ∧ (∀ x, Named rows x → x ∈ ns) ∧
  l ∈ ns ∧ r ∈ ns ∧ ∀ H' x, Same H H' → TightAns H' x rows l r c ns → Q x H'
abbrev nTightened : List Str := ["table", "left", "right", "limit", "ahead", "behind", "name", "further", "found", "row", "more"]
theorem scTightened : FnScope nTightened ["table", "left", "right", "limit"] (defScope sTightened) := ⟨rfl, rfl, rfl, by decide +kernel, rfl, by decide +kernel, by decide +kernel⟩
/-- the names that go on from right better -/
def frth (rk : Str → List Str) (rv : Str → Str → Int) (l r : Str) (c : Int) (ys : List Str) : List (Str × Int) := (ys.filter fun y => decide (y ∉ rk l ∨ c + rv r y < rv l y)).map fun y => (y, c + rv r y)
theorem frth_snoc (rk : Str → List Str) (rv : Str → Str → Int) (l r : Str) (c : Int) (ys : List Str) (y : Str) : frth rk rv l r c (ys ++ [y]) = if y ∉ rk l ∨ c + rv r y < rv l y then frth rk rv l r c ys ++ [(y, c + rv r y)] else frth rk rv l r c ys := by
  unfold frth
  rw [List.filter_append, List.map_append]
  by_cases h : y ∉ rk l ∨ c + rv r y < rv l y
  · rw [if_pos h]
    have e : [y].filter (fun y => decide (y ∉ rk l ∨ c + rv r y < rv l y)) = [y] := by
      rw [List.filter_cons]
      exact if_pos (decide_eq_true h)
    rw [e]
    rfl
  · rw [if_neg h]
    have e : [y].filter (fun y => decide (y ∉ rk l ∨ c + rv r y < rv l y)) = [] := by
      rw [List.filter_cons]
      exact if_neg (by rw [decide_eq_true_eq]; exact h)
    rw [e]
    show _ ++ [] = _
    rw [List.append_nil]
theorem frth_len (rk : Str → List Str) (rv : Str → Str → Int) (l r : Str) (c : Int) (ys : List Str) : (frth rk rv l r c ys).length ≤ ys.length := by
  unfold frth
  rw [List.length_map]
  exact List.length_filter_le _ _
/-- the new row of a name, by the greatest values -/
theorem row_new {rows : List SRow} {v : Str → Int} (hv : Sat rows v) {l r : Str} {c : Int} {u : Str → Int} (hu : Sat (rows ++ [(l, r, c)]) u) {ns : List Str} {rk : Str → List Str} {rv : Str → Str → Int} (Te : Tells ns rk rv (D rows)) (hl : l ∈ ns) (hr : r ∈ ns) (hnd : (rk r).Nodup) {x : Str} (hx : x ∈ ns) (y : Str) :
    if l ∈ rk x ∧ (r ∉ rk x ∨ rv x l + c < rv x r) then opt (low (rv x l) (rk x, rv x) (frth rk rv l r c (rk r))).1 (low (rv x l) (rk x, rv x) (frth rk rv l r c (rk r))).2 y = D (rows ++ [(l, r, c)]) x y
    else opt (rk x) (rv x) y = D (rows ++ [(l, r, c)]) x y := by
  have val : ∀ {a b : Str}, a ∈ ns → b ∈ rk a → D rows a b = some (rv a b) := fun {a b} ha hb => by
    rw [← Te a ha b, opt_in hb]
  have has : ∀ {a b : Str} {k : Int}, a ∈ ns → D rows a b = some k → b ∈ rk a ∧ rv a b = k := fun {a b k} ha e => by
    rw [← Te a ha b] at e
    exact opt_some e
  rw [more_d hv hu]
  have nodupF : ((frth rk rv l r c (rk r)).map (·.1)).Nodup := by
    unfold frth
    rw [List.map_map]
    have : ((fun q : Str × Int => q.1) ∘ fun y => (y, c + rv r y)) = id := rfl
    rw [this, List.map_id]
    exact hnd.filter _
  have memF : ∀ m, (y, m) ∈ frth rk rv l r c (rk r) ↔ y ∈ rk r ∧ (y ∉ rk l ∨ c + rv r y < rv l y) ∧ m = c + rv r y := fun m => by
    unfold frth
    rw [List.mem_map]
    constructor
    · rintro ⟨z, hz, e⟩
      obtain ⟨h1, h2⟩ := List.mem_filter.mp hz
      injection e with e1 e2
      subst e1
      exact ⟨h1, of_decide_eq_true h2, e2.symm⟩
    · rintro ⟨h1, h2, rfl⟩
      exact ⟨y, List.mem_filter.mpr ⟨h1, decide_eq_true h2⟩, rfl⟩
  by_cases hc : l ∈ rk x ∧ (r ∉ rk x ∨ rv x l + c < rv x r)
  · rw [if_pos hc]
    obtain ⟨o1, o2⟩ := low_opt (base := rv x l) (frth rk rv l r c (rk r)) (rk x, rv x) nodupF y
    rw [val hx hc.1]
    by_cases hy : y ∈ rk r
    · rw [val hr hy]
      by_cases hf : y ∉ rk l ∨ c + rv r y < rv l y
      · rw [o1 _ ((memF _).mpr ⟨hy, hf, rfl⟩), ← Te x hx y]
        show minO _ (some (rv x l + (c + rv r y))) = minO _ (some (rv x l + c + rv r y))
        rw [Int.add_assoc]
      · have yl : y ∈ rk l := Classical.byContradiction fun z => hf (.inl z)
        have le : rv l y ≤ c + rv r y := by
          have : ¬ c + rv r y < rv l y := fun z => hf (.inr z)
          omega
        rw [o2 fun z => by
          obtain ⟨q, hq, e⟩ := List.mem_map.mp z
          obtain ⟨q1, q2⟩ := q
          have e : q1 = y := e
          subst e
          exact hf ((memF q2).mp hq).2.1]
        obtain ⟨z, ez, lz⟩ := d_tri hv (val hx hc.1) (val hl yl)
        obtain ⟨yx, ev⟩ := has hx ez
        rw [← Te x hx y, opt_in yx]
        show some (rv x y) = some (if rv x l + c + rv r y < rv x y then _ else rv x y)
        rw [if_neg (by omega)]
    · have e : D rows r y = none := by
        rw [← Te r hr y, opt_out hy]
      rw [e, o2 fun z => by
        obtain ⟨q, hq, e⟩ := List.mem_map.mp z
        obtain ⟨q1, q2⟩ := q
        have e : q1 = y := e
        subst e
        exact hy ((memF q2).mp hq).1, ← Te x hx y]
      show opt (rk x) (rv x) y = minO (opt (rk x) (rv x) y) none
      cases opt (rk x) (rv x) y <;> rfl
  · rw [if_neg hc, Te x hx y]
    cases e1 : D rows x l with
    | none =>
      show D rows x y = minO (D rows x y) none
      cases D rows x y <;> rfl
    | some a =>
      obtain ⟨m1, q1⟩ := has hx e1
      have m2 : r ∈ rk x := Classical.byContradiction fun z => hc ⟨m1, .inl z⟩
      have le : ¬ rv x l + c < rv x r := fun z => hc ⟨m1, .inr z⟩
      cases e2 : D rows r y with
      | none =>
        show D rows x y = minO (D rows x y) none
        cases D rows x y <;> rfl
      | some b =>
        obtain ⟨z, ez, lz⟩ := d_tri hv (val hx m2) e2
        rw [ez]
        show some z = some (if a + c + b < z then _ else z)
        rw [if_neg (by omega)]
theorem ok_tight1 {f fL : Addr} {fd fdL : FuncData} (F : Fun K "tightened" "tightened" sTightened f fd) (U : Blt2 mg) (GL : FnOk P w K mg base CX0 1 fL fdL ["row", "base", "further"] spLowered) (kL : PySem.W.keepIn K (.ref fL) = true) (bL : Binds K fdL ["row", "base", "further"] []) (gL : mg "_lowered" = some (.ref fL)) :
    FnOk P w K mg base CX0 2 f fd ["table", "left", "right", "limit"] spTight1 := by
  refine F.ok scTightened (fun vs H Q E h => ?_) (fun cdv A outer s H vs Q E hr h => ?_)
  · obtain ⟨t, l, r, c, rows, v, ns, ra, rk, rv, rfl, _⟩ := h
    rfl
  · obtain ⟨t, l, r, c, rows, v, ns, ra, rk, rv, rfl, TG, Te, hv, nlr, few, hn, hl, hr', q⟩ := h
    have nd := scTightened.nd
    have hu := hu_of hr
    refine ⟨_, pss_cons (ps_if (PW.pt (pw_or (pt_cmp (pc_dnotin hu (pv 1) (pv 0))) (pw_or1 (pt_cmp (pc_dnotin hu (pv 2) (pv 0)))))) (pss_one ps_never) pss_nil)
      (pss_cons (ps_set (i := 4) nd rfl (.inr rfl) (pe_dget hu (pv 0) (pv 1) (fun _ _ => rfl)))
      (pss_cons (ps_set (i := 5) nd rfl (.inl rfl) (pe_dget hu (pv 0) (pv 2) (fun _ _ => rfl)))
      (C8.pss_cut (ps_if (PW.pt (pw_and (pt_cmp (pc_din hu (pv 2) (pv 4))) (pw_and1 (pt_cmpR op_le (pe_dget hu (pv 4) (pv 2) (fun _ _ => rfl)) (pv 3) (nomark _))))) (pss_one (ps_ret (pv 0))) pss_nil)
      (C8.pss_cut (ps_if (PW.pt (pw_and (pt_cmp (pc_din hu (pv 1) (pv 5))) (pw_and1 (pt_cmpR op_lt (pe_op op_add (pe_dget hu (pv 5) (pv 1) (fun _ _ => rfl)) (pv 3)) pe_int (nomark _))))) (pss_one (ps_ret pe_non)) pss_nil)
      (pss_cons (ps_lock (ps_setLc (i := 7) (own := [("name", 6), ("more", 10)]) (g := gTup K 2 (gCons (gName 6) (gCons (gName 10) gNil))) rfl nd rfl rfl (sw_true rfl rfl rfl (by decide +kernel)) (pi_items (pv 5)) (blkOk_by (N := nTightened) (sc := defScope sTightened) (by decide +kernel))
        (fun _ _ _ _ _ => pg_tup rfl (pgs_cons (pg_name (i := 6) nd rfl (.inl rfl)) (pgs_cons (pg_name (i := 10) nd rfl (.inl rfl)) pgs_nil)))
        (fun _ _ _ _ _ => pts_one (PW.pt (pw_or (pt_cmp (pc_dnotin hu (pv 6) (pv 4))) (pw_or1 (pt_cmpR op_lt (pe_op op_add (pv 3) (pv 10)) (pe_dget hu (pv 4) (pv 6) (fun _ _ => rfl)) (nomark _))))))
        (fun _ _ _ _ _ => pe_tup (pa_cons (pv 6) (pa_cons (pe_op op_add (pv 3) (pv 10)) pa_nil)))))
      (pss_cons (ps_set (i := 8) nd rfl (.inl rfl) (pe_callTy call_dictD (by rfl) U.dict PyProof.Rows.boot_dict (pa_cons (pv 0) pa_nil)))
      (pss_cons (ps_lock (ps_for PassesOwn.never rfl (pi_items (pv 0)) (pg_tup rfl (pgs_cons (pg_name (i := 6) nd rfl (.inl rfl)) (pgs_cons (pg_name (i := 9) nd rfl (.inl rfl)) pgs_nil)))
        (pss_one (ps_if (PW.pt (pw_and (pt_cmp (pc_din hu (pv 1) (pv 9))) (pw_and1 (PW.pt (pw_or (pt_cmp (pc_dnotin hu (pv 2) (pv 9))) (pw_or1 (pt_cmpR op_lt (pe_op op_add (pe_dget hu (pv 9) (pv 1) (fun _ _ => rfl)) (pv 3)) (pe_dget hu (pv 9) (pv 2) (fun _ _ => rfl)) (nomark _))))))))
          (pss_one (ps_dput hu (pv 8) (pv 6) (pe_call GL hr (by rfl) gL kL bL .nil pass0 (pa_cons (pv 9) (pa_cons (pe_dget hu (pv 9) (pv 1) (fun _ _ => rfl)) (pa_cons (pv 7) pa_nil)))) rfl)) pss_nil))))
      (pss_one (ps_ret (pv 8)))))))))), ?_⟩
    have al : D rows l l = some 0 := d_self hv l
    have val : ∀ {a b : Str}, a ∈ ns → b ∈ rk a → D rows a b = some (rv a b) := fun {a b} ha hb => by
      rw [← Te a ha b, opt_in hb]
    have kf : ∀ {x : Str}, x ∈ ns → (rk x).length ≤ 250 := fun {x} hx => Nat.le_trans (keys_few hv Te hn hx (TG.rnd x hx)) few
    have hL := TG.row l hl
    have hR := TG.row r hr'
    refine ⟨.str l, rfl, .ref t, rfl, t, _, rfl, dget TG.dict hl, _, rfl, iteF ?_⟩
    refine ⟨.str r, rfl, .ref t, rfl, t, _, rfl, dget TG.dict hr', _, rfl, iteF ?_⟩
    refine ⟨.ref t, rfl, .str l, rfl, t, _, rfl, dget TG.dict hl, ?_⟩
    refine ⟨.ref t, rfl, .str r, rfl, t, _, rfl, dget TG.dict hr', ?_⟩
    refine ⟨fun σ' H' => σ' = [some (.ref t), some (.str l), some (.str r), some (.int c), some (.ref (ra l)), some (.ref (ra r)), none, none, none, none, none] ∧ H' = H, ?_, ?_⟩
    · by_cases m : r ∈ rk l
      · refine ⟨.str r, rfl, .ref (ra l), rfl, ra l, _, rfl, dget hL m, _, rfl, iteT ⟨.ref (ra l), rfl, .str r, rfl, ra l, _, rfl, dget hL m, .int c, rfl, _, _, rfl, rfl, _, rfl, ite2 (fun e => ?_) (fun _ => ⟨rfl, rfl⟩)⟩⟩
        have hle : rv l r ≤ c := of_decide_eq_true e
        have td : Told rows l r c := told_le (d_told hv (val hl m)) hle
        refine ⟨.ref t, rfl, q H _ (Same.refl H) (.inr ⟨t, ra, rk, rv, rfl, TG, fun x hx y => ?_, v, (more_told hv td l l).1⟩)⟩
        rw [Te x hx y, (more_told hv td x y).2]
      · exact ⟨.str r, rfl, .ref (ra l), rfl, ra l, _, rfl, dget0 hL m, _, rfl, iteF ⟨rfl, rfl⟩⟩
    rintro σ1 H1 ⟨rfl, rfl⟩
    refine ⟨fun σ' H' => σ' = [some (.ref t), some (.str l), some (.str r), some (.int c), some (.ref (ra l)), some (.ref (ra r)), none, none, none, none, none] ∧ H' = H1 ∧ ∀ b, D rows r l = some b → 0 ≤ b + c, ?_, ?_⟩
    · by_cases m : l ∈ rk r
      · refine ⟨.str l, rfl, .ref (ra r), rfl, ra r, _, rfl, dget hR m, _, rfl, iteT ⟨.ref (ra r), rfl, .str l, rfl, ra r, _, rfl, dget hR m, .int c, rfl, _, _, rfl, rfl, _, _, rfl, rfl, _, rfl, ite2 (fun e => ?_) (fun e => ?_)⟩⟩
        · have hlt : rv r l + c < 0 := of_decide_eq_true e
          exact q H1 _ (Same.refl H1) (.inl ⟨rfl, more_none hv (val hr' m) hlt⟩)
        · have hge : ¬ rv r l + c < 0 := fun z => e (decide_eq_true z)
          refine ⟨rfl, rfl, fun b eb => ?_⟩
          rw [val hr' m] at eb
          injection eb with eb
          omega
      · refine ⟨.str l, rfl, .ref (ra r), rfl, ra r, _, rfl, dget0 hR m, _, rfl, iteF ⟨rfl, rfl, fun b eb => ?_⟩⟩
        rw [← Te r hr' l, opt_out m] at eb
        cases eb
    rintro σ1 H2 ⟨rfl, rfl, nn⟩
    obtain ⟨u, hu'⟩ := more_sat hv nn
    have rn := fun (x : Str) (hx : x ∈ ns) (y : Str) => row_new hv hu' Te hl hr' (TG.rnd r hr') hx y
    -- further
    refine ⟨ra r, _, hR, trivial, fun od => ?_⟩
    refine ⟨.ref (ra r), rfl, ra r, od, _, rfl, upd_same, fun L nL => ?_⟩
    have nLr : ra r ≠ L := fun e => by
      rw [← e, upd_same] at nL
      cases nL
    have nL2 : H2 L = none := by
      rw [upd_ne nLr.symm] at nL
      exact nL
    have rdL : ∀ {H' : Hp}, SameX (ra r) H2 H' → H' (ra r) = some (.frz od (.dK (dS (rk r) fun y => .int (rv r y)))) → Rd H' (ra l) (.dK (dS (rk l) fun y => .int (rv l y))) := fun {H'} sx hf => by
      by_cases e : ra l = ra r
      · have z := hL
        rw [e, hR] at z
        injection z with z
        rw [e]
        exact .inr ⟨od, z ▸ hf⟩
      · exact .inl (sx _ _ e hL)
    refine lc_it walk_items (fun i H' => SameX (ra r) H2 H' ∧ H' (ra r) = some (.frz od (.dK (dS (rk r) fun y => .int (rv r y)))) ∧ Prs H' L (frth rk rv l r c ((rk r).take i)))
      ⟨fun b o hb e => by rw [upd_ne (ne_of_none e nL2), upd_ne hb]; exact e, by rw [upd_ne nLr]; exact upd_same, [], upd_same, rfl, fun i q r h => (nomatch h)⟩ (fun i H' _ h => h.2.1) ?_ ?_
    · rintro i z H6 H7 hi ⟨s6, hd6, qs, hL6, hql, hqs⟩ ⟨tp, x1, x2, rfl, ntp, rfl, e1, e2⟩
      have hi' : i < (rk r).length := by
        rw [dS_len] at hi
        exact hi
      dsimp only at e1 e2
      rw [dS_at hi'] at e1 e2
      obtain rfl := Option.some.inj e1
      obtain rfl := Option.some.inj e2
      have sT := same_upd (o := HO.tup [kV (Sum.inr (rk r)[i]), V.int (rv r (rk r)[i])]) ntp
      have etake : (rk r).take (i + 1) = (rk r).take i ++ [(rk r)[i]] := by rw [List.take_add_one, List.getElem?_eq_getElem hi']; rfl
      have s67 := s6.trans (same_x sT)
      have hd7 := sT _ _ hd6
      have hL7 := sT _ _ hL6
      have hqs7 : ∀ (i : Nat) (q : Addr) (r : Str × Int), qs[i]? = some q → _ := fun i q r h h' => sT _ _ (hqs i q r h h')
      have rl7 := rdL s67 hd7
      have kr := kf hr'
      have flen := frth_len rk rv l r c ((rk r).take i)
      rw [List.length_take] at flen
      refine ⟨tp, _, rfl, SqT.of upd_same, rfl, _, _, rfl, _, _, rfl, rfl, rfl, ?_⟩
      generalize upd H6 tp (.tup [kV (Sum.inr (rk r)[i]), V.int (rv r (rk r)[i])]) = H7 at s67 hd7 hL7 hqs7 rl7 ⊢
      rw [etake, frth_snoc]
      generalize (rk r)[i] = y at *
      have fin : (y ∉ rk l ∨ c + rv r y < rv l y) → ∀ (tq : Addr), H7 tq = none → ∃ acc, upd H7 tq (.tup [.str y, .int (c + rv r y)]) L = some (.lst acc) ∧ acc.length < sizeLine ∧ SameX (ra r) H2 (upd (upd H7 tq (.tup [.str y, .int (c + rv r y)])) L (.lst (acc ++ [.ref tq]))) ∧
          upd (upd H7 tq (.tup [.str y, .int (c + rv r y)])) L (.lst (acc ++ [.ref tq])) (ra r) = some (.frz od (.dK (dS (rk r) fun y => .int (rv r y)))) ∧ Prs (upd (upd H7 tq (.tup [.str y, .int (c + rv r y)])) L (.lst (acc ++ [.ref tq]))) L (if y ∉ rk l ∨ c + rv r y < rv l y then frth rk rv l r c ((rk r).take i) ++ [(y, c + rv r y)] else frth rk rv l r c ((rk r).take i)) := by
        intro hc tq ntq
        have sQ := same_upd (o := HO.tup [V.str y, V.int (c + rv r y)]) ntq
        have nqL : tq ≠ L := fun e => by
          rw [e, hL7] at ntq
          cases ntq
        refine ⟨_, sQ _ _ hL7, ?_, fun b o hb e => ?_, ?_, ?_⟩
        · rw [List.length_map, hql]
          exact small1000 (by omega)
        · rw [upd_ne (ne_of_none e nL2)]
          exact sQ _ _ (s67 b o hb e)
        · rw [upd_ne nLr]
          exact sQ _ _ hd7
        · rw [if_pos hc]
          refine ⟨qs ++ [tq], by rw [upd_same, List.map_append]; rfl, by rw [List.length_append, List.length_append, hql]; rfl, fun j p q hp hq => ?_⟩
          by_cases k : j < qs.length
          · rw [List.getElem?_append_left k] at hp
            rw [List.getElem?_append_left (by omega)] at hq
            have z := sQ _ _ (hqs7 j p q hp hq)
            rw [upd_ne (ne_of z (sQ _ _ hL7) (by intro w; cases w))]
            exact z
          · have hj := (List.getElem?_eq_some_iff.mp hp).1
            rw [List.length_append, List.length_singleton] at hj
            have ej : j = qs.length := by omega
            subst ej
            rw [List.getElem?_append_right (Nat.le_refl _), Nat.sub_self] at hp
            rw [List.getElem?_append_right (by omega), hql, Nat.sub_self] at hq
            obtain rfl : tq = p := Option.some.inj hp
            obtain rfl : (y, c + rv r y) = q := Option.some.inj hq
            rw [upd_ne nqL, upd_same]
      by_cases hy : y ∈ rk l
      · refine ⟨.str y, rfl, .ref (ra l), rfl, ra l, _, rfl, rget rl7 hy, _, rfl, iteF ?_⟩
        refine ⟨.int c, rfl, .int (rv r y), rfl, _, _, rfl, rfl, .ref (ra l), rfl, .str y, rfl, ra l, _, rfl, rget rl7 hy, _, _, rfl, rfl, _, rfl, ite2 (fun e => ?_) (fun e => ?_)⟩
        · exact ⟨.str y, rfl, .int c, rfl, .int (rv r y), rfl, _, _, rfl, rfl, by show 2 ≤ sizeLine; decide, fin (.inr (of_decide_eq_true e))⟩
        · have hge : ¬ c + rv r y < rv l y := fun z => e (decide_eq_true z)
          refine ⟨s67, hd7, ?_⟩
          rw [if_neg fun z => z.elim (fun w => w hy) hge]
          exact ⟨qs, hL7, hql, hqs7⟩
      · refine ⟨.str y, rfl, .ref (ra l), rfl, ra l, _, rfl, rget0 rl7 hy, _, rfl, iteT (iteT ?_)⟩
        exact ⟨.str y, rfl, .int c, rfl, .int (rv r y), rfl, _, _, rfl, rfl, by show 2 ≤ sizeLine; decide, fin (.inl hy)⟩
    rintro H6 ⟨s6, hd6, hP6⟩
    refine ⟨hd6, ?_⟩
    have s8 : Same H2 (upd H6 (ra r) (.dK (dS (rk r) fun y => .int (rv r y)))) := sameX_back hR s6
    have hP8 : Prs (upd H6 (ra r) (.dK (dS (rk r) fun y => .int (rv r y)))) L (frth rk rv l r c (rk r)) := by
      have z := hP6
      rw [dS_len, List.take_length] at z
      exact z.unfrz hd6
    generalize upd H6 (ra r) (.dK (dS (rk r) fun y => .int (rv r y))) = H8 at s8 hP8 ⊢
    have T8 := TG.same s8
    -- found
    refine ⟨.ref t, rfl, t, _, rfl, Rd.of T8.dict, fun d nd' => ?_⟩
    have s9 := same_upd (o := HO.dK (dS ns fun x => V.ref (ra x))) nd'
    have T9 : TabG (upd H8 d (.dK (dS ns fun x => .ref (ra x)))) d ns ra rk rv := ⟨upd_same, TG.nd, fun x hx => s9 _ _ (T8.row x hx), fun x hx e => (by
      have z := T8.row x hx
      rw [e, nd'] at z
      exact nomatch z), TG.rnd⟩
    have ndt : d ≠ t := fun e => by
      rw [e, T8.dict] at nd'
      cases nd'
    have ht9 := s9 _ _ T8.dict
    refine ⟨t, _, ht9, trivial, fun od2 => ?_⟩
    refine ⟨.ref t, rfl, t, od2, _, rfl, upd_same, for_it walk_items (fun i σ H' => ∃ (y6 y9 : Option V) (ra' : Str → Addr) (rk' : Str → List Str) (rv' : Str → Str → Int), σ = [some (.ref t), some (.str l), some (.str r), some (.int c), some (.ref (ra l)), some (.ref (ra r)), y6, some (.ref L), some (.ref d), y9, none] ∧ SameX t H8 H' ∧
        H' t = some (.frz od2 (.dK (dS ns fun x => .ref (ra x)))) ∧ TabG H' d ns ra' rk' rv' ∧ (∀ x ∈ ns.take i, ∀ y, opt (rk' x) (rv' x) y = D (rows ++ [(l, r, c)]) x y) ∧ (∀ x ∈ ns.drop i, rk' x = rk x ∧ rv' x = rv x))
      ⟨none, none, ra, rk, rv, rfl, fun b o hb e => by rw [upd_ne hb]; exact s9 _ _ e, upd_same, T9.aside ndt TG.off, fun x h => absurd h List.not_mem_nil, fun x _ => ⟨rfl, rfl⟩⟩
      (fun i σ H' _ ⟨_, _, _, _, _, _, _, e, _⟩ => e) ?_ ?_⟩
    · rintro i z σ H10 H11 hi ⟨y6, y9, ra', rk', rv', rfl, s10, ht10, T10, done, todo⟩ ⟨tp, x1, x2, rfl, ntp, rfl, e1, e2⟩
      have hi' : i < ns.length := by
        rw [dS_len] at hi
        exact hi
      dsimp only at e1 e2
      rw [dS_at hi'] at e1 e2
      obtain rfl := Option.some.inj e1
      obtain rfl := Option.some.inj e2
      have hx : ns[i] ∈ ns := List.getElem_mem hi'
      have sT := same_upd (o := HO.tup [kV (Sum.inr ns[i]), V.ref (ra ns[i])]) ntp
      have etake : ns.take (i + 1) = ns.take i ++ [ns[i]] := by rw [List.take_add_one, List.getElem?_eq_getElem hi']; rfl
      have edrop : ns.drop i = ns[i] :: ns.drop (i + 1) := List.drop_eq_getElem_cons hi'
      have split : ns = ns.take i ++ ns[i] :: ns.drop (i + 1) := by rw [← edrop, List.take_append_drop]
      have nn := TG.nd
      rw [split] at nn
      obtain ⟨_, n2, n3⟩ := List.nodup_append.mp nn
      obtain ⟨n4, _⟩ := List.nodup_cons.mp n2
      have s11 := s10.trans (same_x sT)
      have ht11 := sT _ _ ht10
      have T11 := T10.same sT
      refine ⟨tp, _, rfl, SqT.of upd_same, rfl, _, _, rfl, _, _, rfl, rfl, ?_⟩
      generalize upd H10 tp (.tup [kV (Sum.inr ns[i]), V.ref (ra ns[i])]) = H11 at s11 ht11 T11 ⊢
      rw [edrop] at todo
      rw [etake]
      generalize ns[i] = x at *
      have hrow := s11 _ _ (TG.off x hx) (T8.row x hx)
      have rnx := fun y => rn x hx y
      have kr := kf hr'
      have kx := kf hx
      -- nothing to lower
      have stay : ¬ (l ∈ rk x ∧ (r ∉ rk x ∨ rv x l + c < rv x r)) → ∀ (z6 z9 : Option V), ∃ (y6 y9 : Option V) (ra' : Str → Addr) (rk' : Str → List Str) (rv' : Str → Str → Int), [some (V.ref t), some (.str l), some (.str r), some (.int c), some (.ref (ra l)), some (.ref (ra r)), z6, some (.ref L), some (.ref d), z9, none] = [some (V.ref t), some (.str l), some (.str r), some (.int c), some (.ref (ra l)), some (.ref (ra r)), y6, some (.ref L), some (.ref d), y9, none] ∧ SameX t H8 H11 ∧
          H11 t = some (.frz od2 (.dK (dS ns fun x => .ref (ra x)))) ∧ TabG H11 d ns ra' rk' rv' ∧ (∀ w ∈ ns.take i ++ [x], ∀ y, opt (rk' w) (rv' w) y = D (rows ++ [(l, r, c)]) w y) ∧ (∀ w ∈ ns.drop (i + 1), rk' w = rk w ∧ rv' w = rv w) := fun hc z6 z9 => by
        refine ⟨z6, z9, ra', rk', rv', rfl, s11, ht11, T11, fun w hw y => ?_, fun w hw => todo w (List.mem_cons_of_mem _ hw)⟩
        rcases List.mem_append.mp hw with m | m
        · exact done w m y
        · rw [List.mem_singleton] at m
          subst m
          obtain ⟨q1, q2⟩ := todo w List.mem_cons_self
          rw [q1, q2]
          have := rnx y
          rw [if_neg hc] at this
          exact this
      -- a row is lowered
      have lowr : (l ∈ rk x ∧ (r ∉ rk x ∨ rv x l + c < rv x r)) → ∀ (z6 z9 : Option V) (H12 : Hp) (z : Addr), Same H11 H12 → H11 z = none → H12 z = some (.dK (dS (low (rv x l) (rk x, rv x) (frth rk rv l r c (rk r))).1 fun y => .int ((low (rv x l) (rk x, rv x) (frth rk rv l r c (rk r))).2 y))) →
          ∃ (y6 y9 : Option V) (ra1 : Str → Addr) (rk1 : Str → List Str) (rv1 : Str → Str → Int), [some (V.ref t), some (.str l), some (.str r), some (.int c), some (.ref (ra l)), some (.ref (ra r)), z6, some (.ref L), some (.ref d), z9, none] = [some (V.ref t), some (.str l), some (.str r), some (.int c), some (.ref (ra l)), some (.ref (ra r)), y6, some (.ref L), some (.ref d), y9, none] ∧
          SameX t H8 (upd H12 d (.dK (dS (addN ns x) (put (fun x => V.ref (ra' x)) x (.ref z))))) ∧ upd H12 d (.dK (dS (addN ns x) (put (fun x => V.ref (ra' x)) x (.ref z)))) t = some (.frz od2 (.dK (dS ns fun x => .ref (ra x)))) ∧ TabG (upd H12 d (.dK (dS (addN ns x) (put (fun x => V.ref (ra' x)) x (.ref z))))) d ns ra1 rk1 rv1 ∧
          (∀ w ∈ ns.take i ++ [x], ∀ y, opt (rk1 w) (rv1 w) y = D (rows ++ [(l, r, c)]) w y) ∧ (∀ w ∈ ns.drop (i + 1), rk1 w = rk w ∧ rv1 w = rv w) := fun hc z6 z9 H12 z s12 nz hz => by
        have nzd : z ≠ d := fun e => by
          rw [e, T11.dict] at nz
          cases nz
        have ndk : (low (rv x l) (rk x, rv x) (frth rk rv l r c (rk r))).1.Nodup := low_nd _ _ (TG.rnd x hx)
        have T13 := (T11.same s12).put (x := x) hz nzd ndk
        have ead : addN ns x = ns := if_pos hx
        rw [ead] at T13
        rw [ead]
        refine ⟨z6, z9, _, _, _, rfl, fun b o hb e => ?_, ?_, T13, fun w hw y => ?_, fun w hw => ?_⟩
        · rw [upd_ne (ne_of_none e nd')]
          exact s12 _ _ (s11 b o hb e)
        · rw [upd_ne ndt.symm]
          exact s12 _ _ ht11
        · rcases List.mem_append.mp hw with m | m
          · have nw : w ≠ x := fun e => n3 w m x List.mem_cons_self e
            rw [put_off nw, put_off nw]
            exact done w m y
          · rw [List.mem_singleton] at m
            rw [m, put_at, put_at]
            have := rnx y
            rw [if_pos hc] at this
            exact this
        · have nw : w ≠ x := fun e => n4 (e ▸ hw)
          rw [put_off nw, put_off nw]
          exact todo w (List.mem_cons_of_mem _ hw)
      have hP11 : Prs H11 L (frth rk rv l r c (rk r)) := by
        obtain ⟨qs, h1, h2, h3⟩ := hP8
        refine ⟨qs, s11 _ _ (ne_of h1 T8.dict (by intro z; cases z)) h1, h2, fun j p q hp hq => ?_⟩
        have z := h3 j p q hp hq
        exact s11 _ _ (ne_of z T8.dict (by intro z; cases z)) z
      have flen := frth_len rk rv l r c (rk r)
      by_cases ml : l ∈ rk x
      · refine ⟨.str l, rfl, .ref (ra x), rfl, ra x, _, rfl, dget hrow ml, _, rfl, iteT ?_⟩
        by_cases mr : r ∈ rk x
        · refine ⟨.str r, rfl, .ref (ra x), rfl, ra x, _, rfl, dget hrow mr, _, rfl, iteF ?_⟩
          refine ⟨.ref (ra x), rfl, .str l, rfl, ra x, _, rfl, dget hrow ml, .int c, rfl, _, _, rfl, rfl, .ref (ra x), rfl, .str r, rfl, ra x, _, rfl, dget hrow mr, _, _, rfl, rfl, _, rfl, ite2 (fun e => ?_) (fun e => ?_)⟩
          · have hc : l ∈ rk x ∧ (r ∉ rk x ∨ rv x l + c < rv x r) := ⟨ml, .inr (of_decide_eq_true e)⟩
            refine ⟨.ref (ra x), rfl, .ref (ra x), rfl, .str l, rfl, ra x, _, rfl, dget hrow ml, .ref L, rfl, ra x, L, _, _, _, _, rfl, hrow, hP11, by omega, by omega, fun H12 z s12 nz hz => ?_⟩
            exact ⟨.ref d, rfl, .str x, rfl, d, _, rfl, dput x (.ref z) (s12 _ _ T11.dict) (by omega), lowr hc _ _ H12 z s12 nz hz⟩
          · exact stay (fun hc => hc.2.elim (fun w => w mr) fun w => e (decide_eq_true w)) _ _
        · have hc : l ∈ rk x ∧ (r ∉ rk x ∨ rv x l + c < rv x r) := ⟨ml, .inl mr⟩
          refine ⟨.str r, rfl, .ref (ra x), rfl, ra x, _, rfl, dget0 hrow mr, _, rfl, iteT (iteT ?_)⟩
          refine ⟨.ref (ra x), rfl, .ref (ra x), rfl, .str l, rfl, ra x, _, rfl, dget hrow ml, .ref L, rfl, ra x, L, _, _, _, _, rfl, hrow, hP11, by omega, by omega, fun H12 z s12 nz hz => ?_⟩
          exact ⟨.ref d, rfl, .str x, rfl, d, _, rfl, dput x (.ref z) (s12 _ _ T11.dict) (by omega), lowr hc _ _ H12 z s12 nz hz⟩
      · exact ⟨.str l, rfl, .ref (ra x), rfl, ra x, _, rfl, dget0 hrow ml, _, rfl, iteF (stay (fun hc => ml hc.1) _ _)⟩
    · rintro σ H10 ⟨y6, y9, ra', rk', rv', rfl, s10, ht10, T10, done, todo⟩
      refine ⟨ht10, ?_⟩
      rw [dS_len, List.take_length] at done
      have nrt : ∀ x ∈ ns, ra' x ≠ t := fun x hx e => by
        have z := T10.row x hx
        rw [e, ht10] at z
        cases z
      have s12 : Same H8 (upd H10 t (.dK (dS ns fun x => .ref (ra x)))) := sameX_back T8.dict s10
      refine ⟨.ref d, rfl, q _ _ (s8.trans s12) (.inr ⟨d, ra', rk', rv', rfl, T10.aside ndt nrt, done, u, hu'⟩)⟩
end
end Lo
namespace Lo
open PySem L2
section
variable {P : Program} {w : World} {K : PySem.W.Frag} {mg : Str → Option Value} {base : Heap}
/-! ### tightened -/
def spTightA (sp1 : Sp) : Sp := sp1
/-- a side is not in the table -/
def spTight0 : Sp := fun vs H Q _ => ∃ (t : Addr) (l r : Str) (c : Int) (rows : List SRow) (v : Str → Int) (ns : List Str) (ra : Str → Addr) (rk : Str → List Str) (rv : Str → Str → Int), vs = [.ref t, .str l, .str r, .int c] ∧ TabG H t ns ra rk rv ∧ Tells ns rk rv (D rows) ∧ Sat rows v ∧ l ≠ r ∧ ns.length ≤ 240 ∧ (∀ x, Named rows x → x ∈ ns) ∧
  (l ∉ ns ∨ r ∉ ns) ∧ ∀ H' x ns', Same H H' → (∀ x ∈ ns, x ∈ ns') → l ∈ ns' → r ∈ ns' → (∀ x ∈ ns', x ∈ ns ∨ x = l ∨ x = r) → TightAns H' x rows l r c ns' → Q x H'
theorem ok_tight0 {f fW : Addr} {fd fdW : FuncData} (F : Fun K "tightened" "tightened" sTightened f fd) (bF : Binds K fd ["table", "left", "right", "limit"] []) (gF : mg "tightened" = some (.ref f)) (G1 : FnOk P w K mg base CX0 2 f fd ["table", "left", "right", "limit"] spTight1)
    (GW : FnOk P w K mg base CX0 1 fW fdW ["table", "left", "right"] spWithRows) (kW : PySem.W.keepIn K (.ref fW) = true) (bW : Binds K fdW ["table", "left", "right"] []) (gW : mg "_with_rows" = some (.ref fW)) :
    FnOk P w K mg base CX0 3 f fd ["table", "left", "right", "limit"] spTight0 := by
  refine F.ok scTightened (fun vs H Q E h => ?_) (fun cdv A outer s H vs Q E hr h => ?_)
  · obtain ⟨t, l, r, c, rows, v, ns, ra, rk, rv, rfl, _⟩ := h
    rfl
  · obtain ⟨t, l, r, c, rows, v, ns, ra, rk, rv, rfl, TG, Te, hv, nlr, few, hn, out, q⟩ := h
    have nd := scTightened.nd
    have hu := hu_of hr
    refine ⟨_, pss_cons (ps_if (PW.pt (pw_or (pt_cmp (pc_dnotin hu (pv 1) (pv 0))) (pw_or1 (pt_cmp (pc_dnotin hu (pv 2) (pv 0))))))
        (pss_one (ps_ret (pe_call G1 hr (by rfl) gF F.kp bF .nil pass0 (pa_cons (pe_call GW (hr.mono (by decide)) (by rfl) gW kW bW .nil pass0 (pa_cons (pv 0) (pa_cons (pv 1) (pa_cons (pv 2) pa_nil)))) (pa_cons (pv 1) (pa_cons (pv 2) (pa_cons (pv 3) pa_nil))))))) pss_nil) pss_never, ?_⟩
    have call : (tCall spTight1 [] E0 (tCons (tCall spWithRows [] E0 (tCons (tVar 0) (tCons (tVar 1) (tCons (tVar 2) tNil)))) (tCons (tVar 1) (tCons (tVar 2) (tCons (tVar 3) tNil))))) [some (V.ref t), some (V.str l), some (V.str r), some (V.int c), none, none, none, none, none, none, none] H Q := by
      refine ⟨.ref t, rfl, .str l, rfl, .str r, rfl, t, l, r, rows, v, ns, ra, rk, rv, rfl, TG, Te, hv, nlr, by omega, hn, fun H1 d ns' ra' rk' rv' s1 _ T1 Te1 sub ml mr only => ?_⟩
      have len : ns'.length ≤ 250 := by
        have := nodup_le ns' (ns ++ [l, r]) T1.nd fun x hx => by
          rcases only x hx with h | h | h
          · exact List.mem_append_left _ h
          · exact List.mem_append_right _ (h ▸ List.mem_cons_self)
          · exact List.mem_append_right _ (h ▸ List.mem_cons_of_mem _ List.mem_cons_self)
        rw [List.length_append] at this
        have e : ([l, r] : List Str).length = 2 := rfl
        omega
      refine ⟨.str l, rfl, .str r, rfl, .int c, rfl, d, l, r, c, rows, v, ns', ra', rk', rv', rfl, T1, Te1, hv, nlr, len, fun x hx => sub x (hn x hx), ml, mr, fun H2 x s2 hA => q H2 x ns' (s1.trans s2) sub ml mr only hA⟩
    by_cases m : l ∈ ns
    · have mr : r ∉ ns := out.resolve_left fun z => z m
      exact ⟨.str l, rfl, .ref t, rfl, t, _, rfl, dget TG.dict m, _, rfl, iteF ⟨.str r, rfl, .ref t, rfl, t, _, rfl, dget0 TG.dict mr, _, rfl, iteT call⟩⟩
    · exact ⟨.str l, rfl, .ref t, rfl, t, _, rfl, dget0 TG.dict m, _, rfl, iteT (iteT call)⟩
/-- in all -/
def spTight' : Sp := fun vs H Q _ => ∃ (t : Addr) (l r : Str) (c : Int) (rows : List SRow) (v : Str → Int) (ns : List Str) (ra : Str → Addr) (rk : Str → List Str) (rv : Str → Str → Int), vs = [.ref t, .str l, .str r, .int c] ∧ TabG H t ns ra rk rv ∧ Tells ns rk rv (D rows) ∧ Sat rows v ∧ l ≠ r ∧ ns.length ≤ 240 ∧ (∀ x, Named rows x → x ∈ ns) ∧
  ∀ H' x ns', Same H H' → (∀ x ∈ ns, x ∈ ns') → l ∈ ns' → r ∈ ns' → (∀ x ∈ ns', x ∈ ns ∨ x = l ∨ x = r) → TightAns H' x rows l r c ns' → Q x H'
theorem ok_tightened {f : Addr} {fd : FuncData} (G1 : FnOk P w K mg base CX0 2 f fd ["table", "left", "right", "limit"] spTight1) (G0 : FnOk P w K mg base CX0 3 f fd ["table", "left", "right", "limit"] spTight0) : FnOk P w K mg base CX0 3 f fd ["table", "left", "right", "limit"] spTight' := by
  refine (or_fn G1 G0 (by decide)).imp fun vs H Q E h => ?_
  obtain ⟨t, l, r, c, rows, v, ns, ra, rk, rv, rfl, TG, Te, hv, nlr, few, hn, q⟩ := h
  by_cases m : l ∈ ns ∧ r ∈ ns
  · exact .inl ⟨t, l, r, c, rows, v, ns, ra, rk, rv, rfl, TG, Te, hv, nlr, by omega, hn, m.1, m.2, fun H' x s hA => q H' x ns s (fun x h => h) m.1 m.2 (fun x h => .inl h) hA⟩
  · refine .inr ⟨t, l, r, c, rows, v, ns, ra, rk, rv, rfl, TG, Te, hv, nlr, few, hn, ?_, q⟩
    by_cases ml : l ∈ ns
    · exact .inr fun mr => m ⟨ml, mr⟩
    · exact .inl ml
/-! ### table_of -/
/-- the table of a system -/
structure TabOf (H : Hp) (t : Addr) (rows : List SRow) (ns : List Str) (ra : Str → Addr) (rk : Str → List Str) (rv : Str → Str → Int) : Prop where
  G : TabG H t ns ra rk rv
  T : Tells ns rk rv (D rows)
  names : ∀ x, x ∈ ns ↔ Named rows x
def spTableOf : Sp := fun vs H Q _ => ∃ (a : Addr) (rows : List SRow), vs = [.ref a] ∧ Sys RowT H a rows ∧ Good rows ∧
  ∀ H' x, Same H H' → ((x = .non ∧ ∀ u, ¬ Sat rows u) ∨ ∃ t ns ra rk rv, x = .ref t ∧ TabOf H' t rows ns ra rk rv ∧ ∃ v, Sat rows v) → Q x H'
abbrev nTableOf : List Str := ["differences", "table", "left", "right", "limit"]
theorem scTableOf : FnScope nTableOf ["differences"] (defScope sTableOf) := ⟨rfl, rfl, rfl, by decide +kernel, rfl, by decide +kernel, by decide +kernel⟩
theorem ok_tableof {f fT : Addr} {fd fdT : FuncData} (F : Fun K "table_of" "table_of" sTableOf f fd) (GT : FnOk P w K mg base CX0 3 fT fdT ["table", "left", "right", "limit"] spTight') (kT : PySem.W.keepIn K (.ref fT) = true) (bT : Binds K fdT ["table", "left", "right", "limit"] []) (gT : mg "tightened" = some (.ref fT)) :
    FnOk P w K mg base CX0 4 f fd ["differences"] spTableOf := by
  refine F.ok scTableOf (fun vs H Q E h => ?_) (fun cdv A outer s H vs Q E hr h => ?_)
  · obtain ⟨a, rows, rfl, _⟩ := h
    rfl
  · obtain ⟨a, rows, rfl, ⟨ps, hA, hl, hat⟩, g, q⟩ := h
    have nd := scTableOf.nd
    refine ⟨_, pss_cons (ps_set (i := 1) nd rfl (.inl rfl) pe_dnewK)
      (pss_cons (ps_for PassesOwn.never rfl (pi_list (pv 0)) (pg_tup rfl (pgs_cons (pg_name (i := 2) nd rfl (.inl rfl)) (pgs_cons (pg_name (i := 3) nd rfl (.inl rfl)) (pgs_cons (pg_name (i := 4) nd rfl (.inl rfl)) pgs_nil))))
        (pss_cons (ps_set (i := 1) nd rfl (.inl rfl) (pe_call GT hr (by rfl) gT kT bT .nil pass0 (pa_cons (pv 1) (pa_cons (pv 2) (pa_cons (pv 3) (pa_cons (pv 4) pa_nil))))))
        (pss_one (ps_if (pt_cmpR op_isN (pv 1) pe_non (nomark _)) (pss_one (ps_ret pe_non)) pss_nil))))
      (pss_one (ps_ret (pv 1)))), ?_⟩
    intro t0 nt0
    have s1 := same_upd (o := HO.dK []) nt0
    refine ⟨.ref a, rfl, a, rfl, ⟨_, SqL.of (s1 _ _ hA)⟩, for_list (K := K) (a := a) (xs := ps.map V.ref) (fun i σ H' => ∃ (t : Addr) (y2 y3 y4 : Option V) (ns : List Str) (ra : Str → Addr) (rk : Str → List Str) (rv : Str → Str → Int), σ = [some (.ref a), some (.ref t), y2, y3, y4] ∧ Same H H' ∧
        TabOf H' t (rows.take i) ns ra rk rv ∧ (∃ v, Sat (rows.take i) v) ∧ ns.length ≤ 2 * i)
      ⟨t0, none, none, none, [], fun _ => 0, fun _ => [], fun _ _ => 0, rfl, s1, ⟨⟨upd_same, List.nodup_nil, fun x h => absurd h List.not_mem_nil, fun x h => absurd h List.not_mem_nil, fun x h => absurd h List.not_mem_nil⟩, fun x h => absurd h List.not_mem_nil, fun x => ⟨fun h => absurd h List.not_mem_nil, fun ⟨r, hr', _⟩ => absurd hr' List.not_mem_nil⟩⟩,
        ⟨fun _ => 0, fun r hr' => absurd hr' List.not_mem_nil⟩, Nat.le_refl _⟩ (fun i σ H' _ ⟨_, _, _, _, _, _, _, _, _, e, _⟩ => SqL.of (e _ _ hA)) ?_ ?_⟩
    · rintro i x σ H1 hi ⟨t, y2, y3, y4, ns, ra, rk, rv, rfl, s2, T, ⟨v, hv⟩, len⟩
      obtain ⟨p, ⟨l, r, c⟩, rfl, hp, hrr, hmem, hlt, hR⟩ := Sys.at hl hat hi
      have etake : rows.take (i + 1) = rows.take i ++ [(l, r, c)] := by rw [List.take_add_one, hrr]; rfl
      have few := g.few
      refine ⟨p, _, rfl, SqT.of (hR.same s2), rfl, _, _, rfl, _, _, rfl, _, _, rfl, rfl, ?_⟩
      refine ⟨.ref t, rfl, .str l, rfl, .str r, rfl, .int c, rfl, t, l, r, c, rows.take i, v, ns, ra, rk, rv, rfl, T.G, T.T, hv, (g.row _ hmem).1, by omega, fun x hx => (T.names x).mpr hx, fun H2 x ns' s3 sub ml mr only hA => ?_⟩
      have hsub : ∀ u, Sat rows u → Sat (rows.take i ++ [(l, r, c)]) u := fun u hu q hq => hu q (by
        rw [← etake] at hq
        exact List.mem_of_mem_take hq)
      rcases hA with ⟨rfl, no⟩ | ⟨d, ra', rk', rv', rfl, T', Te', hu⟩
      · exact ⟨_, rfl, rfl, _, rfl, iteT (q H2 .non (s2.trans s3) (.inl ⟨rfl, fun u hu => no u (hsub u hu)⟩))⟩
      · refine ⟨_, rfl, rfl, _, rfl, iteF ?_⟩
        rw [etake]
        refine ⟨d, _, _, _, ns', ra', rk', rv', rfl, s2.trans s3, ⟨T', Te', fun x => ⟨fun hx => ?_, fun ⟨q, hq, e⟩ => ?_⟩⟩, hu, ?_⟩
        · rcases only x hx with h | h | h
          · obtain ⟨q, hq, e⟩ := (T.names x).mp h
            exact ⟨q, List.mem_append_left _ hq, e⟩
          · exact ⟨_, List.mem_append_right _ (List.mem_singleton.mpr rfl), .inl h⟩
          · exact ⟨_, List.mem_append_right _ (List.mem_singleton.mpr rfl), .inr h⟩
        · rcases List.mem_append.mp hq with m | m
          · exact sub x ((T.names x).mpr ⟨q, m, e⟩)
          · rw [List.mem_singleton] at m
            subst m
            rcases e with e | e
            · exact e ▸ ml
            · exact e ▸ mr
        · have := nodup_le ns' (ns ++ [l, r]) T'.nd fun x hx => by
            rcases only x hx with h | h | h
            · exact List.mem_append_left _ h
            · exact List.mem_append_right _ (h ▸ List.mem_cons_self)
            · exact List.mem_append_right _ (h ▸ List.mem_cons_of_mem _ List.mem_cons_self)
          rw [List.length_append] at this
          have e : ([l, r] : List Str).length = 2 := rfl
          omega
    · rintro σ H1 ⟨t, y2, y3, y4, ns, ra, rk, rv, rfl, s2, T, hv, len⟩
      rw [List.length_map, hl, List.take_length] at T hv
      exact ⟨.ref t, rfl, q H1 _ s2 (.inr ⟨t, ns, ra, rk, rv, rfl, T, hv⟩)⟩
end
end Lo
namespace Lo
open PySem L2
abbrev sLTable : Stmt := top 52
/-! ### dicts with pairs of texts as keys -/
abbrev kP (p : Str × Str) : List L2.Key := [Sum.inr p.1, Sum.inr p.2]
theorem kP_inj {p q : Str × Str} (h : kP p = kP q) : p = q := by
  injection h with h1 h2
  injection h2 with h2 _
  exact Prod.ext (Sum.inr.inj h1) (Sum.inr.inj h2)
def dP (ps : List (Str × Str)) (f : Str × Str → Int) : List (List L2.Key × V) := ps.map fun p => (kP p, V.int (f p))
theorem dP_len (ps : List (Str × Str)) (f : Str × Str → Int) : (dP ps f).length = ps.length := List.length_map ..
theorem dP_val (f : Str × Str → Int) (p : Str × Str) : ∀ ps : List (Str × Str), valV (dP ps f) (kP p) = if p ∈ ps then some (.int (f p)) else none
  | [] => rfl
  | q :: ps => by
    have ih := dP_val f p ps
    by_cases h : q = p
    · subst h
      rw [if_pos List.mem_cons_self]
      exact valV_pos (p := (kP q, V.int (f q))) rfl
    · have e : valV (dP (q :: ps) f) (kP p) = valV (dP ps f) (kP p) := valV_neg (p := (kP q, V.int (f q))) fun z => h (kP_inj z)
      rw [e, ih]
      by_cases m : p ∈ ps
      · rw [if_pos m, if_pos (List.mem_cons_of_mem _ m)]
      · rw [if_neg m, if_neg fun z => (List.mem_cons.mp z).elim (fun z => h z.symm) m]
theorem dP_any {ps : List (Str × Str)} {f : Str × Str → Int} {p : Str × Str} : ((dP ps f).any fun kv => decide (kv.1 = kP p)) = true ↔ p ∈ ps := by
  rw [valV_any, dP_val]
  by_cases m : p ∈ ps
  · rw [if_pos m]
    exact ⟨fun _ => m, fun _ => rfl⟩
  · rw [if_neg m]
    exact ⟨(fun q => nomatch q), fun q => absurd q m⟩
theorem dP_put (ps : List (Str × Str)) (f : Str × Str → Int) (p : Str × Str) (k : Int) : putK (dP ps f) (kP p) (.int k) = dP (addN ps p) (put f p k) := by
  unfold putK addN
  by_cases m : p ∈ ps
  · rw [if_pos (dP_any.mpr m), if_pos m]
    unfold dP
    rw [List.map_map]
    refine List.map_congr_left fun q _ => ?_
    show (if kP q = kP p then (kP q, V.int k) else (kP q, V.int (f q))) = (kP q, V.int (put f p k q))
    by_cases j : q = p
    · subst j
      rw [if_pos rfl, put_at]
    · rw [if_neg fun z => j (kP_inj z), put_off j]
  · rw [if_neg fun q => m (dP_any.mp q), if_neg m]
    show _ = (ps ++ [p]).map _
    rw [List.map_append]
    show (ps.map fun q => (kP q, V.int (f q))) ++ [(kP p, V.int k)] = _ ++ [(kP p, V.int (put f p k p))]
    rw [put_at]
    congr 1
    exact List.map_congr_left fun q hq => by rw [put_off (fun z : q = p => m (z ▸ hq))]
/-- the table as a function -/
def tbF (ps : List (Str × Str)) (f : Str × Str → Int) : Tb Str := fun a b => if (a, b) ∈ ps then some (f (a, b)) else none
theorem tbF_in {ps : List (Str × Str)} {f : Str × Str → Int} {a b : Str} (h : (a, b) ∈ ps) : tbF ps f a b = some (f (a, b)) := if_pos h
theorem tbF_out {ps : List (Str × Str)} {f : Str × Str → Int} {a b : Str} (h : (a, b) ∉ ps) : tbF ps f a b = none := if_neg h
theorem tbF_put (ps : List (Str × Str)) (f : Str × Str → Int) (i j : Str) (k : Int) : tbF (addN ps (i, j)) (put f (i, j) k) = put2 (tbF ps f) i j k := by
  funext a b
  unfold put2
  by_cases e : a = i ∧ b = j
  · obtain ⟨rfl, rfl⟩ := e
    rw [if_pos ⟨rfl, rfl⟩, tbF_in (mem_addN.mpr (.inr rfl)), put_at]
  · have ne : (a, b) ≠ (i, j) := fun z => e ⟨congrArg Prod.fst z, congrArg Prod.snd z⟩
    rw [if_neg e]
    by_cases m : (a, b) ∈ ps
    · rw [tbF_in (mem_addN.mpr (.inl m)), tbF_in m, put_off ne]
    · rw [tbF_out fun z => (mem_addN.mp z).elim m ne, tbF_out m]
theorem square_len (es : List Str) : ∀ l : List Str, (l.flatMap fun a => es.map fun b => (a, b)).length = l.length * es.length
  | [] => by simp
  | a :: l => by
    rw [List.flatMap_cons, List.length_append, List.length_map, square_len es l, List.length_cons, Nat.succ_mul]
    omega
/-- the table in the heap -/
structure TbAt (H : Hp) (d : Addr) (es : List Str) (ps : List (Str × Str)) (f : Str × Str → Int) : Prop where
  at_ : H d = some (.dT (dP ps f))
  nd : ps.Nodup
  sub : ∀ p ∈ ps, p.1 ∈ es ∧ p.2 ∈ es
theorem TbAt.len {H : Hp} {d : Addr} {es : List Str} {ps : List (Str × Str)} {f : Str × Str → Int} (T : TbAt H d es ps f) (h : es.length ≤ 25) : ps.length ≤ 625 := by
  have h1 := nodup_le ps (es.flatMap fun a => es.map fun b => (a, b)) T.nd fun p hp => by
    obtain ⟨a, b⟩ := T.sub p hp
    exact List.mem_flatMap.mpr ⟨p.1, a, List.mem_map.mpr ⟨p.2, b, rfl⟩⟩
  rw [square_len] at h1
  exact Nat.le_trans h1 (Nat.mul_le_mul h h)
theorem TbAt.same {H H' : Hp} {d : Addr} {es : List Str} {ps : List (Str × Str)} {f : Str × Str → Int} (s : Same H H') (T : TbAt H d es ps f) : TbAt H' d es ps f := ⟨s _ _ T.at_, T.nd, T.sub⟩
theorem TbAt.get {H : Hp} {d b : Addr} {es : List Str} {ps : List (Str × Str)} {f : Str × Str → Int} {p : Str × Str} (T : TbAt H d es ps f) (hb : H b = some (.tup [.str p.1, .str p.2])) (m : p ∈ ps) : DGet H d (.ref b) (some (.int (f p))) := by
  have := DGet.t (k := kP p) T.at_ hb
  rw [dP_val, if_pos m] at this
  exact this
theorem TbAt.get0 {H : Hp} {d b : Addr} {es : List Str} {ps : List (Str × Str)} {f : Str × Str → Int} {p : Str × Str} (T : TbAt H d es ps f) (hb : H b = some (.tup [.str p.1, .str p.2])) (m : p ∉ ps) : DGet H d (.ref b) none := by
  have := DGet.t (k := kP p) T.at_ hb
  rw [dP_val, if_neg m] at this
  exact this
theorem TbAt.put {H : Hp} {d b : Addr} {es : List Str} {ps : List (Str × Str)} {f : Str × Str → Int} {p : Str × Str} {k : Int} (T : TbAt H d es ps f) (h25 : es.length ≤ 25) (hb : H b = some (.tup [.str p.1, .str p.2])) (h1 : p.1 ∈ es) (h2 : p.2 ∈ es) :
    DPut H d (.ref b) (.int k) (upd H d (.dT (dP (addN ps p) (Lo.put f p k)))) ∧ TbAt (upd H d (.dT (dP (addN ps p) (Lo.put f p k)))) d es (addN ps p) (Lo.put f p k) := by
  have len := T.len h25
  have q := DPut.t (k := kP p) (v := .int k) T.at_ hb (by rw [dP_len]; exact small1000 (by omega))
  rw [dP_put] at q
  refine ⟨q, upd_same, nodup_addN T.nd, fun r hr => ?_⟩
  rcases mem_addN.mp hr with m | m
  · exact T.sub r m
  · exact m ▸ ⟨h1, h2⟩
section
variable {P : Program} {w : World} {K : PySem.W.Frag} {mg : Str → Option Value} {base : Heap}
/-! ### _law_table -/
def spLTable : Sp := fun vs H Q _ => ∃ (np a : Addr) (zs : List Str) (rows : List SRow), vs = [.ref np, .ref a] ∧ H np = some (.tup (zs.map V.str)) ∧ Sys RowT H a rows ∧ Good rows ∧ (("0" : Str) :: zs).Nodup ∧ zs.length ≤ 20 ∧ (∀ x, Named rows x → x ∈ (("0" : Str) :: zs)) ∧
  ∀ (H' : Hp) (x : V), Same H H' → ((x = .non ∧ ∀ u, ¬ Sat rows u) ∨ ∃ (d : Addr) (ps : List (Str × Str)) (f : Str × Str → Int), x = .ref d ∧ TbAt H' d (("0" : Str) :: zs) ps f ∧ (∃ v, Sat rows v) ∧ ∀ a ∈ (("0" : Str) :: zs), ∀ b ∈ (("0" : Str) :: zs), D rows a b = tbF ps f a b) → Q x H'
abbrev nLTable : List Str := ["names", "system", "ends", "found", "one", "left", "right", "limit", "middle", "first", "other"]
theorem scLTable : FnScope nLTable ["names", "system"] (defScope sLTable) := ⟨rfl, rfl, rfl, by decide +kernel, rfl, by decide +kernel, by decide +kernel⟩
theorem ok_ltable {f : Addr} {fd : FuncData} (F : Fun K "_law_table" "_law_table" sLTable f fd) (T : Blt mg) : FnOk P w K mg base CX0 1 f fd ["names", "system"] spLTable := by
  refine F.ok scLTable (fun vs H Q E h => ?_) (fun cdv A outer s H vs Q E hr h => ?_)
  · obtain ⟨np, a, zs, rows, rfl, _⟩ := h
    rfl
  · obtain ⟨np, a, zs, rows, rfl, hN, ⟨ps0, hA, hl, hat⟩, g, end_nd, z20, named, q⟩ := h
    have nd := scLTable.nd
    have hu := hu_of hr
    refine ⟨_, C8.pss_cut (ps_set (i := 2) nd rfl (.inl rfl) (pe_op op_catT (pe_tup (pa_cons pe_str pa_nil)) (pe_callTy call_tuple_of (by rfl) T.tuple PyProof.Rows.boot_tuple (pa_cons (pv 0) pa_nil))))
      (pss_cons (ps_set (i := 3) nd rfl (.inl rfl) pe_dnewT)
      (C8.pss_cut (ps_for PassesOwn.never rfl (pi_tup (pv 2)) (pg_name (i := 4) nd rfl (.inl rfl)) (pss_one (ps_dput hu (pv 3) (pe_tup (pa_cons (pv 4) (pa_cons (pv 4) pa_nil))) pe_int rfl)))
      (C8.pss_cut (ps_for PassesOwn.never rfl (pi_list (pv 1)) (pg_tup rfl (pgs_cons (pg_name (i := 5) nd rfl (.inl rfl)) (pgs_cons (pg_name (i := 6) nd rfl (.inl rfl)) (pgs_cons (pg_name (i := 7) nd rfl (.inl rfl)) pgs_nil)))) (pss_one (ps_if (PW.pt (pw_or (pt_cmp (pc_dnotin hu (pe_tup (pa_cons (pv 5) (pa_cons (pv 6) pa_nil))) (pv 3))) (pw_or1 (pt_cmpR op_lt (pv 7) (pe_dget hu (pv 3) (pe_tup (pa_cons (pv 5) (pa_cons (pv 6) pa_nil))) (fun _ _ => rfl)) (nomark _))))) (pss_one (ps_dput hu (pv 3) (pe_tup (pa_cons (pv 5) (pa_cons (pv 6) pa_nil))) (pv 7) rfl)) pss_nil)))
      (C8.pss_cut (ps_for PassesOwn.never rfl (pi_tup (pv 2)) (pg_name (i := 8) nd rfl (.inl rfl)) (pss_one (ps_for PassesOwn.never rfl (pi_tup (pv 2)) (pg_name (i := 4) nd rfl (.inl rfl)) (pss_one (ps_if (pt_cmp (pc_din hu (pe_tup (pa_cons (pv 4) (pa_cons (pv 8) pa_nil))) (pv 3))) (pss_cons (ps_set (i := 9) nd rfl (.inl rfl) (pe_dget hu (pv 3) (pe_tup (pa_cons (pv 4) (pa_cons (pv 8) pa_nil))) (fun _ _ => rfl))) (pss_one (ps_for PassesOwn.never rfl (pi_tup (pv 2)) (pg_name (i := 10) nd rfl (.inl rfl)) (pss_one (ps_if (pt_cmp (pc_din hu (pe_tup (pa_cons (pv 8) (pa_cons (pv 10) pa_nil))) (pv 3))) (pss_cons (ps_set (i := 7) nd rfl (.inl rfl) (pe_op op_add (pv 9) (pe_dget hu (pv 3) (pe_tup (pa_cons (pv 8) (pa_cons (pv 10) pa_nil))) (fun _ _ => rfl)))) (pss_one (ps_if (PW.pt (pw_or (pt_cmp (pc_dnotin hu (pe_tup (pa_cons (pv 4) (pa_cons (pv 10) pa_nil))) (pv 3))) (pw_or1 (pt_cmpR op_lt (pv 7) (pe_dget hu (pv 3) (pe_tup (pa_cons (pv 4) (pa_cons (pv 10) pa_nil))) (fun _ _ => rfl)) (nomark _))))) (pss_one (ps_dput hu (pv 3) (pe_tup (pa_cons (pv 4) (pa_cons (pv 10) pa_nil))) (pv 7) rfl)) pss_nil))) pss_nil))))) pss_nil)))))
      (C8.pss_cut (ps_for PassesOwn.never rfl (pi_tup (pv 2)) (pg_name (i := 4) nd rfl (.inl rfl)) (pss_one (ps_if (pt_cmpR op_lt (pe_dget hu (pv 3) (pe_tup (pa_cons (pv 4) (pa_cons (pv 4) pa_nil))) (fun _ _ => rfl)) pe_int (nomark _)) (pss_one (ps_ret pe_non)) pss_nil)))
      (pss_one (ps_ret (pv 3)))))))), ?_⟩
    refine ⟨fun σ' H' => ∃ en : Addr, σ' = [some (.ref np), some (.ref a), some (.ref en), none, none, none, none, none, none, none, none] ∧ Same H H' ∧ H' en = some (.tup ((("0" : Str) :: zs).map V.str)), ?_, ?_⟩
    · refine ⟨by show 1 ≤ sizeLine; decide, fun z nz => ?_⟩
      have sB := same_upd (o := HO.tup [V.str "0"]) nz
      refine ⟨.ref np, rfl, np, _, rfl, .inr ⟨SqT.of (sB _ _ hN), z, np, _, _, rfl, rfl, SqT.of upd_same, SqT.of (sB _ _ hN), List.cons_ne_nil _ _, ?_, fun e => ?_, fun _ en nen => ?_⟩⟩
      · rw [List.length_map]
        exact Nat.le_of_lt (small1000 (by show 1 + zs.length ≤ 1000; omega))
      · have ez : zs = [] := List.map_eq_nil_iff.mp e
        subst ez
        exact ⟨z, rfl, sB, upd_same⟩
      · exact ⟨en, rfl, sB.trans (same_upd nen), upd_same⟩
    rintro σ1 H1 ⟨en, rfl, s1, hen⟩
    intro d nd'
    have s2 := same_upd (o := HO.dT []) nd'
    have h25 : (("0" : Str) :: zs).length ≤ 25 := by
      rw [List.length_cons]
      omega
    have hA1 := s1 _ _ hA
    have hat1 : ∀ (i : Nat) (p : Addr) (r : SRow), ps0[i]? = some p → rows[i]? = some r → RowT H1 p r := fun i p r x y => (hat i p r x y).same s1
    generalize hes : (("0" : Str) :: zs) = es at *
    -- a place of a tuple's walk
    have pick : ∀ {i : Nat} {z : V}, (es.map V.str)[i]? = some z → ∃ (hi : i < es.length), z = .str es[i] ∧ es.take (i + 1) = es.take i ++ [es[i]] ∧ es[i] ∈ es := fun {i z} hi => by
      have hi1 : i < es.length := by
        have := (List.getElem?_eq_some_iff.mp hi).1
        rw [List.length_map] at this
        exact this
      refine ⟨hi1, ?_, by rw [List.take_add_one, List.getElem?_eq_getElem hi1]; rfl, List.getElem_mem hi1⟩
      rw [List.getElem?_map, List.getElem?_eq_getElem hi1] at hi
      exact (Option.some.inj hi).symm
    have in_of : ∀ {ps : List (Str × Str)} {f : Str × Str → Int} {a b : Str} {k : Int}, tbF ps f a b = some k → (a, b) ∈ ps ∧ f (a, b) = k := fun {ps f a b k} e => by
      by_cases m : (a, b) ∈ ps
      · rw [tbF_in m] at e
        exact ⟨m, Option.some.inj e⟩
      · rw [tbF_out m] at e
        cases e
    -- nothing between a name and itself
    refine ⟨fun σ' H' => ∃ (y4 : Option V) (ps : List (Str × Str)) (f : Str × Str → Int), σ' = [some (.ref np), some (.ref a), some (.ref en), some (.ref d), y4, none, none, none, none, none, none] ∧ Same H1 H' ∧ TbAt H' d es ps f ∧ Fw rows es (tbF ps f), ?_, ?_⟩
    · refine ⟨.ref en, rfl, en, rfl, ⟨_, SqT.of (s2 _ _ hen)⟩, for_tup (K := K) (a := en) (xs := es.map V.str) (fun i σ H' => ∃ (y4 : Option V) (ps : List (Str × Str)) (f : Str × Str → Int), σ = [some (.ref np), some (.ref a), some (.ref en), some (.ref d), y4, none, none, none, none, none, none] ∧ Same H1 H' ∧ TbAt H' d es ps f ∧
          (∀ p ∈ ps, p.1 = p.2 ∧ f p = 0) ∧ ∀ x ∈ es.take i, (x, x) ∈ ps)
        ⟨none, [], fun _ => 0, rfl, s2, ⟨upd_same, List.nodup_nil, fun p h => absurd h List.not_mem_nil⟩, fun p h => absurd h List.not_mem_nil, fun x h => absurd h List.not_mem_nil⟩ (fun i σ H' _ ⟨_, _, _, _, e, _⟩ => SqT.of (e _ _ hen)) ?_ ?_⟩
      · rintro i z σ H3 hi ⟨y4, ps, f, rfl, s3, TB, diag, has⟩
        obtain ⟨hi1, rfl, etake, hm⟩ := pick hi
        rw [etake]
        generalize es[i] = x at *
        refine ⟨.ref d, rfl, .str x, rfl, .str x, rfl, by show 2 ≤ sizeLine; decide, fun tp ntp => ?_⟩
        have sT := same_upd (o := HO.tup [V.str x, V.str x]) ntp
        obtain ⟨p1, p2⟩ := (TB.same sT).put (p := (x, x)) (k := 0) h25 upd_same hm hm
        refine ⟨d, _, rfl, p1, _, _, _, rfl, (s3.trans sT).later nd', p2, fun p hp => ?_, fun w hw => ?_⟩
        · by_cases e : p = (x, x)
          · rw [e, put_at]
            exact ⟨rfl, rfl⟩
          · rw [put_off e]
            exact diag p ((mem_addN.mp hp).resolve_right e)
        · rcases List.mem_append.mp hw with m | m
          · exact mem_addN.mpr (.inl (has w m))
          · rw [List.mem_singleton] at m
            exact mem_addN.mpr (.inr (by rw [m]))
      · rintro σ H3 ⟨y4, ps, f, rfl, s3, TB, diag, has⟩
        rw [List.length_map, List.take_length] at has
        refine ⟨_, ps, f, rfl, s3, TB, fun x hx => ⟨f (x, x), tbF_in (has x hx), by rw [(diag _ (has x hx)).2]; exact Int.le_refl _⟩, fun x y k e => ?_, fun x y k e => ?_⟩
        · obtain ⟨m, e⟩ := in_of e
          obtain ⟨e1, e2⟩ := diag _ m
          have e1 : x = y := e1
          subst e1
          intro u _
          omega
        · exact TB.sub _ (in_of e).1
    rintro σ3 H3 ⟨y4, ps, f, rfl, s3, TB, W⟩
    -- the rows
    refine ⟨fun σ' H' => ∃ (y4 y5 y6 y7 : Option V) (ps : List (Str × Str)) (f : Str × Str → Int), σ' = [some (.ref np), some (.ref a), some (.ref en), some (.ref d), y4, y5, y6, y7, none, none, none] ∧ Same H1 H' ∧ TbAt H' d es ps f ∧ Fw rows es (tbF ps f) ∧ Rowed rows (tbF ps f), ?_, ?_⟩
    · refine ⟨.ref a, rfl, a, rfl, ⟨_, SqL.of (s3 _ _ hA1)⟩, for_list (K := K) (a := a) (xs := ps0.map V.ref) (fun i σ H' => ∃ (y4 y5 y6 y7 : Option V) (ps : List (Str × Str)) (f : Str × Str → Int), σ = [some (.ref np), some (.ref a), some (.ref en), some (.ref d), y4, y5, y6, y7, none, none, none] ∧ Same H1 H' ∧ TbAt H' d es ps f ∧ Fw rows es (tbF ps f) ∧ Rowed (rows.take i) (tbF ps f))
        ⟨_, _, _, _, ps, f, rfl, s3, TB, W, fun r h => absurd h List.not_mem_nil⟩ (fun i σ H' _ ⟨_, _, _, _, _, _, _, e, _⟩ => SqL.of (e _ _ hA1)) ?_ ?_⟩
      · rintro i z σ H4 hi ⟨y4, y5, y6, y7, ps, f, rfl, s4, TB, W, R⟩
        obtain ⟨p, ⟨l, r, c⟩, rfl, hp, hrr, hmem, hlt, hR⟩ := Sys.at hl hat1 hi
        have etake : rows.take (i + 1) = rows.take i ++ [(l, r, c)] := by rw [List.take_add_one, hrr]; rfl
        rw [etake]
        have le : l ∈ es := named l ⟨_, hmem, .inl rfl⟩
        have re : r ∈ es := named r ⟨_, hmem, .inr rfl⟩
        refine ⟨p, _, rfl, SqT.of (hR.same s4), rfl, _, _, rfl, _, _, rfl, _, _, rfl, rfl, ?_⟩
        refine ⟨.str l, rfl, .str r, rfl, by show 2 ≤ sizeLine; decide, fun tp ntp => ?_⟩
        have sT := same_upd (o := HO.tup [V.str l, V.str r]) ntp
        have TB5 := TB.same sT
        have s5 := s4.trans sT
        have ht5 := upd_same (H := H4) (a := tp) (o := HO.tup [V.str l, V.str r])
        generalize upd H4 tp (.tup [V.str l, V.str r]) = H5 at sT TB5 s5 ht5 ⊢
        -- it is put
        have fin : (∀ x, tbF ps f l r = some x → c ≤ x) → ∀ (H6 : Hp), Same H5 H6 → ∀ (z4 z5 z6 z7 : Option V) (tq : Addr), H6 tq = some (.tup [.str l, .str r]) → ∃ (da : Addr) (H' : Hp), V.ref d = .ref da ∧ DPut H6 da (.ref tq) (.int c) H' ∧ ∃ (y4 y5 y6 y7 : Option V) (ps : List (Str × Str)) (f : Str × Str → Int), [some (V.ref np), some (.ref a), some (.ref en), some (.ref d), z4, z5, z6, z7, none, none, none] = [some (V.ref np), some (.ref a), some (.ref en), some (.ref d), y4, y5, y6, y7, none, none, none] ∧ Same H1 H' ∧ TbAt H' d es ps f ∧ Fw rows es (tbF ps f) ∧ Rowed (rows.take i ++ [(l, r, c)]) (tbF ps f) := by
          intro hle H6 s6 z4 z5 z6 z7 tq htq
          obtain ⟨p1, p2⟩ := (TB5.same s6).put (p := (l, r)) (k := c) h25 htq le re
          refine ⟨d, _, rfl, p1, z4, z5, z6, z7, _, _, rfl, (s5.trans s6).later nd', p2, ?_, ?_⟩
          · rw [tbF_put]
            exact W.put le re (told_own hmem) hle
          · rw [tbF_put]
            intro q hq
            rcases List.mem_append.mp hq with m | m
            · exact R.down (Down.put hle) q m
            · rw [List.mem_singleton] at m
              subst m
              exact ⟨c, put2_at _ _ _ _, Int.le_refl _⟩
        by_cases m : (l, r) ∈ ps
        · refine ⟨.ref d, rfl, d, _, rfl, TB5.get (p := (l, r)) ht5 m, _, rfl, iteF ?_⟩
          refine ⟨.int c, rfl, .ref d, rfl, .str l, rfl, .str r, rfl, by show 2 ≤ sizeLine; decide, fun tp2 ntp2 => ?_⟩
          have sU := same_upd (o := HO.tup [V.str l, V.str r]) ntp2
          refine ⟨d, _, rfl, (TB5.same sU).get (p := (l, r)) upd_same m, _, _, rfl, rfl, _, rfl, ite2 (fun e => ?_) (fun e => ?_)⟩
          · have hlt : c < f (l, r) := of_decide_eq_true e
            refine ⟨.int c, rfl, .ref d, rfl, .str l, rfl, .str r, rfl, by show 2 ≤ sizeLine; decide, fun tq ntq => ?_⟩
            refine fin (fun x ex => ?_) _ (sU.trans (same_upd ntq)) _ _ _ _ tq upd_same
            have := (in_of ex).2
            omega
          · have hge : ¬ c < f (l, r) := fun z => e (decide_eq_true z)
            refine ⟨_, _, _, _, ps, f, rfl, s5.trans sU, TB5.same sU, W, fun q hq => ?_⟩
            rcases List.mem_append.mp hq with k | k
            · exact R q k
            · rw [List.mem_singleton] at k
              subst k
              exact ⟨f (l, r), tbF_in m, by show f (l, r) ≤ c; omega⟩
        · refine ⟨.ref d, rfl, d, _, rfl, TB5.get0 (p := (l, r)) ht5 m, _, rfl, iteT (iteT ?_)⟩
          refine ⟨.int c, rfl, .ref d, rfl, .str l, rfl, .str r, rfl, by show 2 ≤ sizeLine; decide, fun tq ntq => ?_⟩
          refine fin (fun x ex => absurd (in_of ex).1 m) _ (same_upd ntq) _ _ _ _ tq upd_same
      · rintro σ H4 ⟨y4, y5, y6, y7, ps, f, rfl, s4, TB, W, R⟩
        rw [List.length_map, hl, List.take_length] at R
        exact ⟨_, _, _, _, ps, f, rfl, s4, TB, W, R⟩
    rintro σ4 H4 ⟨y4, y5, y6, y7, ps, f, rfl, s4, TB, W, R⟩
    -- the middles
    refine ⟨fun σ' H' => ∃ (y4 y5 y6 y7 y8 y9 y10 : Option V) (ps : List (Str × Str)) (f : Str × Str → Int), σ' = [some (.ref np), some (.ref a), some (.ref en), some (.ref d), y4, y5, y6, y7, y8, y9, y10] ∧ Same H1 H' ∧ TbAt H' d es ps f ∧ Fw rows es (tbF ps f) ∧ Rowed rows (tbF ps f) ∧ (Neg es (tbF ps f) ∨ Clo es (tbF ps f)), ?_, ?_⟩
    · refine ⟨.ref en, rfl, en, rfl, ⟨_, SqT.of (s4 _ _ hen)⟩, for_tup (K := K) (a := en) (xs := es.map V.str) (fun i σ H' => ∃ (y4 y5 y6 y7 y8 y9 y10 : Option V) (ps : List (Str × Str)) (f : Str × Str → Int), σ = [some (.ref np), some (.ref a), some (.ref en), some (.ref d), y4, y5, y6, y7, y8, y9, y10] ∧ Same H1 H' ∧ TbAt H' d es ps f ∧ Fw rows es (tbF ps f) ∧ Rowed rows (tbF ps f) ∧ (Neg es (tbF ps f) ∨ Clo (es.take i) (tbF ps f)))
        ⟨_, _, _, _, _, _, _, ps, f, rfl, s4, TB, W, R, .inr fun m h => absurd h List.not_mem_nil⟩ (fun i σ H' _ ⟨_, _, _, _, _, _, _, _, _, _, e, _⟩ => SqT.of (e _ _ hen)) ?_ ?_⟩
      · rintro i z σ H5 hi ⟨y4, y5, y6, y7, y8, y9, y10, ps, f, rfl, s5, TB, W, R, C⟩
        obtain ⟨hi1, rfl, etake, hm⟩ := pick hi
        have tsub : ∀ x ∈ es.take i, x ∈ es := fun x hx => List.mem_of_mem_take hx
        rw [etake]
        generalize es[i] = m at *
        generalize es.take i = M at *
        generalize hF0 : tbF ps f = F0 at W R C
        have M0 := FwMid.start es F0 m
        refine ⟨.ref en, rfl, en, rfl, ⟨_, SqT.of (s5 _ _ hen)⟩, for_tup (K := K) (a := en) (xs := es.map V.str) (fun j σ H' => ∃ (y4 y5 y6 y7 y9 y10 : Option V) (ps : List (Str × Str)) (f : Str × Str → Int), σ = [some (.ref np), some (.ref a), some (.ref en), some (.ref d), y4, y5, y6, y7, some (.str m), y9, y10] ∧ Same H1 H' ∧ TbAt H' d es ps f ∧ Fw rows es (tbF ps f) ∧ Rowed rows (tbF ps f) ∧ FwMid es F0 m (fun a b => a ∈ es.take j ∧ b ∈ es) (tbF ps f))
          ⟨_, _, _, _, _, _, ps, f, rfl, s5, TB, by rw [hF0]; exact W, by rw [hF0]; exact R, by rw [hF0]; exact M0.more fun a b h => absurd h.1 List.not_mem_nil⟩ (fun i σ H' _ ⟨_, _, _, _, _, _, _, _, _, e, _⟩ => SqT.of (e _ _ hen)) ?_ ?_⟩
        · rintro j z σ H6 hj ⟨y4, y5, y6, y7, y9, y10, ps, f, rfl, s6, TB, W6, R6, Mj⟩
          obtain ⟨hj1, rfl, etakej, hone⟩ := pick hj
          rw [etakej]
          generalize es[j] = o at *
          generalize es.take j = J at *
          have sz : 2 ≤ sizeLine := by decide
          refine ⟨.str o, rfl, .str m, rfl, sz, fun tp ntp => ?_⟩
          have sT := same_upd (o := HO.tup [V.str o, V.str m]) ntp
          have TB7 := TB.same sT
          have s7 := s6.trans sT
          by_cases m1 : (o, m) ∈ ps
          · refine ⟨.ref d, rfl, d, _, rfl, TB7.get (p := (o, m)) upd_same m1, _, rfl, iteT ?_⟩
            refine ⟨.ref d, rfl, .str o, rfl, .str m, rfl, sz, fun tp2 ntp2 => ?_⟩
            have sU := same_upd (o := HO.tup [V.str o, V.str m]) ntp2
            refine ⟨d, _, rfl, (TB7.same sU).get (p := (o, m)) upd_same m1, ?_⟩
            have s8 := s7.trans sU
            have TB8 := TB7.same sU
            have hx : Neg es (tbF ps f) ∨ F0 o m = some (f (o, m)) := Mj.imp id fun h => by rw [← h.1 o, tbF_in m1]
            have tx : Told rows o m (f (o, m)) := W6.snd o m _ (tbF_in m1)
            generalize f (o, m) = x at hx tx ⊢
            refine ⟨.ref en, rfl, en, rfl, ⟨_, SqT.of (s8 _ _ hen)⟩, for_tup (K := K) (a := en) (xs := es.map V.str) (fun k σ H' => ∃ (y5 y6 y7 y10 : Option V) (ps : List (Str × Str)) (f : Str × Str → Int), σ = [some (.ref np), some (.ref a), some (.ref en), some (.ref d), some (.str o), y5, y6, y7, some (.str m), some (.int x), y10] ∧ Same H1 H' ∧ TbAt H' d es ps f ∧ Fw rows es (tbF ps f) ∧ Rowed rows (tbF ps f) ∧
                (Neg es (tbF ps f) ∨ F0 o m = some x) ∧ FwMid es F0 m (fun a b => (a ∈ J ∧ b ∈ es) ∨ (a = o ∧ b ∈ es.take k)) (tbF ps f))
              ⟨_, _, _, _, ps, f, rfl, s8, TB8, W6, R6, hx, Mj.more fun a b h => h.elim .inl fun z => absurd z.2 List.not_mem_nil⟩ (fun i σ H' _ ⟨_, _, _, _, _, _, _, e, _⟩ => SqT.of (e _ _ hen)) ?_ ?_⟩
            · rintro k z σ H9 hk ⟨y5, y6, y7, y10, ps, f, rfl, s9, TB9, W9, R9, hx, Mk⟩
              obtain ⟨hk1, rfl, etakek, hp⟩ := pick hk
              rw [etakek]
              generalize es[k] = p at *
              generalize es.take k = L at *
              refine ⟨.str m, rfl, .str p, rfl, sz, fun tp3 ntp3 => ?_⟩
              have sV := same_upd (o := HO.tup [V.str m, V.str p]) ntp3
              have TBa := TB9.same sV
              have sa := s9.trans sV
              by_cases m2 : (m, p) ∈ ps
              · refine ⟨.ref d, rfl, d, _, rfl, TBa.get (p := (m, p)) upd_same m2, _, rfl, iteT ?_⟩
                refine ⟨.int x, rfl, .ref d, rfl, .str m, rfl, .str p, rfl, sz, fun tp4 ntp4 => ?_⟩
                have sW := same_upd (o := HO.tup [V.str m, V.str p]) ntp4
                refine ⟨d, _, rfl, (TBa.same sW).get (p := (m, p)) upd_same m2, _, _, rfl, rfl, ?_⟩
                have TBb := TBa.same sW
                have sb := sa.trans sW
                have hy : tbF ps f m p = some (f (m, p)) := tbF_in m2
                have ty : Told rows m p (f (m, p)) := W9.snd m p _ hy
                generalize f (m, p) = y at hy ty ⊢
                refine ⟨.str o, rfl, .str p, rfl, sz, fun tp5 ntp5 => ?_⟩
                have sX := same_upd (o := HO.tup [V.str o, V.str p]) ntp5
                have TBc := TBb.same sX
                have sc := sb.trans sX
                have join : ∀ a b : Str, ((a ∈ J ∧ b ∈ es) ∨ (a = o ∧ b ∈ L ++ [p])) → (((a ∈ J ∧ b ∈ es) ∨ (a = o ∧ b ∈ L)) ∨ (a = o ∧ b = p)) := fun a b h => by
                  rcases h with h | ⟨h1, h2⟩
                  · exact .inl (.inl h)
                  · rcases List.mem_append.mp h2 with k | k
                    · exact .inl (.inr ⟨h1, k⟩)
                    · exact .inr ⟨h1, List.mem_singleton.mp k⟩
                -- a lesser sum
                have fin : (∀ z, tbF ps f o p = some z → x + y < z) → ∀ (Hd : Hp), Same H9 Hd → ∀ (z5 z6 z7 z10 : Option V) (tq : Addr), Hd tq = some (.tup [.str o, .str p]) → ∃ (da : Addr) (H' : Hp), V.ref d = .ref da ∧ DPut Hd da (.ref tq) (.int (x + y)) H' ∧
                    ∃ (y5 y6 y7 y10 : Option V) (ps : List (Str × Str)) (f : Str × Str → Int), [some (V.ref np), some (.ref a), some (.ref en), some (.ref d), some (.str o), z5, z6, z7, some (.str m), some (.int x), z10] = [some (V.ref np), some (.ref a), some (.ref en), some (.ref d), some (.str o), y5, y6, y7, some (.str m), some (.int x), y10] ∧ Same H1 H' ∧ TbAt H' d es ps f ∧ Fw rows es (tbF ps f) ∧ Rowed rows (tbF ps f) ∧
                    (Neg es (tbF ps f) ∨ F0 o m = some x) ∧ FwMid es F0 m (fun a b => (a ∈ J ∧ b ∈ es) ∨ (a = o ∧ b ∈ L ++ [p])) (tbF ps f) := by
                  intro hlt Hd sd z5 z6 z7 z10 tq htq
                  have hle : ∀ z, tbF ps f o p = some z → x + y ≤ z := fun z ez => Int.le_of_lt (hlt z ez)
                  obtain ⟨p1, p2⟩ := (TB9.same sd).put (p := (o, p)) (k := x + y) h25 htq hone hp
                  refine ⟨d, _, rfl, p1, z5, z6, z7, z10, _, _, rfl, (s9.trans sd).later nd', p2, ?_, ?_, ?_, ?_⟩
                  · rw [tbF_put]
                    exact W9.put hone hp (told_trans tx ty) hle
                  · rw [tbF_put]
                    exact R9.down (Down.put hle)
                  · rw [tbF_put]
                    exact hx.imp (fun h => h.down (Down.put hle)) id
                  · rw [tbF_put]
                    exact (Mk.put W9 hm hx hy hlt).more fun a b h => .inl (join a b h)
                by_cases m3 : (o, p) ∈ ps
                · refine ⟨.ref d, rfl, d, _, rfl, TBc.get (p := (o, p)) upd_same m3, _, rfl, iteF ?_⟩
                  refine ⟨.int (x + y), rfl, .ref d, rfl, .str o, rfl, .str p, rfl, sz, fun tp6 ntp6 => ?_⟩
                  have sY := same_upd (o := HO.tup [V.str o, V.str p]) ntp6
                  refine ⟨d, _, rfl, (TBc.same sY).get (p := (o, p)) upd_same m3, _, _, rfl, rfl, _, rfl, ite2 (fun e => ?_) (fun e => ?_)⟩
                  · have hlt : x + y < f (o, p) := of_decide_eq_true e
                    refine ⟨.int (x + y), rfl, .ref d, rfl, .str o, rfl, .str p, rfl, sz, fun tq ntq => ?_⟩
                    refine fin (fun z ez => ?_) _ ((((sV.trans sW).trans sX).trans sY).trans (same_upd ntq)) _ _ _ _ tq upd_same
                    rw [← (in_of ez).2]
                    exact hlt
                  · have hge : ¬ x + y < f (o, p) := fun z => e (decide_eq_true z)
                    exact ⟨_, _, _, _, ps, f, rfl, sc.trans sY, TBc.same sY, W9, R9, hx, (Mk.skip hx hy (tbF_in m3) (by omega)).more fun a b h => .inl (join a b h)⟩
                · refine ⟨.ref d, rfl, d, _, rfl, TBc.get0 (p := (o, p)) upd_same m3, _, rfl, iteT (iteT ?_)⟩
                  refine ⟨.int (x + y), rfl, .ref d, rfl, .str o, rfl, .str p, rfl, sz, fun tq ntq => ?_⟩
                  exact fin (fun z ez => absurd (in_of ez).1 m3) _ (((sV.trans sW).trans sX).trans (same_upd ntq)) _ _ _ _ tq upd_same
              · refine ⟨.ref d, rfl, d, _, rfl, TBa.get0 (p := (m, p)) upd_same m2, _, rfl, iteF ?_⟩
                refine ⟨_, _, _, _, ps, f, rfl, sa, TBa, W9, R9, hx, ?_⟩
                rcases Mk with Mk | Mk
                · exact .inl Mk
                · refine FwMid.more (.inr Mk) fun a b h => ?_
                  rcases h with h | ⟨h1, h2⟩
                  · exact .inl (.inl h)
                  · rcases List.mem_append.mp h2 with k | k
                    · exact .inl (.inr ⟨h1, k⟩)
                    · refine .inr (.inr ?_)
                      rw [List.mem_singleton.mp k, ← Mk.2.1 p, tbF_out m2]
            · rintro σ H9 ⟨y5, y6, y7, y10, ps, f, rfl, s9, TB9, W9, R9, hx, Mk⟩
              rw [List.length_map, List.take_length] at Mk
              refine ⟨_, _, _, _, _, _, ps, f, rfl, s9, TB9, W9, R9, Mk.more fun a b h => .inl ?_⟩
              rcases List.mem_append.mp h.1 with k | k
              · exact .inl ⟨k, h.2⟩
              · exact .inr ⟨List.mem_singleton.mp k, h.2⟩
          · refine ⟨.ref d, rfl, d, _, rfl, TB7.get0 (p := (o, m)) upd_same m1, _, rfl, iteF ?_⟩
            refine ⟨_, _, _, _, _, _, ps, f, rfl, s7, TB7, W6, R6, ?_⟩
            rcases Mj with Mj | Mj
            · exact .inl Mj
            · refine FwMid.more (.inr Mj) fun a b h => ?_
              rcases List.mem_append.mp h.1 with k | k
              · exact .inl ⟨k, h.2⟩
              · refine .inr (.inl ?_)
                rw [List.mem_singleton.mp k, ← Mj.1 o, tbF_out m1]
        · rintro σ H6 ⟨y4, y5, y6, y7, y9, y10, ps, f, rfl, s6, TB, W6, R6, Mj⟩
          rw [List.length_map, List.take_length] at Mj
          exact ⟨_, _, _, _, _, _, _, ps, f, rfl, s6, TB, W6, R6, Mj.clo W6 W hm tsub C⟩
      · rintro σ H5 ⟨y4, y5, y6, y7, y8, y9, y10, ps, f, rfl, s5, TB, W, R, C⟩
        rw [List.length_map, List.take_length] at C
        exact ⟨_, _, _, _, _, _, _, ps, f, rfl, s5, TB, W, R, C⟩
    rintro σ5 H5 ⟨y4, y5, y6, y7, y8, y9, y10, ps, f, rfl, s5, TB, W, R, C⟩
    -- no sum below nothing
    refine ⟨fun σ' H' => ∃ (y4 : Option V), σ' = [some (.ref np), some (.ref a), some (.ref en), some (.ref d), y4, y5, y6, y7, y8, y9, y10] ∧ Same H5 H' ∧ ¬ Neg es (tbF ps f), ?_, ?_⟩
    · refine ⟨.ref en, rfl, en, rfl, ⟨_, SqT.of (s5 _ _ hen)⟩, for_tup (K := K) (a := en) (xs := es.map V.str) (fun i σ H' => ∃ (y4 : Option V), σ = [some (.ref np), some (.ref a), some (.ref en), some (.ref d), y4, y5, y6, y7, y8, y9, y10] ∧ Same H5 H' ∧ ∀ x ∈ es.take i, ¬ f (x, x) < 0)
        ⟨_, rfl, Same.refl _, fun x h => absurd h List.not_mem_nil⟩ (fun i σ H' _ ⟨_, _, e, _⟩ => SqT.of (e _ _ (s5 _ _ hen))) ?_ ?_⟩
      · rintro i z σ H6 hi ⟨y4, rfl, s6, prev⟩
        obtain ⟨hi1, rfl, etake, hm⟩ := pick hi
        rw [etake]
        generalize es[i] = x at *
        obtain ⟨k, ek, lk⟩ := W.diag x hm
        obtain ⟨mx, ekf⟩ := in_of ek
        refine ⟨.ref d, rfl, .str x, rfl, .str x, rfl, by show 2 ≤ sizeLine; decide, fun tp ntp => ?_⟩
        have sT := same_upd (o := HO.tup [V.str x, V.str x]) ntp
        refine ⟨d, _, rfl, ((TB.same s6).same sT).get (p := (x, x)) upd_same mx, _, _, rfl, rfl, _, rfl, ite2 (fun e => ?_) (fun e => ?_)⟩
        · have hlt : f (x, x) < 0 := of_decide_eq_true e
          refine q _ .non (((s1.trans s5).trans s6).trans sT) (.inl ⟨rfl, fw_none W ⟨x, hm, f (x, x), tbF_in mx, hlt⟩⟩)
        · refine ⟨_, rfl, s6.trans sT, fun w hw => ?_⟩
          rcases List.mem_append.mp hw with k | k
          · exact prev w k
          · rw [List.mem_singleton] at k
            rw [k]
            exact fun z => e (decide_eq_true z)
      · rintro σ H6 ⟨y4, rfl, s6, prev⟩
        rw [List.length_map, List.take_length] at prev
        refine ⟨_, rfl, s6, fun ⟨x, hx, k, ek, hk⟩ => ?_⟩
        have := prev x hx
        rw [(in_of ek).2] at this
        exact this hk
    rintro σ6 H6 ⟨y4, rfl, s6, ng⟩
    obtain ⟨v, hv, all⟩ := fw_some W R (C.resolve_left ng) ng fun r hr' => named r.1 ⟨r, hr', .inl rfl⟩
    exact ⟨.ref d, rfl, q H6 _ ((s1.trans s5).trans s6) (.inr ⟨d, ps, f, rfl, TB.same s6, ⟨v, hv⟩, all⟩)⟩
end
end Lo
namespace Lo
open PySem L2
abbrev sFewestOf : Stmt := top 22
abbrev sGroups : Stmt := top 23
abbrev sInOrder : Stmt := top 24
abbrev sLeader : Stmt := top 25
abbrev sFollows : Stmt := top 26
section
variable {P : Program} {w : World} {K : PySem.W.Frag} {mg : Str → Option Value} {base : Heap}
theorem TabOf.same {H H' : Hp} {t : Addr} {rows : List SRow} {ns : List Str} {ra : Str → Addr} {rk : Str → List Str} {rv : Str → Str → Int} (s : Same H H') (T : TabOf H t rows ns ra rk rv) : TabOf H' t rows ns ra rk rv := ⟨T.G.same s, T.T, T.names⟩
theorem TabOf.val {H : Hp} {t : Addr} {rows : List SRow} {ns : List Str} {ra : Str → Addr} {rk : Str → List Str} {rv : Str → Str → Int} (T : TabOf H t rows ns ra rk rv) {a b : Str} (ha : a ∈ ns) (hb : b ∈ rk a) : D rows a b = some (rv a b) := by
  rw [← T.T a ha b, opt_in hb]
theorem TabOf.out {H : Hp} {t : Addr} {rows : List SRow} {ns : List Str} {ra : Str → Addr} {rk : Str → List Str} {rv : Str → Str → Int} (T : TabOf H t rows ns ra rk rv) {a b : Str} (ha : a ∈ ns) (hb : b ∉ rk a) : D rows a b = none := by
  rw [← T.T a ha b, opt_out hb]
/-! ### _in_order -/
def spInOrder : Sp := fun vs H Q _ => ∃ (t : Addr) (ns : List Str) (f : Str → V), vs = [.ref t] ∧ H t = some (.dK (dS ns f)) ∧ ns.Nodup ∧ ns.length < 60 ∧
  ∀ (H' : Hp) (p : Addr) (ms : List Str), Same H H' → H p = none → H' p = some (.lst (ms.map V.str)) → ms.Nodup → (∀ x, x ∈ ms ↔ x ∈ ns) → Q (.ref p) H'
abbrev nInOrder : List Str := ["table", "names", "name"]
theorem scInOrder : FnScope nInOrder ["table"] (defScope sInOrder) := ⟨rfl, rfl, rfl, by decide +kernel, rfl, by decide +kernel, by decide +kernel⟩
theorem ok_inorder {f : Addr} {fd : FuncData} (F : Fun K "_in_order" "_in_order" sInOrder f fd) (U : Blt2 mg) : FnOk P w K mg base CX0 1 f fd ["table"] spInOrder := by
  refine F.ok scInOrder (fun vs H Q E h => ?_) (fun cdv A outer s H vs Q E hr h => ?_)
  · obtain ⟨t, ns, f, rfl, _⟩ := h
    rfl
  · obtain ⟨t, ns, f, rfl, ht, hnd, few, q⟩ := h
    have nd := scInOrder.nd
    have hu := hu_of hr
    refine ⟨_, pss_cons (ps_set (i := 1) nd rfl (.inl rfl) (pe_callB cr_sortedS (by rfl) U.sorted PyProof.Rows.boot_sorted (pa_cons (pe_lock (pe_lc (own := [("name", 2)]) (g := gName 2) rfl nd (pi_keys (pv 0)) (blkOk_by (N := nInOrder) (sc := defScope sInOrder) (by decide +kernel))
          (fun _ _ _ _ _ => pg_name (i := 2) nd rfl (.inl rfl)) (fun _ _ _ _ _ => pts_one (pt_cmpR op_ne (pv 2) pe_str (nomark _))) (fun _ _ _ _ _ => pv 2))) pa_nil)))
      (pss_cons (ps_if (pt_cmp (pc_din hu pe_str (pv 0))) (pss_one (ps_ret (pe_lst (pa_cons pe_str (StX.pa_star (pv 1) pa_nil))))) pss_nil)
      (pss_one (ps_ret (pv 1)))), ?_⟩
    refine ⟨t, _, ht, trivial, fun od => ?_⟩
    refine ⟨.ref t, rfl, t, od, rfl, .inl ⟨_, upd_same, fun L nL => ?_⟩⟩
    have nLt : t ≠ L := fun e => by
      rw [← e, upd_same] at nL
      cases nL
    have nL0 : H L = none := by
      rw [upd_ne nLt.symm] at nL
      exact nL
    refine lc_it walk_keys (fun i H' => SameX t H H' ∧ H' t = some (.frz od (.dK (dS ns f))) ∧ H' L = some (.lst ((noZ (ns.take i)).map V.str)))
      ⟨fun b o hb e => by rw [upd_ne (ne_of_none e nL0), upd_ne hb]; exact e, by rw [upd_ne nLt]; exact upd_same, upd_same⟩ (fun i H' _ h => h.2.1) ?_ ?_
    · rintro i z H6 H7 hi ⟨s6, hd6, hL6⟩ ⟨rfl, k, v', hkk, rfl⟩
      have hi' : i < ns.length := by
        rw [dS_len] at hi
        exact hi
      rw [dS_at hi'] at hkk
      obtain rfl : (Sum.inr ns[i] : Key) = k := congrArg Prod.fst (Option.some.inj hkk)
      have etake : ns.take (i + 1) = ns.take i ++ [ns[i]] := by rw [List.take_add_one, List.getElem?_eq_getElem hi']; rfl
      refine ⟨rfl, ?_⟩
      rw [etake]
      unfold noZ at hL6 ⊢
      rw [List.filter_append]
      generalize ns[i] = y at *
      refine ⟨.str y, rfl, rfl, _, rfl, ?_⟩
      rw [ne_dec]
      refine ite2 (fun e => ?_) (fun e => ?_)
      · have ef : [y].filter (fun x => decide (x ≠ ("0" : Str))) = [y] := by
          rw [List.filter_cons]
          exact if_pos e
        rw [ef]
        refine ⟨.str y, rfl, _, hL6, ?_, fun b o hb e => ?_, ?_, ?_⟩
        · rw [List.length_map]
          have := List.length_filter_le (fun x => decide (x ≠ ("0" : Str))) (ns.take i)
          rw [List.length_take] at this
          exact small1000 (by omega)
        · rw [upd_ne (ne_of_none e nL0)]
          exact s6 b o hb e
        · rw [upd_ne nLt]
          exact hd6
        · rw [upd_same, List.map_append]
          rfl
      · have ef : [y].filter (fun x => decide (x ≠ ("0" : Str))) = [] := by
          rw [List.filter_cons]
          exact if_neg e
        rw [ef, List.append_nil]
        exact ⟨s6, hd6, hL6⟩
    rintro H6 ⟨s6, hd6, hL6⟩
    refine ⟨hd6, ?_⟩
    rw [dS_len, List.take_length] at hL6
    have s8 : Same H (upd H6 t (.dK (dS ns f))) := sameX_back ht s6
    have hL8 : upd H6 t (.dK (dS ns f)) L = some (.lst ((noZ ns).map V.str)) := by
      rw [upd_ne nLt.symm]
      exact hL6
    have ht8 := s8 _ _ ht
    generalize upd H6 t (.dK (dS ns f)) = H8 at s8 hL8 ht8 ⊢
    have zlen : (noZ ns).length ≤ ns.length := List.length_filter_le _ _
    refine ⟨L, noZ ns, rfl, SqL.of hL8, by omega, fun ys p hperm _ np => ?_⟩
    have s9 := same_upd (o := HO.lst (ys.map V.str)) np
    have ynd : ys.Nodup := hperm.symm.nodup (hnd.filter _)
    have ymem : ∀ x, x ∈ ys ↔ x ∈ ns ∧ x ≠ ("0" : Str) := fun x => by
      rw [hperm.mem_iff]
      unfold noZ
      rw [List.mem_filter, decide_eq_true_eq]
    by_cases m : ("0" : Str) ∈ ns
    · refine ⟨.ref t, rfl, t, _, rfl, dget (s9 _ _ ht8) m, _, rfl, iteT ?_⟩
      refine ⟨.ref p, rfl, p, _, rfl, .inr (SqL.of upd_same), ?_⟩
      refine ⟨?_, fun r nr => ?_⟩
      · show (V.str "0" :: (ys.map V.str ++ [])).length ≤ sizeLine
        rw [List.append_nil, List.length_cons, List.length_map, hperm.length_eq]
        exact Nat.le_of_lt (small1000 (by omega))
      · refine q _ r ("0" :: ys) ((s8.trans s9).trans (same_upd nr)) ((s8.trans s9).free nr) (by rw [upd_same, List.append_nil]; rfl) (List.nodup_cons.mpr ⟨fun z => ((ymem _).mp z).2 rfl, ynd⟩) fun x => ?_
        rw [List.mem_cons, ymem]
        constructor
        · rintro (e | e)
          · exact e ▸ m
          · exact e.1
        · intro hx
          by_cases e : x = "0"
          · exact .inl e
          · exact .inr ⟨hx, e⟩
    · refine ⟨.ref t, rfl, t, _, rfl, dget0 (s9 _ _ ht8) m, _, rfl, iteF ?_⟩
      refine ⟨.ref p, rfl, q _ p ys (s8.trans s9) (s8.free np) upd_same ynd fun x => ?_⟩
      rw [ymem]
      exact ⟨fun h => h.1, fun h => ⟨h, fun e => m (e ▸ h)⟩⟩
/-! ### _leader -/
def spLeader : Sp := fun vs H Q _ => ∃ (t hl : Addr) (x : Str) (hs : List Str) (rows : List SRow) (v : Str → Int) (ns : List Str) (ra : Str → Addr) (rk : Str → List Str) (rv : Str → Str → Int), vs = [.ref t, .str x, .ref hl] ∧ TabOf H t rows ns ra rk rv ∧ Sat rows v ∧ x ∈ ns ∧
  H hl = some (.lst (hs.map V.str)) ∧ (∀ h ∈ hs, h ∈ ns) ∧ (∀ h ∈ hs, Eqv rows h x → Q (.str h) H) ∧ ((∀ h ∈ hs, ¬ Eqv rows h x) → Q .non H)
abbrev nLeader : List Str := ["table", "name", "leaders", "row", "leader"]
theorem scLeader : FnScope nLeader ["table", "name", "leaders"] (defScope sLeader) := ⟨rfl, rfl, rfl, by decide +kernel, rfl, by decide +kernel, by decide +kernel⟩
theorem ok_leader {f : Addr} {fd : FuncData} (F : Fun K "_leader" "_leader" sLeader f fd) : FnOk P w K mg base CX0 1 f fd ["table", "name", "leaders"] spLeader := by
  refine F.ok scLeader (fun vs H Q E h => ?_) (fun cdv A outer s H vs Q E hr h => ?_)
  · obtain ⟨t, hl, x, hs, rows, v, ns, ra, rk, rv, rfl, _⟩ := h
    rfl
  · obtain ⟨t, hl, x, hs, rows, v, ns, ra, rk, rv, rfl, T, hv, hx, hhs, sub, q1, q2⟩ := h
    have nd := scLeader.nd
    have hu := hu_of hr
    refine ⟨_, pss_cons (ps_set (i := 3) nd rfl (.inl rfl) (pe_dget hu (pv 0) (pv 1) (fun _ _ => rfl)))
      (pss_cons (ps_for PassesOwn.never rfl (pi_list (pv 2)) (pg_name (i := 4) nd rfl (.inl rfl))
        (pss_one (ps_if (PW.pt (pw_and (pt_cmp (pc_din hu (pv 4) (pv 3))) (pw_and (pt_cmp (pc_din hu (pv 1) (pe_dget hu (pv 0) (pv 4) (fun _ _ => rfl)))) (pw_and1 (pt_cmpR op_eq (pe_op op_add (pe_dget hu (pv 3) (pv 4) (fun _ _ => rfl)) (pe_dget hu (pe_dget hu (pv 0) (pv 4) (fun _ _ => rfl)) (pv 1) (fun _ _ => rfl))) pe_int (nomark _))))))
          (pss_one (ps_ret (pv 4))) pss_nil)))
      (pss_one (ps_ret pe_non))), ?_⟩
    have hrow := T.G.row x hx
    refine ⟨.ref t, rfl, .str x, rfl, t, _, rfl, dget T.G.dict hx, ?_⟩
    refine ⟨.ref hl, rfl, hl, rfl, ⟨_, SqL.of hhs⟩, for_list (K := K) (a := hl) (xs := hs.map V.str) (fun i σ H' => ∃ (y4 : Option V), σ = [some (.ref t), some (.str x), some (.ref hl), some (.ref (ra x)), y4] ∧ H' = H ∧ ∀ h ∈ hs.take i, ¬ Eqv rows h x) ⟨none, rfl, rfl, fun h m => absurd m List.not_mem_nil⟩
      (fun i σ H' _ ⟨_, _, e, _⟩ => by rw [e]; exact SqL.of hhs) ?_ ?_⟩
    · rintro i z σ H1 hi ⟨y4, rfl, rfl, prev⟩
      have hi1 : i < hs.length := by
        have := (List.getElem?_eq_some_iff.mp hi).1
        rw [List.length_map] at this
        exact this
      obtain rfl : z = .str hs[i] := by
        rw [List.getElem?_map, List.getElem?_eq_getElem hi1] at hi
        exact (Option.some.inj hi).symm
      have etake : hs.take (i + 1) = hs.take i ++ [hs[i]] := by rw [List.take_add_one, List.getElem?_eq_getElem hi1]; rfl
      have hm : hs[i] ∈ hs := List.getElem_mem hi1
      rw [etake]
      generalize hs[i] = h at *
      have hn := sub h hm
      have no : ¬ Eqv rows h x → ∀ (z4 : Option V), ∃ (y4 : Option V), [some (V.ref t), some (.str x), some (.ref hl), some (.ref (ra x)), z4] = [some (V.ref t), some (.str x), some (.ref hl), some (.ref (ra x)), y4] ∧ H1 = H1 ∧ ∀ g ∈ hs.take i ++ [h], ¬ Eqv rows g x := fun ne z4 => by
        refine ⟨z4, rfl, rfl, fun g hg => ?_⟩
        rcases List.mem_append.mp hg with m | m
        · exact prev g m
        · rw [List.mem_singleton] at m
          exact m ▸ ne
      by_cases m1 : h ∈ rk x
      · refine ⟨.str h, rfl, .ref (ra x), rfl, ra x, _, rfl, dget hrow m1, _, rfl, iteT ?_⟩
        by_cases m2 : x ∈ rk h
        · refine ⟨.str x, rfl, .ref t, rfl, .str h, rfl, t, _, rfl, dget T.G.dict hn, ra h, _, rfl, dget (T.G.row h hn) m2, _, rfl, iteT ?_⟩
          refine ⟨.ref (ra x), rfl, .str h, rfl, ra x, _, rfl, dget hrow m1, .ref t, rfl, .str h, rfl, t, _, rfl, dget T.G.dict hn, .str x, rfl, ra h, _, rfl, dget (T.G.row h hn) m2, _, _, rfl, rfl, rfl, _, rfl, ite2 (fun e => ?_) (fun e => ?_)⟩
          · have ez : rv x h + rv h x = 0 := V.int.inj (of_decide_eq_true e)
            exact ⟨_, rfl, q1 h hm (eqv_of hv (T.val hn m2) (T.val hx m1) (by omega))⟩
          · refine no (fun ev => e (decide_eq_true ?_)) _
            obtain ⟨k, k1, k2⟩ := ev
            rw [T.val hn m2] at k1
            rw [T.val hx m1] at k2
            injection k1 with k1
            injection k2 with k2
            show V.int _ = V.int _
            congr 1
            omega
        · refine ⟨.str x, rfl, .ref t, rfl, .str h, rfl, t, _, rfl, dget T.G.dict hn, ra h, _, rfl, dget0 (T.G.row h hn) m2, _, rfl, iteF (no (fun ev => ?_) _)⟩
          obtain ⟨k, k1, k2⟩ := ev
          rw [T.out hn m2] at k1
          cases k1
      · refine ⟨.str h, rfl, .ref (ra x), rfl, ra x, _, rfl, dget0 hrow m1, _, rfl, iteF (no (fun ev => ?_) _)⟩
        obtain ⟨k, k1, k2⟩ := ev
        rw [T.out hx m1] at k2
        cases k2
    · rintro σ H1 ⟨y4, rfl, rfl, prev⟩
      rw [List.length_map, List.take_length] at prev
      exact q2 prev
end
end Lo
namespace Lo
open PySem PySem.Spec L2 PyProof.Rows
/-- the values of a dict, as a view -/
def ViewV (p d : Addr) : HO := .ext fun h => h.IsValuesView p d
section
variable {X : Cx}
theorem mt_vals : MtR X "dict.values" (fun x xs H Q => ∃ (a : Addr) (kvs : List (L2.Key × V)), x = .ref a ∧ xs = [] ∧ H a = some (.dK kvs) ∧ ∀ p, H p = none → Q (.ref p) (upd H p (ViewV p a))) := by
  intro pins s σ H x xs v us Q I rx rxs
  rintro ⟨a, kvs, rfl, rfl, hd, q⟩
  cases rx
  cases rxs
  obtain ⟨_, lo, vs, _, od⟩ := dk_of I.hok hd
  obtain ⟨ep, da⟩ := id od.dictAt
  obtain ⟨ob, _, ho, e1, _⟩ := da
  have fresh : H s.heap.objs.size = none := I.hok.fresh (Nat.le_refl _)
  refine call_meetsIn PySem.F.slot_dict_values ⟨ob, ho, e1.1⟩ PySem.F.entry_dict_values (PySem.F.args_dict_values_1 _) (meets_dict_values (mixKind X.prog X.w) a lo) ⟨⟨vs, od⟩, ?_⟩
  refine ⟨.ref _, upd H s.heap.objs.size (ViewV s.heap.objs.size a), ?_, rfl, q _ fresh⟩
  refine I.laid (t' := s.toks) (fun b u e => Heap.get?_push_of_some _ e) (Nat.le_refl _) ?_
  have top := Heap.get?_push_size s.heap (o := { cls := .type "dict_values", data := .fields #[.ref a] }) rfl
  exact ⟨⟨_, top, rfl, rfl⟩, ⟨_, top⟩, fun h1 h2 ⟨o, k1, k2⟩ keep => ⟨o, keep o k1, k2⟩⟩
theorem vals_of_kv : ∀ {kvs : List (L2.Key × V)} {vs : List (L2.Key × Value)}, KV kvs vs → Vals (kvs.map (·.2)) (vs.map (·.2))
  | _, _, .nil => .nil
  | _, _, .cons r t => .cons r.2 (vals_of_kv t)
/-- list(d.values()), of the view -/
theorem call_lv (hc : X.calm = true) : CallR X (.type "list") (fun xs H Q => ∃ (p a : Addr) (kvs : List (L2.Key × V)), xs = [.ref p] ∧ H p = some (ViewV p a) ∧ H a = some (.dK kvs) ∧ ∀ l, H l = none → Q (.ref l) (upd H l (.lst (kvs.map (·.2))))) := by
  intro pins s σ H xs us Q I r
  rintro ⟨p, a, kvs, rfl, hp, hd, q⟩
  rw [Vals.ref1 r]
  obtain ⟨size, lo, vs, rel, od⟩ := dk_of I.hok hd
  obtain ⟨ep, da⟩ := od.dictAt
  obtain ⟨view, _⟩ := I.hok p _ hp
  have few : vs.length ≤ sizeLine := by
    rw [← Paired.length rel]
    exact size
  refine PySem.W.kdl_call (PySem.W.kdl_values (knd := mixKind X.prog X.w) (r := p) (kvs := vs) (ep := ep)) (I.ok.hd hc) ⟨view, da⟩ few ?_
  intro h' tk acc c' keep hD made
  have same : acc.toList = vs.map (·.2) := by
    refine List.ext_getElem? fun j => ?_
    by_cases hj : j < vs.length
    · have hs : j < acc.size := by
        rw [made.1]
        exact hj
      obtain ⟨k, hk⟩ := made.2 j acc[j] (Array.getElem?_eq_getElem hs)
      rw [Array.getElem?_toList, Array.getElem?_eq_getElem hs, List.getElem?_map, hk]
      rfl
    · rw [List.getElem?_eq_none (by rw [Array.length_toList, made.1]; omega), List.getElem?_eq_none (by rw [List.length_map]; omega)]
  have fresh : H s.heap.objs.size = none := I.hok.fresh (Nat.le_refl _)
  refine ⟨.ref _, upd H s.heap.objs.size (.lst (kvs.map (·.2))), I.laid (t' := tk) keep (Nat.le_refl _) ?_, rfl, q _ fresh⟩
  exact ⟨by rw [List.length_map]; exact size, acc.toList, c', by rw [same]; exact vals_of_kv rel, by rw [Array.toArray_toList]; exact hD⟩
end
end Lo
namespace Lo
open PySem L2
section
variable {P : Program} {w : World} {K : PySem.W.Frag} {mg : Str → Option Value} {base : Heap}
/-! ### _follows -/
def spFollows : Sp := fun vs H Q _ => ∃ (t ld : Addr) (l r : Str) (hs : List Str) (rows : List SRow) (v : Str → Int) (ns : List Str) (ra : Str → Addr) (rk : Str → List Str) (rv : Str → Str → Int), vs = [.ref t, .str l, .str r, .ref ld] ∧ TabOf H t rows ns ra rk rv ∧ Sat rows v ∧ l ∈ ns ∧ r ∈ rk l ∧ ns.length ≤ 250 ∧
  Rd H ld (.dK (dS hs fun _ => .bl true)) ∧ (∀ x ∈ ns, ra x ≠ ld) ∧ (∀ h ∈ hs, h ∈ ns) ∧ ∀ H' b, Same H H' → (b = true ↔ ∃ m ∈ hs, m ≠ l ∧ m ≠ r ∧ Tight rows l m r) → Q (.bl b) H'
abbrev nFollows : List Str := ["table", "left", "right", "leaders", "limit", "name", "first"]
theorem scFollows : FnScope nFollows ["table", "left", "right", "leaders"] (defScope sFollows) := ⟨rfl, rfl, rfl, by decide +kernel, rfl, by decide +kernel, by decide +kernel⟩
theorem ok_follows {f : Addr} {fd : FuncData} (F : Fun K "_follows" "_follows" sFollows f fd) : FnOk P w K mg base CX0 1 f fd ["table", "left", "right", "leaders"] spFollows := by
  refine F.ok scFollows (fun vs H Q E h => ?_) (fun cdv A outer s H vs Q E hr h => ?_)
  · obtain ⟨t, ld, l, r, hs, rows, v, ns, ra, rk, rv, rfl, _⟩ := h
    rfl
  · obtain ⟨t, ld, l, r, hs, rows, v, ns, ra, rk, rv, rfl, T, hv, hl, hrl, few, hld, nld, sub, q⟩ := h
    have nd := scFollows.nd
    have hu := hu_of hr
    refine ⟨_, pss_cons (ps_set (i := 4) nd rfl (.inl rfl) (pe_dget hu (pe_dget hu (pv 0) (pv 1) (fun _ _ => rfl)) (pv 2) (fun _ _ => rfl)))
      (pss_cons (ps_lock (ps_for PassesOwn.never rfl (pi_items (pe_dget hu (pv 0) (pv 1) (fun _ _ => rfl))) (pg_tup rfl (pgs_cons (pg_name (i := 5) nd rfl (.inl rfl)) (pgs_cons (pg_name (i := 6) nd rfl (.inl rfl)) pgs_nil)))
        (pss_one (ps_if (PW.pt (pw_and (pt_cmpR op_ne (pv 5) (pv 1) (nomark _)) (pw_and (pt_cmpR op_ne (pv 5) (pv 2) (nomark _)) (pw_and (pt_cmp (pc_din hu (pv 5) (pv 3))) (pw_and1 (pt_cmp (pc_din hu (pv 2) (pe_dget hu (pv 0) (pv 5) (fun _ _ => rfl)))))))))
          (pss_one (ps_if (pt_cmpR op_le (pe_op op_add (pv 6) (pe_dget hu (pe_dget hu (pv 0) (pv 5) (fun _ _ => rfl)) (pv 2) (fun _ _ => rfl))) (pv 4) (nomark _)) (pss_one (ps_ret pe_bl)) pss_nil)) pss_nil))))
      (pss_one (ps_ret pe_bl))), ?_⟩
    have hL := T.G.row l hl
    have ht := T.G.dict
    refine ⟨.ref t, rfl, .str l, rfl, t, _, rfl, dget ht hl, .str r, rfl, ra l, _, rfl, dget hL hrl, ?_⟩
    refine ⟨ra l, _, hL, trivial, fun od => ?_⟩
    have back : ∀ {H' : Hp}, SameX (ra l) H H' → Same H (upd H' (ra l) (.dK (dS (rk l) fun y => .int (rv l y)))) := fun sx => sameX_back hL sx
    have ht' : ∀ {H' : Hp}, SameX (ra l) H H' → H' t = some (.dK (dS ns fun x => .ref (ra x))) := fun {H'} sx => sx _ _ (fun e => T.G.off l hl e.symm) ht
    have rowR : ∀ {H' : Hp}, SameX (ra l) H H' → H' (ra l) = some (.frz od (.dK (dS (rk l) fun y => .int (rv l y)))) → ∀ {x : Str}, x ∈ ns → Rd H' (ra x) (.dK (dS (rk x) fun y => .int (rv x y))) := fun {H'} sx hf {x} hx => by
      by_cases e : ra x = ra l
      · have z := T.G.row x hx
        rw [e, hL] at z
        injection z with z
        rw [e]
        exact .inr ⟨od, z ▸ hf⟩
      · exact .inl (sx _ _ e (T.G.row x hx))
    have ldR : ∀ {H' : Hp}, SameX (ra l) H H' → Rd H' ld (.dK (dS hs fun _ => .bl true)) := fun {H'} sx => by
      have ne : ld ≠ ra l := fun e => nld l hl e.symm
      rcases hld with h | ⟨o, h⟩
      · exact .inl (sx _ _ ne h)
      · exact .inr ⟨o, sx _ _ ne h⟩
    have key : ∀ {m : Str}, m ∈ hs → (Tight rows l m r ↔ m ∈ rk l ∧ r ∈ rk m ∧ rv l m + rv m r ≤ rv l r) := fun {m} hm => by
      have mn := sub m hm
      constructor
      · rintro ⟨x, y, z, h1, h2, h3, h4⟩
        have m1 : m ∈ rk l := Classical.byContradiction fun n => by
          rw [T.out hl n] at h1
          cases h1
        have m2 : r ∈ rk m := Classical.byContradiction fun n => by
          rw [T.out mn n] at h2
          cases h2
        rw [T.val hl m1] at h1
        rw [T.val mn m2] at h2
        rw [T.val hl hrl] at h3
        injection h1 with h1
        injection h2 with h2
        injection h3 with h3
        exact ⟨m1, m2, by omega⟩
      · rintro ⟨m1, m2, h⟩
        exact ⟨_, _, _, T.val hl m1, T.val mn m2, T.val hl hrl, h⟩
    refine ⟨.ref t, rfl, .str l, rfl, t, _, rfl, dget (by rw [upd_ne fun e => T.G.off l hl e.symm]; exact ht) hl, ra l, od, _, rfl, upd_same, for_it walk_items (fun i σ H' => ∃ (y5 y6 : Option V), σ = [some (.ref t), some (.str l), some (.str r), some (.ref ld), some (.int (rv l r)), y5, y6] ∧ SameX (ra l) H H' ∧
        H' (ra l) = some (.frz od (.dK (dS (rk l) fun y => .int (rv l y)))) ∧ ∀ m ∈ (rk l).take i, ¬ (m ∈ hs ∧ m ≠ l ∧ m ≠ r ∧ Tight rows l m r))
      ⟨none, none, rfl, fun b o hb e => by rw [upd_ne hb]; exact e, upd_same, fun m h => absurd h List.not_mem_nil⟩ (fun i σ H' _ ⟨_, _, _, _, e, _⟩ => e) ?_ ?_⟩
    · rintro i z σ H6 H7 hi ⟨y5, y6, rfl, s6, hd6, prev⟩ ⟨tp, x1, x2, rfl, ntp, rfl, e1, e2⟩
      have hi' : i < (rk l).length := by
        rw [dS_len] at hi
        exact hi
      dsimp only at e1 e2
      rw [dS_at hi'] at e1 e2
      obtain rfl := Option.some.inj e1
      obtain rfl := Option.some.inj e2
      have sT := same_upd (o := HO.tup [kV (Sum.inr (rk l)[i]), V.int (rv l (rk l)[i])]) ntp
      have etake : (rk l).take (i + 1) = (rk l).take i ++ [(rk l)[i]] := by rw [List.take_add_one, List.getElem?_eq_getElem hi']; rfl
      have hm : (rk l)[i] ∈ rk l := List.getElem_mem hi'
      have s7 := s6.trans (same_x sT)
      have hd7 := sT _ _ hd6
      refine ⟨tp, _, rfl, SqT.of upd_same, rfl, _, _, rfl, _, _, rfl, rfl, ?_⟩
      rw [etake]
      generalize upd H6 tp (.tup [kV (Sum.inr (rk l)[i]), V.int (rv l (rk l)[i])]) = H7 at s7 hd7 ⊢
      generalize (rk l)[i] = m at *
      have no : ¬ (m ∈ hs ∧ m ≠ l ∧ m ≠ r ∧ Tight rows l m r) → ∀ (z5 z6 : Option V), ∃ (y5 y6 : Option V), [some (V.ref t), some (.str l), some (.str r), some (.ref ld), some (.int (rv l r)), z5, z6] = [some (V.ref t), some (.str l), some (.str r), some (.ref ld), some (.int (rv l r)), y5, y6] ∧ SameX (ra l) H H7 ∧
          H7 (ra l) = some (.frz od (.dK (dS (rk l) fun y => .int (rv l y)))) ∧ ∀ g ∈ (rk l).take i ++ [m], ¬ (g ∈ hs ∧ g ≠ l ∧ g ≠ r ∧ Tight rows l g r) := fun ne z5 z6 => by
        refine ⟨z5, z6, rfl, s7, hd7, fun g hg => ?_⟩
        rcases List.mem_append.mp hg with k | k
        · exact prev g k
        · rw [List.mem_singleton] at k
          exact k ▸ ne
      refine ⟨.str m, rfl, _, rfl, rfl, _, rfl, ?_⟩
      rw [ne_dec]
      refine ite2 (fun c1 => ?_) (fun c1 => ?_)
      · have c1 : m ≠ l := of_decide_eq_true c1
        refine ⟨.str m, rfl, _, rfl, rfl, _, rfl, ?_⟩
        rw [ne_dec]
        refine ite2 (fun c2 => ?_) (fun c2 => ?_)
        · have c2 : m ≠ r := of_decide_eq_true c2
          by_cases c3 : m ∈ hs
          · have mn := sub m c3
            refine ⟨.str m, rfl, .ref ld, rfl, ld, _, rfl, rget (ldR s7) c3, _, rfl, iteT ?_⟩
            by_cases c4 : r ∈ rk m
            · refine ⟨.str r, rfl, .ref t, rfl, .str m, rfl, t, _, rfl, dget (ht' s7) mn, ra m, _, rfl, rget (rowR s7 hd7 mn) c4, _, rfl, iteT ?_⟩
              refine ⟨.int (rv l m), rfl, .ref t, rfl, .str m, rfl, t, _, rfl, dget (ht' s7) mn, .str r, rfl, ra m, _, rfl, rget (rowR s7 hd7 mn) c4, _, _, rfl, rfl, .int (rv l r), rfl, _, _, rfl, rfl, _, rfl, ite2 (fun c5 => ?_) (fun c5 => ?_)⟩
              · exact ⟨hd7, q _ true (back s7) ⟨fun _ => ⟨m, c3, c1, c2, (key c3).mpr ⟨hm, c4, of_decide_eq_true c5⟩⟩, fun _ => rfl⟩⟩
              · exact no (fun h => c5 (decide_eq_true ((key c3).mp h.2.2.2).2.2)) _ _
            · refine ⟨.str r, rfl, .ref t, rfl, .str m, rfl, t, _, rfl, dget (ht' s7) mn, ra m, _, rfl, rget0 (rowR s7 hd7 mn) c4, _, rfl, iteF (no (fun h => c4 ((key c3).mp h.2.2.2).2.1) _ _)⟩
          · exact ⟨.str m, rfl, .ref ld, rfl, ld, _, rfl, rget0 (ldR s7) c3, _, rfl, iteF (no (fun h => c3 h.1) _ _)⟩
        · have c2 : m = r := Classical.byContradiction fun n => c2 (decide_eq_true n)
          exact iteF (no (fun h => h.2.2.1 c2) _ _)
      · have c1 : m = l := Classical.byContradiction fun n => c1 (decide_eq_true n)
        exact iteF (no (fun h => h.2.1 c1) _ _)
    · rintro σ H6 ⟨y5, y6, rfl, s6, hd6, prev⟩
      rw [dS_len, List.take_length] at prev
      refine ⟨hd6, q _ false (back s6) ⟨(fun z => nomatch z), fun ⟨m, m1, m2, m3, m4⟩ => absurd ⟨m1, m2, m3, m4⟩ (prev m ((key m1).mp m4).1)⟩⟩
end
end Lo
namespace Lo
open PySem L2
/-- tied, as a test -/
noncomputable def eqB (rows : List SRow) (a b : Str) : Bool := @decide (Eqv rows a b) (Classical.propDecidable _)
theorem eqB_iff {rows : List SRow} {a b : Str} : eqB rows a b = true ↔ Eqv rows a b := by
  unfold eqB
  exact @decide_eq_true_iff _ (Classical.propDecidable _)
theorem eqB_no {rows : List SRow} {a b : Str} (h : ¬ Eqv rows a b) : eqB rows a b = false := by
  cases e : eqB rows a b with
  | false => rfl
  | true => exact absurd (eqB_iff.mp e) h
theorem filter_one {p : Str → Bool} {x : Str} (h : p x = true) : [x].filter p = [x] := by rw [List.filter_cons, if_pos h, List.filter_nil]
theorem eqB_eqq {rows : List SRow} {v : Str → Int} (hv : Sat rows v) : Eqq (eqB rows) :=
  ⟨fun a => eqB_iff.mpr (eqv_refl hv a), fun a b h => eqB_iff.mpr (eqB_iff.mp h).symm, fun a b c h k => eqB_iff.mpr ((eqB_iff.mp h).trans hv (eqB_iff.mp k))⟩
section
variable {P : Program} {w : World} {K : PySem.W.Frag} {mg : Str → Option Value} {base : Heap}
/-! ### _groups -/
def spGroups : Sp := fun vs H Q _ => ∃ (t : Addr) (rows : List SRow) (v : Str → Int) (ns : List Str) (ra : Str → Addr) (rk : Str → List Str) (rv : Str → Str → Int), vs = [.ref t] ∧ TabOf H t rows ns ra rk rv ∧ Sat rows v ∧ ns.length < 60 ∧
  ∀ (H' : Hp) (p : Addr) (ms : List Str) (ga : Str → Addr), Same H H' → ms.Nodup → (∀ x, x ∈ ms ↔ x ∈ ns) → H' p = some (.lst ((headsOf (eqB rows) ms).map fun h => V.ref (ga h))) → (∀ h ∈ headsOf (eqB rows) ms, H' (ga h) = some (.lst ((ms.filter (eqB rows h)).map V.str))) → Q (.ref p) H'
abbrev nGroups : List Str := ["table", "found", "leaders", "name", "leader"]
theorem scGroups : FnScope nGroups ["table"] (defScope sGroups) := ⟨rfl, rfl, rfl, by decide +kernel, rfl, by decide +kernel, by decide +kernel⟩
theorem ok_groups {f fO fL : Addr} {fd fdO fdL : FuncData} (F : Fun K "_groups" "_groups" sGroups f fd) (T : Blt mg)
    (GO : FnOk P w K mg base CX0 1 fO fdO ["table"] spInOrder) (kO : PySem.W.keepIn K (.ref fO) = true) (bO : Binds K fdO ["table"] []) (gO : mg "_in_order" = some (.ref fO))
    (GL : FnOk P w K mg base CX0 1 fL fdL ["table", "name", "leaders"] spLeader) (kL : PySem.W.keepIn K (.ref fL) = true) (bL : Binds K fdL ["table", "name", "leaders"] []) (gL : mg "_leader" = some (.ref fL)) :
    FnOk P w K mg base CX0 2 f fd ["table"] spGroups := by
  refine F.ok scGroups (fun vs H Q E h => ?_) (fun cdv A outer s H vs Q E hr h => ?_)
  · obtain ⟨t, rows, v, ns, ra, rk, rv, rfl, _⟩ := h
    rfl
  · obtain ⟨t, rows, v, ns, ra, rk, rv, rfl, TO, hv, few, q⟩ := h
    have nd := scGroups.nd
    have hu := hu_of hr
    have eq := eqB_eqq hv
    refine ⟨_, pss_cons (ps_set (i := 1) nd rfl (.inl rfl) pe_dnewK)
      (pss_cons (ps_set (i := 2) nd rfl (.inl rfl) (pe_lst pa_nil))
      (pss_cons (ps_for PassesOwn.never rfl (pi_list (pe_call GO hr (by rfl) gO kO bO .nil pass0 (pa_cons (pv 0) pa_nil))) (pg_name (i := 3) nd rfl (.inl rfl))
        (pss_cons (ps_set (i := 4) nd rfl (.inl rfl) (pe_call GL hr (by rfl) gL kL bL .nil pass0 (pa_cons (pv 0) (pa_cons (pv 3) (pa_cons (pv 2) pa_nil)))))
        (pss_one (ps_if (pt_cmpR op_isN (pv 4) pe_non (nomark _))
          (pss_cons (ps_dput hu (pv 1) (pv 3) (pe_lst (pa_cons (pv 3) pa_nil)) rfl)
          (pss_one (ps_expr (pe_bm PySem.F.plainAttrs_list PySem.F.slot_list_append PySem.F.type_list_append mt_append (pv 2) (pa_cons (pv 3) pa_nil)))))
          (pss_one (ps_expr (pe_bm PySem.F.plainAttrs_list PySem.F.slot_list_append PySem.F.type_list_append mt_append (pe_dget hu (pv 1) (pv 4) (fun _ _ => rfl)) (pa_cons (pv 3) pa_nil))))))))
      (pss_one (ps_ret (pe_callTy (call_lv rfl) (by rfl) T.list PyProof.Rows.boot_list (pa_cons (pe_bm0 PySem.F.plainAttrs_dict PySem.F.slot_dict_values PySem.F.type_dict_values mt_vals (pv 1)) pa_nil)))))), ?_⟩
    intro fo nfo
    have s1 := same_upd (o := HO.dK []) nfo
    refine ⟨Nat.zero_le _, fun hl nhl => ?_⟩
    have s2 := same_upd (o := HO.lst []) nhl
    have s12 := s1.trans s2
    have fhl : H hl = none := s1.free nhl
    have nfh : fo ≠ hl := fun e => by
      rw [← e, upd_same] at nhl
      cases nhl
    refine ⟨.ref t, rfl, t, ns, _, rfl, s12 _ _ TO.G.dict, TO.G.nd, few, fun H3 oa ms s3 noa hoa mnd mem => ?_⟩
    have mlen : ms.length < 60 := by
      have := nodup_le ms ns mnd fun x hx => (mem x).mp hx
      omega
    have hfo3 := s3 _ _ (s2 _ _ upd_same)
    have hhl3 := s3 _ _ upd_same
    have s13 := s12.trans s3
    have foa : H oa = none := s12.free noa
    have noh : oa ≠ hl := fun e => by
      rw [e, upd_same] at noa
      cases noa
    refine ⟨oa, rfl, ⟨_, SqL.of hoa⟩, for_list (K := K) (a := oa) (xs := ms.map V.str) (fun i σ H' => ∃ (y3 y4 : Option V) (ga : Str → Addr), σ = [some (.ref t), some (.ref fo), some (.ref hl), y3, y4] ∧ Same H H' ∧ H' fo = some (.dK (dS (headsOf (eqB rows) (ms.take i)) fun h => .ref (ga h))) ∧
        H' hl = some (.lst ((headsOf (eqB rows) (ms.take i)).map V.str)) ∧ H' oa = some (.lst (ms.map V.str)) ∧ (∀ h ∈ headsOf (eqB rows) (ms.take i), H' (ga h) = some (.lst (((ms.take i).filter (eqB rows h)).map V.str)) ∧ H (ga h) = none ∧ ga h ≠ hl ∧ ga h ≠ oa) ∧
        (∀ h ∈ headsOf (eqB rows) (ms.take i), ∀ g ∈ headsOf (eqB rows) (ms.take i), ga h = ga g → h = g))
      ⟨none, none, fun _ => 0, rfl, s13, hfo3, hhl3, hoa, fun h m => absurd m List.not_mem_nil, fun h m => absurd m List.not_mem_nil⟩ (fun i σ H' _ ⟨_, _, _, _, _, _, _, e, _⟩ => SqL.of e) ?_ ?_⟩
    · rintro i z σ H4 hi ⟨y3, y4, ga, rfl, s4, hfo, hhl, hoa4, rowsG, inj⟩
      have hi1 : i < ms.length := by
        have := (List.getElem?_eq_some_iff.mp hi).1
        rw [List.length_map] at this
        exact this
      obtain rfl : z = .str ms[i] := by
        rw [List.getElem?_map, List.getElem?_eq_getElem hi1] at hi
        exact (Option.some.inj hi).symm
      have etake : ms.take (i + 1) = ms.take i ++ [ms[i]] := by rw [List.take_add_one, List.getElem?_eq_getElem hi1]; rfl
      have hx : ms[i] ∈ ns := (mem _).mp (List.getElem_mem hi1)
      have Hh := heads_ok eq (ms.take i)
      have tlen : (ms.take i).length ≤ 60 := by
        rw [List.length_take]
        omega
      have tsub : ∀ y ∈ ms.take i, y ∈ ns := fun y hy => (mem y).mp (List.mem_of_mem_take hy)
      rw [etake, headsOf_snoc]
      generalize ms[i] = x at *
      generalize ms.take i = seen at *
      generalize headsOf (eqB rows) seen = hs at *
      have hlen : hs.length ≤ 60 := Nat.le_trans (nodup_le hs seen (Hh.nodup eq) Hh.sub) tlen
      have hT := TO.same s4
      refine ⟨.ref t, rfl, .str x, rfl, .ref hl, rfl, t, hl, x, hs, rows, v, ns, ra, rk, rv, rfl, hT, hv, hx, hhl, fun h m => tsub h (Hh.sub h m), fun g hg ev => ?_, fun no => ?_⟩
      · -- it has a leader
        refine ⟨_, rfl, rfl, _, rfl, iteF ?_⟩
        obtain ⟨h1, h2, h3, h4⟩ := rowsG g hg
        have st : hstep (eqB rows) hs x = hs := by
          unfold hstep
          exact if_pos (List.any_eq_true.mpr ⟨g, hg, (eqB_iff (a := g) (b := x)).mpr ev⟩)
        rw [st]
        have ngf : ga g ≠ fo := ne_of h1 hfo (by intro z; cases z)
        refine ⟨.ref fo, rfl, .str g, rfl, fo, _, rfl, dget hfo hg, .inl ⟨rfl, _, SqL.of h1⟩, .str x, rfl, ga g, _, _, rfl, rfl, h1, ?_, ?_⟩
        · rw [List.length_map]
          have := List.length_filter_le (eqB rows g) seen
          exact small1000 (by omega)
        · refine ⟨_, _, ga, rfl, s4.later h2, by rw [upd_ne ngf.symm]; exact hfo, by rw [upd_ne h3.symm]; exact hhl, by rw [upd_ne h4.symm]; exact hoa4, fun h hh => ?_, inj⟩
          obtain ⟨g1, g2, g3, g4⟩ := rowsG h hh
          refine ⟨?_, g2, g3, g4⟩
          rw [List.filter_append]
          by_cases e : h = g
          · subst e
            rw [upd_same, filter_one (eqB_iff.mpr ev), List.map_append]
            rfl
          · have ne : ga h ≠ ga g := fun z => e (inj h hh g hg z)
            have ex : eqB rows h x = false := by
              cases z : eqB rows h x with
              | false => rfl
              | true => exact absurd (Hh.one eq h hh g hg (eq.trans _ _ _ z (eq.symm _ _ (eqB_iff.mpr ev)))) e
            rw [upd_ne ne, show [x].filter (eqB rows h) = [] by rw [List.filter_cons, ex]; rfl, List.append_nil]
            exact g1
      · -- a new one
        refine ⟨_, rfl, rfl, _, rfl, iteT ?_⟩
        have nx : x ∉ hs := fun m => no x m (eqv_refl hv x)
        have st : hstep (eqB rows) hs x = hs ++ [x] := if_neg fun k => by
          obtain ⟨h, hh, eh⟩ := List.any_eq_true.mp k
          exact no h hh (eqB_iff.mp eh)
        have ead : addN hs x = hs ++ [x] := if_neg nx
        rw [st]
        refine ⟨.str x, rfl, by show 1 ≤ sizeLine; decide, fun z nz => ?_⟩
        have s5 := same_upd (o := HO.lst [V.str x]) nz
        refine ⟨.ref fo, rfl, .str x, rfl, fo, _, rfl, dput x (.ref z) (s5 _ _ hfo) (by omega), ?_⟩
        have nzf : z ≠ fo := fun e => by
          rw [e, hfo] at nz
          cases nz
        have nzh : z ≠ hl := fun e => by
          rw [e, hhl] at nz
          cases nz
        have nzo : z ≠ oa := fun e => by
          rw [e, hoa4] at nz
          cases nz
        rw [put_map (fun n : Addr => V.ref n)]
        have hhl6 : upd (upd H4 z (.lst [.str x])) fo (.dK (dS (addN hs x) fun h => .ref (put ga x z h))) hl = some (.lst (hs.map V.str)) := by
          rw [upd_ne nfh.symm]
          exact s5 _ _ hhl
        have nfoa : fo ≠ oa := ne_of hfo hoa4 (by intro z; cases z)
        refine ⟨.ref hl, rfl, .inl ⟨rfl, _, SqL.of hhl6⟩, .str x, rfl, hl, _, _, rfl, rfl, hhl6, by rw [List.length_map]; exact small1000 (by omega), ?_⟩
        have old : ∀ b o, b ≠ fo → b ≠ hl → H4 b = some o → upd (upd (upd H4 z (.lst [.str x])) fo (.dK (dS (addN hs x) fun h => .ref (put ga x z h)))) hl (.lst (hs.map V.str ++ [.str x])) b = some o := fun b o b1 b2 e => by
          rw [upd_ne b2, upd_ne b1]
          exact s5 _ _ e
        refine ⟨_, _, put ga x z, rfl, (((s4.trans s5).later nfo).later fhl), ?_, ?_, old _ _ nfoa.symm noh hoa4, fun h hh => ?_, fun h hh g hg e => ?_⟩
        · rw [upd_ne nfh, upd_same, ead]
        · rw [upd_same, List.map_append]
          rfl
        · rw [List.filter_append]
          rcases List.mem_append.mp hh with m | m
          · have nh : h ≠ x := fun e => nx (e ▸ m)
            obtain ⟨g1, g2, g3, g4⟩ := rowsG h m
            rw [put_off nh]
            refine ⟨?_, g2, g3, g4⟩
            rw [show [x].filter (eqB rows h) = [] by rw [List.filter_cons, eqB_no (no h m)]; rfl, List.append_nil]
            exact old _ _ (ne_of g1 hfo (by intro z; cases z)) g3 g1
          · rw [List.mem_singleton] at m
            subst m
            rw [put_at]
            refine ⟨?_, s4.free nz, nzh, nzo⟩
            have none : seen.filter (eqB rows h) = [] := List.filter_eq_nil_iff.mpr fun y hy hy2 => by
              obtain ⟨g, hg, eg⟩ := Hh.cover y hy
              exact no g hg (eqB_iff.mp (eq.trans _ _ _ eg (eq.symm _ _ hy2)))
            rw [none, filter_one (eq.refl h), upd_ne nzh, upd_ne nzf, upd_same]
            rfl
        · have away : ∀ h ∈ hs, ga h ≠ z := fun h m e => by
            have := (rowsG h m).1
            rw [e, nz] at this
            cases this
          by_cases a1 : h = x
          · by_cases a2 : g = x
            · rw [a1, a2]
            · rw [a1, put_at, put_off a2] at e
              exact absurd e.symm (away g ((List.mem_append.mp hg).resolve_right fun w => a2 (List.mem_singleton.mp w)))
          · by_cases a2 : g = x
            · rw [a2, put_at, put_off a1] at e
              exact absurd e (away h ((List.mem_append.mp hh).resolve_right fun w => a1 (List.mem_singleton.mp w)))
            · rw [put_off a1, put_off a2] at e
              exact inj h ((List.mem_append.mp hh).resolve_right fun w => a1 (List.mem_singleton.mp w)) g ((List.mem_append.mp hg).resolve_right fun w => a2 (List.mem_singleton.mp w)) e
    · rintro σ H4 ⟨y3, y4, ga, rfl, s4, hfo, hhl, hoa4, rowsG, inj⟩
      rw [List.length_map, List.take_length] at hfo rowsG
      refine ⟨.ref fo, rfl, .inr (.inr (.inl ⟨rfl, .inl ⟨_, hfo⟩⟩)), fo, _, rfl, rfl, hfo, fun vw nvw => ?_⟩
      have s5 := same_upd (o := ViewV vw fo) nvw
      refine ⟨vw, fo, _, rfl, upd_same, s5 _ _ hfo, fun p np => ?_⟩
      have s6 := same_upd (o := HO.lst ((dS (headsOf (eqB rows) ms) fun h => V.ref (ga h)).map (·.2))) np
      refine q _ p ms ga ((s4.trans s5).trans s6) mnd mem ?_ fun h hh => s6 _ _ (s5 _ _ (rowsG h hh).1)
      rw [upd_same]
      unfold dS
      rw [List.map_map]
      rfl
end
end Lo
namespace Lo
open PySem PySem.Spec L2 PyProof.Rows
section
variable {X : Cx}
/-- y = {k: v for ..}, as the name's own store -/
theorem sw_dict {ke ve : Expr} {cs : List Comprehension} {sc : Scope} {p1 p2 : Pos} {y : Str} {n : Nat} {env : Env}
    (k1 : env.scope.kind = .function) (k2 : env.scope.names.lookup y = some .local)
    (k3 : (p2.line == p1.line) = true) (k4 : (sc.names.any fun (a, b) => a == y && (b == .local || b == .cell)) = false) :
    swapsWith (.DictComp ke ve cs sc p1) (some (.Name y p2)) n env = pure true := by
  have q1 : env.kindOf y = some .local := k2
  have q2 : env.blockKind = .function := by
    unfold Env.blockKind
    rw [k1]
    rfl
  unfold swapsWith
  simp only [q2, q1, k4, Expr.pos, k3]
  rfl
theorem ps_setDc {i : Nat} {y : Str} {p2 : Pos} {ke ve tg it : Expr} {cond : List Expr} {sc : Scope}
    {own : List (Str × Nat)} {p1 p3 : Pos} {wi : TI} {g : TG} {tt : TT} {tk tv : TE}
    (calm : X.calm = true) (nd : X.N.Nodup) (slot : X.N[i]? = some y) (loc : X.env.scope.names.lookup y = some .local)
    (sw : swapsWith (.DictComp ke ve [⟨tg, it, cond, 0⟩] sc p1) (some (.Name y p2)) p3.line X.env = pure true)
    (walk : PI X tg it wi) (blk : BlkOk X.N X.env.scope sc own)
    (pg : ∀ s H C cl fp, PG (X.blk s H sc (compEnvC sc cl C X.env) fp) tg g)
    (pt : ∀ s H C cl fp, PTs (X.blk s H sc (compEnvC sc cl C X.env) fp) cond tt)
    (pk : ∀ s H C cl fp, PE (X.blk s H sc (compEnvC sc cl C X.env) fp) ke tk)
    (pv : ∀ s H C cl fp, PE (X.blk s H sc (compEnvC sc cl C X.env) fp) ve tv)
    (fold : ∀ x, foldedSetIterable it X.env x = pure x := by intro _; rfl) :
    PS X (.Assign [.Name y p2] (.DictComp ke ve [⟨tg, it, cond, 0⟩] sc p1) p3) (tAsg (tDc wi g tt tk tv (own.map (·.2))) (gName i)) := by
  constructor
  intro pins s σ H Ds I read
  rw [exec_Assign_Name_used _ _ _ _ sw]
  apply wpAny_bind
  apply wpAny_standAt
  apply wpAny_bind
  have read : tDc wi g tt tk tv (own.map (·.2)) σ H (fun x H1 => gName i x σ H1 Ds.nx) := read
  refine wpAny_bind (thn (dc_core (use := some (assign (.Name y p2) X.env)) (Qf := fun _ s' => SP X pins Ds .next s') calm nd I walk blk pg pt pk pv fold read fun L C s' m H' J hq hn fp => ?_) fun _ s' last => wpAny_pure (wpAny_pure last))
  show wpAny _ _ (assign (.Name y p2) X.env (.ref L)) _ _ _
  apply wpAny_assign_Name
  refine store_ok2 (v := V.ref L) J nd slot (.inl loc) rfl (fun s2 J2 ⟨b, but, which⟩ => ?_) (.inr loc)
  obtain ⟨f0, f1, f2, f3, f4, f5⟩ := fp
  have apart : C ≠ b := by
    cases which with
    | inl w => exact w ▸ f1
    | inr w => exact fun same => f4 y b w same.symm
  refine ⟨m, hn.sameBut but apart, fun h3 but3 => ⟨_, H', ?_, hq⟩⟩
  exact J2.turned (t' := s2.toks) (fun c o hc e => (but3.2 c hc).trans e) f0 f1 f3 f4 f5
end
end Lo
namespace Lo
open PySem L2
/-- the greatest value, as a number -/
noncomputable def Wt (rows : List SRow) (a b : Str) : Int := (D rows a b).getD 0
theorem Wt_of {rows : List SRow} {a b : Str} {k : Int} (h : D rows a b = some k) : Wt rows a b = k := by
  unfold Wt
  rw [h]
  rfl
noncomputable def cB (rows : List SRow) (hs : List Str) (a b : Str) : Bool := @decide (a ≠ b ∧ D rows a b ≠ none ∧ ∀ m ∈ hs, m ≠ a → m ≠ b → ¬ Tight rows a m b) (Classical.propDecidable _)
theorem cB_iff {rows : List SRow} {hs : List Str} {a b : Str} : cB rows hs a b = true ↔ a ≠ b ∧ D rows a b ≠ none ∧ ∀ m ∈ hs, m ≠ a → m ≠ b → ¬ Tight rows a m b := by
  unfold cB
  exact @decide_eq_true_iff _ (Classical.propDecidable _)
theorem cB_no {rows : List SRow} {hs : List Str} {a b : Str} (h : ¬ (a ≠ b ∧ D rows a b ≠ none ∧ ∀ m ∈ hs, m ≠ a → m ≠ b → ¬ Tight rows a m b)) : cB rows hs a b = false := by
  cases e : cB rows hs a b with
  | false => rfl
  | true => exact absurd (cB_iff.mp e) h
theorem tests_ok {rows : List SRow} {v : Str → Int} (hv : Sat rows v) (hs : List Str) : Tests rows hs (eqB rows) (Wt rows) (cB rows hs) := ⟨fun a b => eqB_iff, fun a b k h => Wt_of h, fun a b _ _ => cB_iff⟩
theorem fmod_next (j n : Nat) (h : 0 < n) : (((j : Nat) : Int) + 1).fmod ((n : Nat) : Int) = (((j + 1) % n : Nat) : Int) := by
  rw [Int.fmod_eq_emod_of_nonneg _ (Int.natCast_nonneg n)]
  exact_mod_cast rfl
theorem put_true_const (x : Str) : put (fun _ : Str => V.bl true) x (.bl true) = fun _ => V.bl true := by
  funext z
  unfold put
  split <;> rfl
/-- one more row, appended -/
theorem sys_push {H : Hp} {fa t : Addr} {ps : List Addr} {E : List SRow} {r : SRow} (h1 : H fa = some (.lst (ps.map V.ref))) (h2 : ps.length = E.length) (h3 : ∀ (i : Nat) (p : Addr) (r : SRow), ps[i]? = some p → E[i]? = some r → RowT H p r) (ht : H t = some (.tup (rowV r))) :
    Sys RowT (upd H fa (.lst (ps.map V.ref ++ [.ref t]))) fa (E ++ [r]) := by
  have keep : ∀ (p : Addr) (xs : List V), H p = some (.tup xs) → upd H fa (.lst (ps.map V.ref ++ [.ref t])) p = some (.tup xs) := fun p xs e => by
    rw [upd_ne (ne_of e h1 (by intro z; cases z))]
    exact e
  refine ⟨ps ++ [t], by rw [upd_same, List.map_append]; rfl, by rw [List.length_append, List.length_append, h2]; rfl, fun j p q hp hq => ?_⟩
  by_cases k : j < ps.length
  · rw [List.getElem?_append_left k] at hp
    rw [List.getElem?_append_left (by omega)] at hq
    exact keep p _ (h3 j p q hp hq)
  · have hj := (List.getElem?_eq_some_iff.mp hp).1
    rw [List.length_append, List.length_singleton] at hj
    have ej : j = ps.length := by omega
    subst ej
    rw [List.getElem?_append_right (Nat.le_refl _), Nat.sub_self] at hp
    rw [List.getElem?_append_right (by omega), h2, Nat.sub_self] at hq
    obtain rfl : t = p := Option.some.inj hp
    obtain rfl : r = q := Option.some.inj hq
    exact keep t _ ht
section
variable {P : Program} {w : World} {K : PySem.W.Frag} {mg : Str → Option Value} {base : Heap}
/-! ### fewest_of -/
def spFewestOf : Sp := fun vs H Q _ => ∃ (t : Addr) (rows : List SRow) (v : Str → Int) (ns : List Str) (ra : Str → Addr) (rk : Str → List Str) (rv : Str → Str → Int), vs = [.ref t] ∧ TabOf H t rows ns ra rk rv ∧ Sat rows v ∧ ns.length ≤ 20 ∧
  ∀ (H' : Hp) (p : Addr) (ms : List Str), Same H H' → H p = none → ms.Nodup → (∀ x, x ∈ ms ↔ x ∈ ns) → Sys RowT H' p (edgesE (eqB rows) (Wt rows) (cB rows (headsOf (eqB rows) ms)) (headsOf (eqB rows) ms) ms) → Q (.ref p) H'
abbrev nFewestOf : List Str := ["table", "groups", "found", "members", "at", "left", "right", "leaders"]
theorem scFewestOf : FnScope nFewestOf ["table"] (defScope sFewestOf) := ⟨rfl, rfl, rfl, by decide +kernel, rfl, by decide +kernel, by decide +kernel⟩
theorem ok_fewestof {f fG fO : Addr} {fd fdG fdO : FuncData} (F : Fun K "fewest_of" "fewest_of" sFewestOf f fd) (T : Blt mg)
    (GG : FnOk P w K mg base CX0 2 fG fdG ["table"] spGroups) (kG : PySem.W.keepIn K (.ref fG) = true) (bG : Binds K fdG ["table"] []) (gG : mg "_groups" = some (.ref fG))
    (GO : FnOk P w K mg base CX0 1 fO fdO ["table", "left", "right", "leaders"] spFollows) (kO : PySem.W.keepIn K (.ref fO) = true) (bO : Binds K fdO ["table", "left", "right", "leaders"] []) (gO : mg "_follows" = some (.ref fO)) :
    FnOk P w K mg base CX0 3 f fd ["table"] spFewestOf := by
  refine F.ok scFewestOf (fun vs H Q E h => ?_) (fun cdv A outer s H vs Q E hr h => ?_)
  · obtain ⟨t, rows, v, ns, ra, rk, rv, rfl, _⟩ := h
    rfl
  · obtain ⟨t, rows, v, ns, ra, rk, rv, rfl, TO, hv, few, q⟩ := h
    have nd := scFewestOf.nd
    have hu := hu_of hr
    have eq := eqB_eqq hv
    refine ⟨_, pss_cons (ps_set (i := 1) nd rfl (.inl rfl) (pe_call GG hr (by rfl) gG kG bG .nil pass0 (pa_cons (pv 0) pa_nil)))
      (pss_cons (ps_set (i := 2) nd rfl (.inl rfl) (pe_lst pa_nil))
      (C8.pss_cut (ps_for PassesOwn.never rfl (pi_list (pv 1)) (pg_name (i := 3) nd rfl (.inl rfl))
        (pss_one (ps_if (pt_cmpR op_gt (pe_callB call_len_seq (by rfl) T.len PySem.boot_len (pa_cons (pv 3) pa_nil)) pe_int (nomark _))
          (pss_one (ps_for PassesOwn.never rfl (pi_enum (by rfl) T.enum (pa_cons (pv 3) pa_nil)) (pg_tup rfl (pgs_cons (pg_name (i := 4) nd rfl (.inl rfl)) (pgs_cons (pg_name (i := 5) nd rfl (.inl rfl)) pgs_nil)))
            (pss_cons (ps_set (i := 6) nd rfl (.inl rfl) (pe_ix ix_list (pv 3) (pe_op op_modN (pe_op op_add (pv 4) pe_int) (pe_callB call_len_seq (by rfl) T.len PySem.boot_len (pa_cons (pv 3) pa_nil))) (fun _ _ => rfl)))
            (pss_one (ps_expr (pe_bm PySem.F.plainAttrs_list PySem.F.slot_list_append PySem.F.type_list_append mt_append (pv 2) (pa_cons (pe_tup (pa_cons (pv 5) (pa_cons (pv 6) (pa_cons (pe_dget hu (pe_dget hu (pv 0) (pv 5) (fun _ _ => rfl)) (pv 6) (fun _ _ => rfl)) pa_nil)))) pa_nil))))))) pss_nil)))
      (pss_cons (ps_setDc (i := 7) (own := [("members", 3)]) (g := gName 3) (tt := tYes) rfl nd rfl rfl (sw_dict rfl rfl rfl (by decide +kernel)) (pi_list (pv 1)) (blkOk_by (N := nFewestOf) (sc := defScope sFewestOf) (by decide +kernel))
          (fun _ _ _ _ _ => pg_name (i := 3) nd rfl (.inl rfl)) (fun _ _ _ _ _ => pts_nil) (fun _ _ _ _ _ => pe_ix (r := rIxL K) ix_list (pv 3) pe_int (fun _ _ => rfl)) (fun _ _ _ _ _ => pe_bl))
      (pss_cons (ps_lock (ps_for PassesOwn.never rfl (pi_keys (pv 7)) (pg_name (i := 5) nd rfl (.inl rfl))
        (pss_one (ps_for PassesOwn.never rfl (pi_keys (pv 7)) (pg_name (i := 6) nd rfl (.inl rfl))
          (pss_one (ps_if (PW.pt (pw_and (pt_cmpR op_ne (pv 5) (pv 6) (nomark _)) (pw_and (pt_cmp (pc_din hu (pv 6) (pe_dget hu (pv 0) (pv 5) (fun _ _ => rfl)))) (pw_and1 (pt_not (pt_val (pe_call GO (hr.mono (by decide)) (by rfl) gO kO bO .nil pass0 (pa_cons (pv 0) (pa_cons (pv 5) (pa_cons (pv 6) (pa_cons (pv 7) pa_nil)))))))))))
            (pss_one (ps_expr (pe_bm PySem.F.plainAttrs_list PySem.F.slot_list_append PySem.F.type_list_append mt_append (pv 2) (pa_cons (pe_tup (pa_cons (pv 5) (pa_cons (pv 6) (pa_cons (pe_dget hu (pe_dget hu (pv 0) (pv 5) (fun _ _ => rfl)) (pv 6) (fun _ _ => rfl)) pa_nil)))) pa_nil)))) pss_nil))))))
      (pss_one (ps_ret (pv 2))))))), ?_⟩
    refine ⟨.ref t, rfl, t, rows, v, ns, ra, rk, rv, rfl, TO, hv, by omega, fun H1 gl ms ga s1 mnd mem hgl hga => ?_⟩
    have T1 := TO.same s1
    have Hh := heads_ok eq ms
    generalize eh : headsOf (eqB rows) ms = hs at *
    have hsn : ∀ h ∈ hs, h ∈ ns := fun h m => (mem h).mp (Hh.sub h m)
    have mlen : ms.length ≤ 20 := Nat.le_trans (nodup_le ms ns mnd fun x hx => (mem x).mp hx) few
    have hlen : hs.length ≤ 20 := Nat.le_trans (nodup_le hs ms (Hh.nodup eq) Hh.sub) mlen
    have flen : ∀ h, (ms.filter (eqB rows h)).length ≤ 20 := fun h => Nat.le_trans (List.length_filter_le _ _) mlen
    refine ⟨Nat.zero_le _, fun fa nfa => ?_⟩
    have s2 := same_upd (o := HO.lst []) nfa
    have ffa : H fa = none := s1.free nfa
    -- the rings
    let E1 : Nat → List SRow := fun i => (hs.take i).flatMap fun h => ringE (Wt rows) (ms.filter (eqB rows h))
    have E1len : ∀ i, (E1 i).length ≤ 400 := fun i => by
      show ((hs.take i).flatMap fun h => ringE (Wt rows) (ms.filter (eqB rows h))).length ≤ 400
      have : ∀ l : List Str, (l.flatMap fun h => ringE (Wt rows) (ms.filter (eqB rows h))).length ≤ 20 * l.length := by
        intro l
        induction l with
        | nil => exact Nat.zero_le _
        | cons h l ih =>
          rw [List.flatMap_cons, List.length_append, List.length_cons, ringE_len]
          have := flen h
          split <;> omega
      have h1 := this (hs.take i)
      rw [List.length_take] at h1
      omega
    refine ⟨fun σ' H' => ∃ (y3 y4 y5 y6 : Option V), σ' = [some (.ref t), some (.ref gl), some (.ref fa), y3, y4, y5, y6, none] ∧ Same H1 H' ∧ Sys RowT H' fa (E1 hs.length), ?_, ?_⟩
    · refine ⟨.ref gl, rfl, gl, rfl, ⟨_, SqL.of (s2 _ _ hgl)⟩, for_list (K := K) (a := gl) (xs := hs.map fun h => V.ref (ga h)) (fun i σ H' => ∃ (y3 y4 y5 y6 : Option V), σ = [some (.ref t), some (.ref gl), some (.ref fa), y3, y4, y5, y6, none] ∧ Same H1 H' ∧ Sys RowT H' fa (E1 i))
        ⟨_, _, _, _, rfl, s2, [], upd_same, rfl, fun i p r h => (nomatch h)⟩ (fun i σ H' _ ⟨_, _, _, _, _, e, _⟩ => SqL.of (e _ _ hgl)) ?_ (fun σ H' h => by
          rw [List.length_map] at h
          exact h)⟩
      rintro i z σ H3 hi ⟨y3, y4, y5, y6, rfl, s3, S3⟩
      have hi1 : i < hs.length := by
        have := (List.getElem?_eq_some_iff.mp hi).1
        rw [List.length_map] at this
        exact this
      obtain rfl : z = .ref (ga hs[i]) := by
        rw [List.getElem?_map, List.getElem?_eq_getElem hi1] at hi
        exact (Option.some.inj hi).symm
      have hm := List.getElem_mem hi1
      have eE : E1 (i + 1) = E1 i ++ ringE (Wt rows) (ms.filter (eqB rows hs[i])) := by
        show (hs.take (i + 1)).flatMap _ = _
        rw [List.take_add_one, List.getElem?_eq_getElem hi1]
        show (hs.take i ++ [hs[i]]).flatMap _ = _
        rw [List.flatMap_append, List.flatMap_cons, List.flatMap_nil, List.append_nil]
      have hG1 := hga _ hm
      have hG3 := s3 _ _ hG1
      have fl := flen hs[i]
      have el := E1len i
      rw [eE]
      have memF : ∀ x ∈ ms.filter (eqB rows hs[i]), x ∈ ns ∧ eqB rows hs[i] x = true := fun x hx => ⟨(mem x).mp (List.mem_filter.mp hx).1, (List.mem_filter.mp hx).2⟩
      have eRing : ringE (Wt rows) (ms.filter (eqB rows hs[i])) = if 1 < (ms.filter (eqB rows hs[i])).length then ((ms.filter (eqB rows hs[i])).zip (rot (ms.filter (eqB rows hs[i])))).map fun p => (p.1, p.2, Wt rows p.1 p.2) else [] := rfl
      rw [eRing]
      generalize ms.filter (eqB rows hs[i]) = gs at *
      generalize E1 i = Ei at *
      refine ⟨.ref (ga hs[i]), rfl, ga hs[i], _, rfl, .inl (SqL.of hG3), _, _, rfl, rfl, _, rfl, ?_⟩
      by_cases two : 1 < gs.length
      · rw [decide_eq_true (show (1 : Int) < (((gs.map V.str).length : Nat) : Int) by rw [List.length_map]; omega), if_pos two]
        refine iteT ?_
        refine ⟨.ref (ga hs[i]), rfl, ga hs[i], gs.map V.str, rfl, SqL.of hG3, for_it walk_enum (fun j σ H' => ∃ (y4 y5 y6 : Option V), σ = [some (.ref t), some (.ref gl), some (.ref fa), some (.ref (ga hs[i])), y4, y5, y6, none] ∧ Same H1 H' ∧ Sys RowT H' fa (Ei ++ ((gs.zip (rot gs)).map fun p => (p.1, p.2, Wt rows p.1 p.2)).take j))
          ⟨_, _, _, rfl, s3, by rw [List.take_zero, List.append_nil]; exact S3⟩ (fun j σ H' _ ⟨_, _, _, _, e, _⟩ => SqL.of (e _ _ hG1)) ?_ (fun σ H' h => ?_)⟩
        · rintro j w σ H4 H5 hj ⟨y4, y5, y6, rfl, s4, ps, p1, p2, p3⟩ ⟨tp, x1, x2, rfl, ntp, rfl, e1, e2⟩
          have hj' : j < gs.length := by
            rw [List.length_map] at hj
            exact hj
          dsimp only at e1 e2
          obtain rfl := Option.some.inj e1
          rw [List.getElem?_map, List.getElem?_eq_getElem hj'] at e2
          obtain rfl := Option.some.inj e2
          have sT := same_upd (o := HO.tup [V.int ((j : Nat) : Int), V.str gs[j]]) ntp
          have s5 := s4.trans sT
          have hk : (j + 1) % gs.length < gs.length := Nat.mod_lt _ (by omega)
          have hG5 := s5 _ _ hG1
          refine ⟨tp, _, rfl, SqT.of upd_same, rfl, _, _, rfl, _, _, rfl, rfl, ?_⟩
          have hp1 := sT _ _ p1
          have hp3 : ∀ (i : Nat) (p : Addr) (r : SRow), ps[i]? = some p → _ := fun i p r a b => (p3 i p r a b).same sT
          generalize upd H4 tp (.tup [V.int ((j : Nat) : Int), V.str gs[j]]) = H5 at s5 hG5 hp1 hp3 ⊢
          refine ⟨.ref (ga hs[i]), rfl, .int ((j : Nat) : Int), rfl, _, _, rfl, rfl, .ref (ga hs[i]), rfl, ga hs[i], _, rfl, .inl (SqL.of hG5), _, _, rfl, rfl, by rw [List.length_map]; omega, ?_⟩
          refine ⟨ga hs[i], _, (((j + 1) % gs.length : Nat) : Int), .str gs[(j + 1) % gs.length], rfl, congrArg V.int (by rw [List.length_map]; exact fmod_next j gs.length (by omega)), SqL.of hG5, atI_nat (by rw [List.getElem?_map, List.getElem?_eq_getElem hk]; rfl), ?_⟩
          have er : (rot gs)[j]'(by rw [rot_len]; exact hj') = gs[(j + 1) % gs.length] := by
            have := rot_get gs j hj'
            rw [List.getElem?_eq_getElem hk, List.getElem?_eq_getElem (by rw [rot_len]; exact hj')] at this
            exact Option.some.inj this
          have ez : ((gs.zip (rot gs)).map fun p => (p.1, p.2, Wt rows p.1 p.2)).take (j + 1) = ((gs.zip (rot gs)).map fun p => (p.1, p.2, Wt rows p.1 p.2)).take j ++ [(gs[j], gs[(j + 1) % gs.length], Wt rows gs[j] gs[(j + 1) % gs.length])] := by
            rw [List.take_add_one, List.getElem?_map, List.getElem?_eq_getElem (by rw [List.length_zip, rot_len, Nat.min_self]; exact hj'), List.getElem_zip, er]
            rfl
          have zlen : (((gs.zip (rot gs)).map fun p => (p.1, p.2, Wt rows p.1 p.2)).take j).length ≤ 20 := by
            rw [List.length_take, List.length_map, List.length_zip, rot_len, Nat.min_self]
            omega
          rw [ez, ← List.append_assoc]
          obtain ⟨xn, xe⟩ := memF _ (List.getElem_mem hj')
          obtain ⟨yn, ye⟩ := memF _ (List.getElem_mem hk)
          generalize gs[j] = x at *
          generalize gs[(j + 1) % gs.length] = y at *
          generalize ((gs.zip (rot gs)).map fun p => (p.1, p.2, Wt rows p.1 p.2)).take j = Ej at *
          have tied : Eqv rows x y := eqB_iff.mp (eq.trans _ _ _ (eq.symm _ _ xe) ye)
          have T5 := T1.same s5
          have ry : y ∈ rk x := Classical.byContradiction fun n => by
            obtain ⟨k, k1, _⟩ := tied
            rw [T1.out xn n] at k1
            cases k1
          have wv : Wt rows x y = rv x y := Wt_of (T1.val xn ry)
          refine ⟨.ref fa, rfl, .inl ⟨rfl, _, SqL.of hp1⟩, .str x, rfl, .str y, rfl, .ref t, rfl, .str x, rfl, t, _, rfl, dget T5.G.dict xn, .str y, rfl, ra x, _, rfl, dget (T5.G.row x xn) ry, by show 3 ≤ sizeLine; decide, fun tq ntq => ?_⟩
          have sQ := same_upd (o := HO.tup [V.str x, V.str y, V.int (rv x y)]) ntq
          have hp1' := sQ _ _ hp1
          have nf1 : H1 fa = none := nfa
          refine ⟨fa, _, _, rfl, rfl, hp1', ?_, ?_⟩
          · rw [List.length_map, p2, List.length_append]
            exact small1000 (by omega)
          · refine ⟨_, _, _, rfl, (s5.trans sQ).later nf1, ?_⟩
            rw [wv]
            exact sys_push hp1' p2 (fun i p r a b => (hp3 i p r a b).same sQ) upd_same
        · obtain ⟨y4, y5, y6, rfl, s4, S4⟩ := h
          refine ⟨_, _, _, _, rfl, s4, ?_⟩
          rw [List.take_of_length_le (by rw [List.length_map, List.length_map, List.length_zip, rot_len, Nat.min_self]; exact Nat.le_refl _)] at S4
          exact S4
      · rw [decide_eq_false (show ¬ (1 : Int) < (((gs.map V.str).length : Nat) : Int) by rw [List.length_map]; omega), if_neg two, List.append_nil]
        exact iteF ⟨_, _, _, _, rfl, s3, S3⟩
    rintro σ3 H3 ⟨y3, y4, y5, y6, rfl, s3, S3⟩
    have EAlen := E1len hs.length
    have eEA : E1 hs.length = hs.flatMap fun h => ringE (Wt rows) (ms.filter (eqB rows h)) := by
      show (hs.take hs.length).flatMap _ = _
      rw [List.take_length]
    rw [eEA] at S3 EAlen
    generalize eA : (hs.flatMap fun h => ringE (Wt rows) (ms.filter (eqB rows h))) = EA at S3 EAlen
    have hgl3 := s3 _ _ hgl
    have hga3 : ∀ h ∈ hs, H3 (ga h) = some (.lst ((ms.filter (eqB rows h)).map V.str)) := fun h m => s3 _ _ (hga h m)
    have hnd := Hh.nodup eq
    -- the leaders
    refine ⟨.ref gl, rfl, gl, rfl, ⟨_, SqL.of hgl3⟩, fun ld nD => ?_⟩
    refine ⟨fun i m H' => m = hs.length - i ∧ i ≤ hs.length ∧ Same H3 H' ∧ H' ld = some (.dK (dS (hs.take i) fun _ => .bl true)), ⟨_, rfl, Nat.zero_le _, same_upd nD, upd_same⟩, ?_⟩
    rintro i m H4 ⟨rfl, hi, s4, hD⟩
    have hl4 := s4 _ _ hgl3
    by_cases hlt : i < hs.length
    · have hx : (hs.map fun h => V.ref (ga h))[i]? = some (.ref (ga hs[i])) := by
        rw [List.getElem?_map, List.getElem?_eq_getElem hlt]
        rfl
      refine .inr ⟨⟨_, _, SqL.of hl4, hx⟩, fun H' => i + 1 ≤ hs.length ∧ Same H3 H' ∧ H' ld = some (.dK (dS (hs.take (i + 1)) fun _ => .bl true)), fun H' hN => ⟨hs.length - (i + 1), by omega, rfl, hN⟩, fun x H' hy => ?_⟩
      obtain ⟨rfl, hy⟩ := hy
      have ex : x = .ref (ga hs[i]) := Option.some.inj ((hy _ (SqL.of hl4)).symm.trans hx)
      subst ex
      refine ⟨rfl, ?_⟩
      unfold tYes
      refine iteT ?_
      obtain ⟨rest, first⟩ := Hh.first hs[i] (List.getElem_mem hlt)
      have hG := s4 _ _ (hga3 _ (List.getElem_mem hlt))
      rw [first] at hG
      have hout : hs[i] ∉ hs.take i := fun m => by
        have h1 := hnd
        rw [← List.take_append_drop i hs] at h1
        exact (List.nodup_append.mp h1).2.2 _ m _ (by rw [List.drop_eq_getElem_cons hlt]; exact List.mem_cons_self) rfl
      have e1 : addN (hs.take i) hs[i] = hs.take (i + 1) := by
        unfold addN
        rw [if_neg hout, List.take_add_one, List.getElem?_eq_getElem hlt]
        rfl
      refine ⟨.ref (ga hs[i]), rfl, ga hs[i], _, 0, .str hs[i], rfl, rfl, SqL.of hG, atI_nat (j := 0) rfl, ?_⟩
      refine ⟨_, Sum.inr hs[i], rfl, hD, ?_, hlt, s4.later nD, ?_⟩
      · rw [dS_len, List.length_take]
        exact small1000 (by omega)
      · rw [upd_same, dS_put, put_true_const, e1]
    refine .inl ⟨⟨_, SqL.of hl4, by rw [List.length_map]; omega⟩, ?_⟩
    have ei : i = hs.length := by omega
    subst ei
    rw [List.take_length] at hD
    -- between the groups
    have T3 := T1.same s3
    have nDt : t ≠ ld := fun e => by
      rw [← e, T3.G.dict] at nD
      cases nD
    have nDf : fa ≠ ld := fun e => by
      obtain ⟨ps, p1, _⟩ := S3
      rw [← e, p1] at nD
      cases nD
    have nDr : ∀ x ∈ ns, ra x ≠ ld := fun x hx e => by
      have := T3.G.row x hx
      rw [e, nD] at this
      cases this
    have TX : ∀ {H' : Hp}, SameX ld H1 H' → TabOf H' t rows ns ra rk rv := fun sx => ⟨⟨sx _ _ nDt T1.G.dict, T1.G.nd, fun x hx => sx _ _ (nDr x hx) (T1.G.row x hx), T1.G.off, T1.G.rnd⟩, T1.T, T1.names⟩
    let E2 : Nat → List SRow := fun i => (hs.take i).flatMap fun a => (hs.filter (cB rows hs a)).map fun b => (a, b, Wt rows a b)
    have E2len : ∀ i, (E2 i).length ≤ 400 := fun i => by
      have : ∀ l : List Str, (l.flatMap fun a => (hs.filter (cB rows hs a)).map fun b => (a, b, Wt rows a b)).length ≤ 20 * l.length := by
        intro l
        induction l with
        | nil => exact Nat.zero_le _
        | cons a l ih =>
          rw [List.flatMap_cons, List.length_append, List.length_cons, List.length_map]
          have := List.length_filter_le (cB rows hs a) hs
          omega
      have h1 := this (hs.take i)
      rw [List.length_take] at h1
      show ((hs.take i).flatMap fun a => (hs.filter (cB rows hs a)).map fun b => (a, b, Wt rows a b)).length ≤ 400
      omega
    refine ⟨ld, _, hD, trivial, fun od => ?_⟩
    refine ⟨.ref ld, rfl, ld, od, rfl, .inl ⟨_, upd_same, for_it walk_keys (fun i σ H' => ∃ (y5 y6 : Option V), σ = [some (.ref t), some (.ref gl), some (.ref fa), y3, y4, y5, y6, some (.ref ld)] ∧ SameX ld H1 H' ∧ H' ld = some (.frz od (.dK (dS hs fun _ => .bl true))) ∧ Sys RowT H' fa (EA ++ E2 i))
      ⟨_, _, rfl, fun b o hb e => by rw [upd_ne hb]; exact s4 _ _ (s3 _ _ e), upd_same, ?_⟩ (fun i σ H' _ ⟨_, _, _, _, e, _⟩ => e) ?_ ?_⟩⟩
    · show Sys RowT _ fa (EA ++ [])
      rw [List.append_nil]
      obtain ⟨ps, p1, p2, p3⟩ := S3.sameT s4
      refine ⟨ps, by rw [upd_ne nDf]; exact p1, p2, fun j p r hp hr' => ?_⟩
      have z : H4 p = some (.tup (rowV r)) := p3 j p r hp hr'
      show upd H4 ld _ p = _
      rw [upd_ne (ne_of z hD (by intro w; cases w))]
      exact z
    · rintro i z σ H5 H6 hi5 ⟨y5, y6, rfl, s5, hd5, S5⟩ ⟨rfl, k, v', hkk, rfl⟩
      have hi' : i < hs.length := by
        rw [dS_len] at hi5
        exact hi5
      rw [dS_at hi'] at hkk
      obtain rfl : (Sum.inr hs[i] : Key) = k := congrArg Prod.fst (Option.some.inj hkk)
      have ha := List.getElem_mem hi'
      have eE2 : E2 (i + 1) = E2 i ++ (hs.filter (cB rows hs hs[i])).map fun b => (hs[i], b, Wt rows hs[i] b) := by
        show (hs.take (i + 1)).flatMap _ = _
        rw [List.take_add_one, List.getElem?_eq_getElem hi']
        show (hs.take i ++ [hs[i]]).flatMap _ = _
        rw [List.flatMap_append, List.flatMap_cons, List.flatMap_nil, List.append_nil]
      rw [eE2]
      have l2 := E2len i
      generalize E2 i = Ei at *
      generalize hs[i] = a at *
      have an := hsn a ha
      refine ⟨.ref ld, rfl, ld, od, rfl, .inl ⟨_, hd5, for_it walk_keys (fun j σ H' => ∃ (y6 : Option V), σ = [some (.ref t), some (.ref gl), some (.ref fa), y3, y4, some (.str a), y6, some (.ref ld)] ∧ SameX ld H1 H' ∧ H' ld = some (.frz od (.dK (dS hs fun _ => .bl true))) ∧ Sys RowT H' fa (EA ++ (Ei ++ ((hs.take j).filter (cB rows hs a)).map fun b => (a, b, Wt rows a b))))
        ⟨_, rfl, s5, hd5, by rw [List.take_zero]; show Sys RowT _ fa (EA ++ (Ei ++ [])); rw [List.append_nil]; exact S5⟩ (fun j σ H' _ ⟨_, _, _, e, _⟩ => e) ?_ ?_⟩⟩
      · rintro j z σ H7 H8 hj ⟨y6, rfl, s7, hd7, S7⟩ ⟨rfl, k, v', hkk, rfl⟩
        have hj' : j < hs.length := by
          rw [dS_len] at hj
          exact hj
        rw [dS_at hj'] at hkk
        obtain rfl : (Sum.inr hs[j] : Key) = k := congrArg Prod.fst (Option.some.inj hkk)
        have hb := List.getElem_mem hj'
        have etake : hs.take (j + 1) = hs.take j ++ [hs[j]] := by rw [List.take_add_one, List.getElem?_eq_getElem hj']; rfl
        have flen := List.length_filter_le (cB rows hs a) (hs.take j)
        rw [List.length_take] at flen
        rw [etake, List.filter_append, List.map_append]
        generalize hs[j] = b at *
        generalize (hs.take j).filter (cB rows hs a) = Fj at *
        have T7 := TX s7
        -- none is made
        have no : cB rows hs a b = false → ∀ (z6 : Option V) (H9 : Hp), Same H8 H9 → ∃ (y6 : Option V), [some (V.ref t), some (.ref gl), some (.ref fa), y3, y4, some (.str a), z6, some (.ref ld)] = [some (V.ref t), some (.ref gl), some (.ref fa), y3, y4, some (.str a), y6, some (.ref ld)] ∧ SameX ld H1 H9 ∧
            H9 ld = some (.frz od (.dK (dS hs fun _ => .bl true))) ∧ Sys RowT H9 fa (EA ++ (Ei ++ (Fj.map (fun b => (a, b, Wt rows a b)) ++ ([b].filter (cB rows hs a)).map fun b => (a, b, Wt rows a b)))) := fun hc z6 H9 s9 => by
          have e0 : [b].filter (cB rows hs a) = [] := by
            rw [List.filter_cons, hc]
            rfl
          rw [e0]
          refine ⟨z6, rfl, s7.trans (same_x s9), s9 _ _ hd7, ?_⟩
          show Sys RowT H9 fa (EA ++ (Ei ++ (Fj.map (fun b => (a, b, Wt rows a b)) ++ [])))
          rw [List.append_nil]
          exact S7.sameT s9
        refine ⟨.str a, rfl, .str b, rfl, rfl, _, rfl, ?_⟩
        rw [ne_dec]
        refine ite2 (fun c1 => ?_) (fun c1 => ?_)
        · have c1 : a ≠ b := of_decide_eq_true c1
          by_cases c2 : b ∈ rk a
          · refine ⟨.str b, rfl, .ref t, rfl, .str a, rfl, t, _, rfl, dget T7.G.dict an, ra a, _, rfl, dget (T7.G.row a an) c2, _, rfl, iteT ?_⟩
            refine ⟨.ref t, rfl, .str a, rfl, .str b, rfl, .ref ld, rfl, t, ld, a, b, hs, rows, v, ns, ra, rk, rv, rfl, T7, hv, an, c2, by omega, .inr ⟨od, hd7⟩, nDr, hsn, fun H9 bb s9 hbb => ?_⟩
            have has : D rows a b ≠ none := by
              rw [T7.val an c2]
              exact fun z => nomatch z
            refine ⟨bb, rfl, ?_⟩
            cases bb with
            | true =>
              obtain ⟨m, m1, m2, m3, m4⟩ := hbb.mp rfl
              exact iteF (no (cB_no fun h => h.2.2 m m1 m2 m3 m4) _ _ s9)
            | false =>
              have hc : cB rows hs a b = true := cB_iff.mpr ⟨c1, has, fun m m1 m2 m3 m4 => nomatch hbb.mpr ⟨m, m1, m2, m3, m4⟩⟩
              have T9 := T7.same s9
              obtain ⟨ps, p1, p2, p3⟩ := S7.sameT s9
              have wv : Wt rows a b = rv a b := Wt_of (T7.val an c2)
              refine iteT ⟨.ref fa, rfl, .inl ⟨rfl, _, SqL.of p1⟩, .str a, rfl, .str b, rfl, .ref t, rfl, .str a, rfl, t, _, rfl, dget T9.G.dict an, .str b, rfl, ra a, _, rfl, dget (T9.G.row a an) c2, by show 3 ≤ sizeLine; decide, fun tq ntq => ?_⟩
              have sQ := same_upd (o := HO.tup [V.str a, V.str b, V.int (rv a b)]) ntq
              have p1' := sQ _ _ p1
              refine ⟨fa, _, _, rfl, rfl, p1', ?_, ?_⟩
              · rw [List.length_map, p2, List.length_append, List.length_append, List.length_map]
                exact small1000 (by omega)
              · have push := sys_push (r := (a, b, Wt rows a b)) p1' p2 (fun i p r x y => (p3 i p r x y).same sQ) (by rw [upd_same, wv]; rfl)
                rw [filter_one hc]
                have ea : EA ++ (Ei ++ (Fj.map (fun b => (a, b, Wt rows a b)) ++ [b].map fun b => (a, b, Wt rows a b))) = EA ++ (Ei ++ Fj.map fun b => (a, b, Wt rows a b)) ++ [(a, b, Wt rows a b)] := by
                  simp only [List.append_assoc, List.map_cons, List.map_nil]
                rw [ea]
                refine ⟨_, rfl, fun p o hp e => ?_, ?_, push⟩
                · rw [upd_ne (ne_of_none e nfa)]
                  exact sQ _ _ (s9 _ _ (s7 p o hp e))
                · rw [upd_ne nDf.symm]
                  exact sQ _ _ (s9 _ _ hd7)
          · refine ⟨.str b, rfl, .ref t, rfl, .str a, rfl, t, _, rfl, dget T7.G.dict an, ra a, _, rfl, dget0 (T7.G.row a an) c2, _, rfl, iteF (no (cB_no fun h => h.2.1 (T7.out an c2)) _ _ (Same.refl _))⟩
        · have c1 : a = b := Classical.byContradiction fun n => c1 (decide_eq_true n)
          exact iteF (no (cB_no fun h => h.1 c1) _ _ (Same.refl _))
      · rintro σ H7 ⟨y6, rfl, s7, hd7, S7⟩
        rw [dS_len, List.take_length] at S7
        exact ⟨_, _, rfl, s7, hd7, S7⟩
    · rintro σ H5 ⟨y5, y6, rfl, s5, hd5, S5⟩
      refine ⟨hd5, ?_⟩
      rw [dS_len] at S5
      have eF : E2 hs.length = leadE (Wt rows) (cB rows hs) hs := by
        show (hs.take hs.length).flatMap _ = _
        rw [List.take_length]
        rfl
      rw [eF] at S5
      have s6 : Same H1 (upd H5 ld (.dK (dS hs fun _ => .bl true))) := fun b o e => by
        have nb : b ≠ ld := ne_of_none e (s3.free nD)
        rw [upd_ne nb]
        exact s5 b o nb e
      refine ⟨.ref fa, rfl, q _ fa ms (s1.trans s6) ffa mnd mem ?_⟩
      unfold edgesE
      rw [eh, eA]
      obtain ⟨ps, p1, p2, p3⟩ := S5
      refine ⟨ps, by rw [upd_ne nDf]; exact p1, p2, fun j p r hp hr' => ?_⟩
      have z : H5 p = some (.tup (rowV r)) := p3 j p r hp hr'
      show upd H5 ld _ p = _
      rw [upd_ne (ne_of z hd5 (by intro w; cases w))]
      exact z
end
end Lo
namespace Lo
open PySem L2
abbrev sIsName : Stmt := top 9
abbrev sReadN : Stmt := top 11
abbrev sSolvesT : Stmt := top 19
abbrev sFits : Stmt := top 46
abbrev sChecked : Stmt := top 45
theorem same_tup {K : PySem.W.Frag} {H H' : Hp} {a : Addr} {xs : List V} (e : Same H H') (h : SqT K H a xs) : SqT K H' a xs := by
  rcases h with (h | ⟨o, h⟩) | h
  · exact .inl (.inl (e _ _ h))
  · exact .inl (.inr ⟨o, e _ _ h⟩)
  · exact .inr h
def oV : Option Int → V
  | none => .non
  | some k => .int k
/-! ### a table of a system -/
def TabR (H : Hp) (t : Addr) (R : List SRow) (zs : List Str) : Prop := ∃ (ns : List Str) (ra : Str → Addr) (rk : Str → List Str) (rv : Str → Str → Int), TabG H t ns ra rk rv ∧ Tells ns rk rv (D R) ∧ (∃ v, Sat R v) ∧ (∀ x, Named R x → x ∈ ns) ∧ ∀ x ∈ ns, x ∈ zs
theorem TabR.same {H H' : Hp} {t : Addr} {R : List SRow} {zs : List Str} (s : Same H H') (h : TabR H t R zs) : TabR H' t R zs := by
  obtain ⟨ns, ra, rk, rv, h1, h2, h3, h4, h5⟩ := h
  exact ⟨ns, ra, rk, rv, h1.same s, h2, h3, h4, h5⟩
theorem TabR.wide {H : Hp} {t : Addr} {R : List SRow} {zs zs' : List Str} (h : TabR H t R zs) (w : ∀ x ∈ zs, x ∈ zs') : TabR H t R zs' := by
  obtain ⟨ns, ra, rk, rv, h1, h2, h3, h4, h5⟩ := h
  exact ⟨ns, ra, rk, rv, h1, h2, h3, h4, fun x hx => w x (h5 x hx)⟩
/-- tables in a list -/
def Tabs (H : Hp) (L : Addr) (Rs : List (List SRow)) (zs : List Str) : Prop := ∃ ts : List Addr, H L = some (.lst (ts.map V.ref)) ∧ ts.length = Rs.length ∧ ∀ (i : Nat) (t : Addr) (R : List SRow), ts[i]? = some t → Rs[i]? = some R → TabR H t R zs
theorem Tabs.same {H H' : Hp} {L : Addr} {Rs : List (List SRow)} {zs : List Str} (s : Same H H') (h : Tabs H L Rs zs) : Tabs H' L Rs zs := by
  obtain ⟨ts, h1, h2, h3⟩ := h
  exact ⟨ts, s _ _ h1, h2, fun i t R a b => (h3 i t R a b).same s⟩
theorem Tabs.wide {H : Hp} {L : Addr} {Rs : List (List SRow)} {zs zs' : List Str} (h : Tabs H L Rs zs) (w : ∀ x ∈ zs, x ∈ zs') : Tabs H L Rs zs' := by
  obtain ⟨ts, h1, h2, h3⟩ := h
  exact ⟨ts, h1, h2, fun i t R a b => (h3 i t R a b).wide w⟩
section
variable {P : Program} {w : World} {K : PySem.W.Frag} {mg : Str → Option Value} {base : Heap}
/-! ### is_name, read_names -/
def spIsName : Sp := fun vs H Q _ => ∃ x : Str, vs = [.str x] ∧ x ≠ ("" : Str) ∧ x ≠ ("0" : Str) ∧ Q (.bl true) H
theorem scIsName : FnScope ["thing"] ["thing"] (defScope sIsName) := ⟨rfl, rfl, rfl, by decide +kernel, rfl, by decide +kernel, by decide +kernel⟩
theorem ok_isname {f fS : Addr} {fd fdS : FuncData} (F : Fun K "is_name" "is_name" sIsName f fd) (GS : FnOk P w K mg base CX0 1 fS fdS ["thing"] spSide) (kS : PySem.W.keepIn K (.ref fS) = true) (bS : Binds K fdS ["thing"] []) (gS : mg "is_side" = some (.ref fS)) : FnOk P w K mg base CX0 2 f fd ["thing"] spIsName := by
  refine F.ok scIsName (fun vs H Q E h => ?_) (fun cdv A outer s H vs Q E hr h => ?_)
  · obtain ⟨i, rfl, _⟩ := h
    rfl
  · obtain ⟨x, rfl, h1, h2, q⟩ := h
    refine ⟨_, pss_one (ps_ret (pe_and (pe_call GS hr (by rfl) gS kS bS .nil pass0 (pa_cons (pv 0) pa_nil)) (pe_one (pe_cmpR op_ne (pv 0) pe_str (nomark _))))), ?_⟩
    refine ⟨.str x, rfl, x, rfl, h1, true, rfl, iteT ⟨_, rfl, rfl, ?_⟩⟩
    rw [ne_dec, decide_eq_true h2]
    exact q
/-- names of a region -/
structure NamesR (ns : List Str) : Prop where
  few : ns.length ≤ 4
  nd : ns.Nodup
  ok : ∀ x ∈ ns, x ≠ ("" : Str) ∧ x ≠ ("0" : Str) ∧ PyData.strOk x = true
def spReadN (K : PySem.W.Frag) : Sp := fun vs H Q _ => ∃ (np : Addr) (ns : List Str), vs = [.ref np] ∧ SqT K H np (ns.map V.str) ∧ NamesR ns ∧ ∀ H' p, Same H H' → H p = none → H' p = some (.tup (ns.map V.str)) → Q (.ref p) H'
theorem scReadN : FnScope ["names", "found", "name"] ["names"] (defScope sReadN) := ⟨rfl, rfl, rfl, by decide +kernel, rfl, by decide +kernel, by decide +kernel⟩
theorem ok_readn {f fN : Addr} {fd fdN : FuncData} (F : Fun K "read_names" "read_names" sReadN f fd) (T : Blt mg) (GN : FnOk P w K mg base CX0 2 fN fdN ["thing"] spIsName) (kN : PySem.W.keepIn K (.ref fN) = true) (bN : Binds K fdN ["thing"] []) (gN : mg "is_name" = some (.ref fN)) :
    FnOk P w K mg base CX0 3 f fd ["names"] (spReadN K) := by
  refine F.ok scReadN (fun vs H Q E h => ?_) (fun cdv A outer s H vs Q E hr h => ?_)
  · obtain ⟨np, ns, rfl, _⟩ := h
    rfl
  · obtain ⟨np, ns, rfl, hN, N, q⟩ := h
    have nd := scReadN.nd
    refine ⟨_, pss_cons (ps_set (i := 1) nd rfl (.inl rfl) (pe_lst pa_nil))
      (pss_cons (ps_for PassesOwn.never rfl (pi_tup (pv 0)) (pg_name (i := 2) nd rfl (.inl rfl))
        (pss_cons (ps_if (PW.pt (pw_or (pt_not (pt_val (pe_call GN hr (by rfl) gN kN bN .nil pass0 (pa_cons (pv 2) pa_nil)))) (pw_or1 (pt_cmpR op_in_seq (pv 2) (pv 1) (by rfl))))) (pss_one ps_never) pss_nil)
        (pss_one (ps_expr (pe_bm PySem.F.plainAttrs_list PySem.F.slot_list_append PySem.F.type_list_append mt_append (pv 1) (pa_cons (pv 2) pa_nil))))))
      (pss_one (ps_ret (pe_callTy call_tuple_of (by rfl) T.tuple PyProof.Rows.boot_tuple (pa_cons (pv 1) pa_nil))))), ?_⟩
    refine ⟨Nat.zero_le _, fun o no => ?_⟩
    have s1 := same_upd (o := HO.lst []) no
    refine ⟨.ref np, rfl, np, rfl, ⟨_, same_tup s1 hN⟩, for_tup (K := K) (a := np) (xs := ns.map V.str) (fun i σ H' => ∃ y : Option V, σ = [some (.ref np), some (.ref o), y] ∧ Same H H' ∧ H' o = some (.lst ((ns.take i).map V.str))) ⟨none, rfl, s1, upd_same⟩ (fun i σ H' _ ⟨_, _, sm, _⟩ => same_tup sm hN) ?_ ?_⟩
    · rintro i x σ H1 hi ⟨y, rfl, sm, ho⟩
      have hi1 : i < ns.length := by
        have := (List.getElem?_eq_some_iff.mp hi).1
        rw [List.length_map] at this
        exact this
      obtain rfl : x = .str ns[i] := by
        rw [List.getElem?_map, List.getElem?_eq_getElem hi1] at hi
        exact (Option.some.inj hi).symm
      obtain ⟨k1, k2, _⟩ := N.ok _ (List.getElem_mem hi1)
      refine ⟨_, rfl, _, rfl, k1, k2, true, rfl, iteF ?_⟩
      refine ⟨_, rfl, .ref o, rfl, o, _, rfl, .inl (SqL.of ho), rfl, flat_all _, _, rfl, ?_⟩
      rw [inV_strs, decide_eq_false]
      · have e : ns.take (i + 1) = ns.take i ++ [ns[i]] := by rw [List.take_add_one, List.getElem?_eq_getElem hi1]; rfl
        have few := N.few
        refine iteF ⟨.ref o, rfl, .inl ⟨rfl, _, SqL.of ho⟩, _, rfl, o, _, _, rfl, rfl, ho, ?_, ?_⟩
        · rw [List.length_map, List.length_take]
          exact small1000 (by omega)
        · refine ⟨_, rfl, sm.later no, ?_⟩
          rw [upd_same, e, List.map_append]
          rfl
      · intro m
        have nn := N.nd
        have sp : ns = ns.take i ++ ns[i] :: ns.drop (i + 1) := by rw [← List.drop_eq_getElem_cons hi1, List.take_append_drop]
        rw [sp] at nn
        exact (List.nodup_append.mp nn).2.2 _ m _ List.mem_cons_self rfl
    · rintro σ H1 ⟨y, rfl, sm, ho⟩
      rw [List.length_map, List.take_length] at ho
      exact ⟨.ref o, rfl, o, _, rfl, .inl ⟨SqL.of ho, fun p np' => q _ p (sm.trans (same_upd np')) (sm.free np') upd_same⟩⟩
end
end Lo
namespace Lo
open PySem L2
section
variable {P : Program} {w : World} {K : PySem.W.Frag} {mg : Str → Option Value} {base : Heap}
/-! ### solves -/
def spSolvesT : Sp := fun vs H Q _ => ∃ (p t : Addr) (ps : List Str) (val : Str → Int) (R : List SRow) (zs : List Str) (H0 : Hp), vs = [.ref p, .ref t] ∧ Same H0 H ∧ H0 p = none ∧ TabR H0 t R zs ∧ H p = some (.dK (dS ps fun x => .int (val x))) ∧ (∀ x ∈ zs, x ∈ ps) ∧
  ∀ H' b, Same H H' → (b = true ↔ Sat R val) → Q (.bl b) H'
abbrev nSolvesT : List Str := ["point", "table", "left", "row", "right", "limit"]
theorem scSolvesT : FnScope nSolvesT ["point", "table"] (defScope sSolvesT) := ⟨rfl, rfl, rfl, by decide +kernel, rfl, by decide +kernel, by decide +kernel⟩
theorem ok_solvest {f : Addr} {fd : FuncData} (F : Fun K "solves" "solves" sSolvesT f fd) : FnOk P w K mg base CX0 1 f fd ["point", "table"] spSolvesT := by
  refine F.ok scSolvesT (fun vs H Q E h => ?_) (fun cdv A outer s H vs Q E hr h => ?_)
  · obtain ⟨p, t, ps, val, R, zs, H0, rfl, _⟩ := h
    rfl
  · obtain ⟨p, t, ps, val, R, zs, H0, rfl, s0, np, ⟨ns, ra, rk, rv, TG0, Te, ⟨v, hv⟩, hn, hz⟩, hp, hzp, q⟩ := h
    have nd := scSolvesT.nd
    have hu := hu_of hr
    have TG := TG0.same s0
    have npt : p ≠ t := fun e => by
      rw [e, TG0.dict] at np
      cases np
    have npr : ∀ x ∈ ns, p ≠ ra x := fun x hx e => by
      rw [e, TG0.row x hx] at np
      cases np
    refine ⟨_, pss_cons (ps_lock (ps_for PassesOwn.never rfl (pi_items (pv 1)) (pg_tup rfl (pgs_cons (pg_name (i := 2) nd rfl (.inl rfl)) (pgs_cons (pg_name (i := 3) nd rfl (.inl rfl)) pgs_nil)))
        (pss_one (ps_lock (ps_for PassesOwn.never rfl (pi_items (pv 3)) (pg_tup rfl (pgs_cons (pg_name (i := 4) nd rfl (.inl rfl)) (pgs_cons (pg_name (i := 5) nd rfl (.inl rfl)) pgs_nil)))
          (pss_one (ps_if (pt_cmpR op_gt (pe_op op_sub (pe_dget hu (pv 0) (pv 2) (fun _ _ => rfl)) (pe_dget hu (pv 0) (pv 4) (fun _ _ => rfl))) (pv 5) (nomark _)) (pss_one (ps_ret pe_bl)) pss_nil)))))))
      (pss_one (ps_ret pe_bl)), ?_⟩
    refine ⟨t, _, TG.dict, trivial, fun od => ?_⟩
    have back : ∀ {H' : Hp}, SameX t H H' → Same H (upd H' t (.dK (dS ns fun x => .ref (ra x)))) := fun sx => sameX_back TG.dict sx
    refine ⟨.ref t, rfl, t, od, _, rfl, upd_same, for_it walk_items (fun i σ H' => ∃ (y2 y3 y4 y5 : Option V), σ = [some (.ref p), some (.ref t), y2, y3, y4, y5] ∧ SameX t H H' ∧ H' t = some (.frz od (.dK (dS ns fun x => .ref (ra x)))) ∧
        ∀ x ∈ ns.take i, ∀ y ∈ rk x, val x - val y ≤ rv x y)
      ⟨none, none, none, none, rfl, fun b o hb e => by rw [upd_ne hb]; exact e, upd_same, fun x h => absurd h List.not_mem_nil⟩ (fun i σ H' _ ⟨_, _, _, _, _, _, e, _⟩ => e) ?_ ?_⟩
    · rintro i z σ H1 H2 hi ⟨y2, y3, y4, y5, rfl, s1, ht1, prev⟩ ⟨tp, x1, x2, rfl, ntp, rfl, e1, e2⟩
      have hi' : i < ns.length := by
        rw [dS_len] at hi
        exact hi
      dsimp only at e1 e2
      rw [dS_at hi'] at e1 e2
      obtain rfl := Option.some.inj e1
      obtain rfl := Option.some.inj e2
      have sT := same_upd (o := HO.tup [kV (Sum.inr ns[i]), V.ref (ra ns[i])]) ntp
      have etake : ns.take (i + 1) = ns.take i ++ [ns[i]] := by rw [List.take_add_one, List.getElem?_eq_getElem hi']; rfl
      have hx : ns[i] ∈ ns := List.getElem_mem hi'
      have s2 := s1.trans (same_x sT)
      have ht2 := sT _ _ ht1
      refine ⟨tp, _, rfl, SqT.of upd_same, rfl, _, _, rfl, _, _, rfl, rfl, ?_⟩
      rw [etake]
      generalize upd H1 tp (.tup [kV (Sum.inr ns[i]), V.ref (ra ns[i])]) = H2 at s2 ht2 ⊢
      generalize ns[i] = x at *
      have hrow := s2 _ _ (TG.off x hx) (TG.row x hx)
      have hp2 := s2 _ _ npt hp
      refine ⟨ra x, _, hrow, trivial, fun od2 => ?_⟩
      refine ⟨.ref (ra x), rfl, ra x, od2, _, rfl, upd_same, for_it walk_items (fun j σ' H' => ∃ (y4 y5 : Option V), σ' = [some (.ref p), some (.ref t), some (.str x), some (.ref (ra x)), y4, y5] ∧ SameX (ra x) H2 H' ∧ H' (ra x) = some (.frz od2 (.dK (dS (rk x) fun y => .int (rv x y)))) ∧
          ∀ y ∈ (rk x).take j, val x - val y ≤ rv x y)
        ⟨y4, y5, rfl, fun b o hb e => by rw [upd_ne hb]; exact e, upd_same, fun y h => absurd h List.not_mem_nil⟩ (fun j σ' H' _ ⟨_, _, _, _, e, _⟩ => e) ?_ ?_⟩
      · rintro j z σ' H3 H4 hj ⟨y4, y5, rfl, s3, hr3, prev2⟩ ⟨tq, w1, w2, rfl, ntq, rfl, d1, d2⟩
        have hj' : j < (rk x).length := by
          rw [dS_len] at hj
          exact hj
        dsimp only at d1 d2
        rw [dS_at hj'] at d1 d2
        obtain rfl := Option.some.inj d1
        obtain rfl := Option.some.inj d2
        have sT2 := same_upd (o := HO.tup [kV (Sum.inr (rk x)[j]), V.int (rv x (rk x)[j])]) ntq
        have etake2 : (rk x).take (j + 1) = (rk x).take j ++ [(rk x)[j]] := by rw [List.take_add_one, List.getElem?_eq_getElem hj']; rfl
        have hy : (rk x)[j] ∈ rk x := List.getElem_mem hj'
        have s4 := s3.trans (same_x sT2)
        have hr4 := sT2 _ _ hr3
        refine ⟨tq, _, rfl, SqT.of upd_same, rfl, _, _, rfl, _, _, rfl, rfl, ?_⟩
        rw [etake2]
        generalize upd H3 tq (.tup [kV (Sum.inr (rk x)[j]), V.int (rv x (rk x)[j])]) = H4 at s4 hr4 ⊢
        generalize (rk x)[j] = y at *
        have hp4 := s4 _ _ (npr x hx) hp2
        have dxy : D R x y = some (rv x y) := by rw [← Te x hx y, opt_in hy]
        have yp : y ∈ ps := by
          rcases d_named hv dxy with e | e
          · exact e ▸ hzp _ (hz x hx)
          · exact hzp _ (hz y (hn y e))
        refine ⟨.ref p, rfl, .str x, rfl, p, _, rfl, dget hp4 (hzp _ (hz x hx)), .ref p, rfl, .str y, rfl, p, _, rfl, dget hp4 yp, _, _, rfl, rfl, _, rfl, _, _, rfl, rfl, _, rfl, ite2 (fun e => ?_) (fun e => ?_)⟩
        · have lt : rv x y < val x - val y := of_decide_eq_true e
          have b2 : Same H2 (upd H4 (ra x) (.dK (dS (rk x) fun y => .int (rv x y)))) := sameX_back hrow s4
          refine ⟨hr4, ?_, ?_⟩
          · exact b2 _ _ ht2
          · refine q _ false (back (s2.trans (same_x b2))) ⟨(fun z => nomatch z), fun hs => ?_⟩
            have := d_told hv dxy val hs
            omega
        · have le : val x - val y ≤ rv x y := by
            have : ¬ rv x y < val x - val y := fun z => e (decide_eq_true z)
            omega
          refine ⟨_, _, rfl, s4, hr4, fun g hg => ?_⟩
          rcases List.mem_append.mp hg with m | m
          · exact prev2 g m
          · rw [List.mem_singleton] at m
            exact m ▸ le
      · rintro σ' H3 ⟨y4, y5, rfl, s3, hr3, prev2⟩
        rw [dS_len, List.take_length] at prev2
        have b2 : Same H2 (upd H3 (ra x) (.dK (dS (rk x) fun y => .int (rv x y)))) := sameX_back hrow s3
        refine ⟨hr3, _, _, _, _, rfl, s2.trans (same_x b2), b2 _ _ ht2, fun g hg => ?_⟩
        rcases List.mem_append.mp hg with m | m
        · exact prev g m
        · rw [List.mem_singleton] at m
          exact m ▸ prev2
    · rintro σ H1 ⟨y2, y3, y4, y5, rfl, s1, ht1, prev⟩
      rw [dS_len, List.take_length] at prev
      refine ⟨ht1, q _ true (back s1) ⟨fun _ r hr' => ?_, fun _ => rfl⟩⟩
      obtain ⟨a, b, c⟩ := r
      obtain ⟨k, ek, lk⟩ := d_row hv hr'
      have ha : a ∈ ns := hn a ⟨_, hr', .inl rfl⟩
      have e := Te a ha b
      rw [ek] at e
      obtain ⟨mb, eb⟩ := opt_some e
      have := prev a ha b mb
      show val a - val b ≤ c
      omega
end
end Lo
namespace Lo
open PySem L2
abbrev sReadTs : Stmt := top 44
/-- a system has a solution -/
noncomputable def satB (R : List SRow) : Bool := @decide (∃ v, Sat R v) (Classical.propDecidable _)
theorem satB_iff {R : List SRow} : satB R = true ↔ ∃ v, Sat R v := by
  unfold satB
  exact @decide_eq_true_iff _ (Classical.propDecidable _)
theorem satB_not {R : List SRow} (h : ∀ v, ¬ Sat R v) : satB R = false := by
  cases e : satB R with
  | false => rfl
  | true =>
    obtain ⟨v, hv⟩ := satB_iff.mp e
    exact absurd hv (h v)
theorem TabR.past {H : Hp} {L t : Addr} {R : List SRow} {zs : List Str} {xs : List V} {o : HO} (hL : H L = some (.lst xs)) (h : TabR H t R zs) : TabR (upd H L o) t R zs := by
  obtain ⟨ns, ra, rk, rv, T, h2, h3, h4, h5⟩ := h
  have off : ∀ {b : Addr} {kvs : List (Key × V)}, H b = some (.dK kvs) → upd H L o b = some (.dK kvs) := fun {b kvs} e => by
    rw [upd_ne (ne_of e hL (by intro z; cases z))]
    exact e
  exact ⟨ns, ra, rk, rv, ⟨off T.dict, T.nd, fun x hx => off (T.row x hx), T.off, T.rnd⟩, h2, h3, h4, h5⟩
/-- one table more in the list -/
theorem Tabs.snoc {H : Hp} {L t : Addr} {Rs : List (List SRow)} {R : List SRow} {zs : List Str} {ts : List Addr} (h1 : H L = some (.lst (ts.map V.ref))) (h2 : ts.length = Rs.length) (h3 : ∀ (i : Nat) (t : Addr) (R : List SRow), ts[i]? = some t → Rs[i]? = some R → TabR H t R zs) (hR : TabR H t R zs) :
    Tabs (upd H L (.lst (ts.map V.ref ++ [.ref t]))) L (Rs ++ [R]) zs := by
  refine ⟨ts ++ [t], by rw [upd_same, List.map_append]; rfl, by rw [List.length_append, List.length_append, h2]; rfl, fun i t' R' ht hR' => ?_⟩
  by_cases k : i < ts.length
  · rw [List.getElem?_append_left k] at ht
    rw [List.getElem?_append_left (by omega)] at hR'
    exact (h3 i t' R' ht hR').past h1
  · have hi : i = ts.length := by
      have := (List.getElem?_eq_some_iff.mp ht).1
      rw [List.length_append, List.length_singleton] at this
      omega
    subst hi
    rw [List.getElem?_append_right (Nat.le_refl _), Nat.sub_self] at ht
    rw [h2, List.getElem?_append_right (Nat.le_refl _), Nat.sub_self] at hR'
    have a1 : t = t' := Option.some.inj ht
    have a2 : R = R' := Option.some.inj hR'
    exact a1 ▸ a2 ▸ hR.past h1
/-- systems in a list -/
def Syss (H : Hp) (L : Addr) (Ss : List (List SRow)) : Prop := ∃ ls : List Addr, H L = some (.lst (ls.map V.ref)) ∧ ls.length = Ss.length ∧ ∀ (i : Nat) (l : Addr) (R : List SRow), ls[i]? = some l → Ss[i]? = some R → Sys RowT H l R
theorem Syss.same {H H' : Hp} {L : Addr} {Ss : List (List SRow)} (s : Same H H') (h : Syss H L Ss) : Syss H' L Ss := by
  obtain ⟨ls, h1, h2, h3⟩ := h
  exact ⟨ls, s _ _ h1, h2, fun i l R a b => (h3 i l R a b).sameT s⟩
/-- the i-th of a list of things -/
theorem pick_ref {ls : List Addr} {i : Nat} {v : V} (hv : (ls.map V.ref)[i]? = some v) : ∃ l, v = .ref l ∧ ls[i]? = some l ∧ i < ls.length := by
  rw [List.getElem?_map] at hv
  cases e : ls[i]? with
  | none =>
    rw [e] at hv
    cases hv
  | some l =>
    rw [e] at hv
    exact ⟨l, (Option.some.inj hv).symm, rfl, (List.getElem?_eq_some_iff.mp e).1⟩
section
variable {P : Program} {w : World} {K : PySem.W.Frag} {mg : Str → Option Value} {base : Heap}
/-! ### _fits -/
def spFits (K : PySem.W.Frag) : Sp := fun vs H Q _ => ∃ (np p : Addr) (ns : List Str) (r : SRow), vs = [.ref np, .ref p] ∧ SqT K H np (ns.map V.str) ∧ RowT H p r ∧ In2 ns r ∧ Q (.bl true) H
abbrev nFits : List Str := ["names", "difference", "left", "right", "_"]
theorem scFits : FnScope nFits ["names", "difference"] (defScope sFits) := ⟨rfl, rfl, rfl, by decide +kernel, rfl, by decide +kernel, by decide +kernel⟩
theorem ok_fits {f : Addr} {fd : FuncData} (F : Fun K "_fits" "_fits" sFits f fd) : FnOk P w K mg base CX0 1 f fd ["names", "difference"] (spFits K) := by
  refine F.ok scFits (fun vs H Q E h => ?_) (fun cdv A outer s H vs Q E hr h => ?_)
  · obtain ⟨np, p, ns, r, rfl, _⟩ := h
    rfl
  · obtain ⟨np, p, ns, ⟨x, y, c⟩, rfl, hN, hR, ⟨i1, i2⟩, q⟩ := h
    have nd := scFits.nd
    refine ⟨_, pss_cons (ps_asg (pv 1) (pg_tup rfl (pgs_cons (pg_name (i := 2) nd rfl (.inl rfl)) (pgs_cons (pg_name (i := 3) nd rfl (.inl rfl)) (pgs_cons (pg_name (i := 4) nd rfl (.inl rfl)) pgs_nil)))))
      (pss_one (ps_ret (pe_and (pe_or (pe_cmpR op_eq (pv 2) pe_str (nomark _)) (pe_one (pe_cmpR op_in_seq (pv 2) (pv 0) (by rfl)))) (pe_one (pe_or (pe_cmpR op_eq (pv 3) pe_str (nomark _)) (pe_one (pe_cmpR op_in_seq (pv 3) (pv 0) (by rfl)))))))), ?_⟩
    refine ⟨.ref p, rfl, p, _, rfl, SqT.of hR, rfl, _, _, rfl, _, _, rfl, _, _, rfl, rfl, ?_⟩
    refine ⟨.str x, rfl, rfl, ?_⟩
    by_cases e : x = "0"
    · refine ⟨_, rfl, ?_⟩
      rw [decide_eq_true (by rw [e])]
      refine iteT ⟨true, rfl, iteT ?_⟩
      refine ⟨.str y, rfl, rfl, ?_⟩
      by_cases e2 : y = "0"
      · refine ⟨_, rfl, ?_⟩
        rw [decide_eq_true (by rw [e2])]
        exact iteT q
      · refine ⟨_, rfl, ?_⟩
        rw [decide_eq_false fun h => e2 (V.str.inj h)]
        refine iteF ⟨.str y, rfl, .ref np, rfl, np, _, rfl, .inr hN, rfl, flat_all _, ?_⟩
        rw [inV_strs, decide_eq_true ((List.mem_cons.mp i2).resolve_left e2)]
        exact q
    · refine ⟨_, rfl, ?_⟩
      rw [decide_eq_false fun h => e (V.str.inj h)]
      refine iteF ⟨.str x, rfl, .ref np, rfl, np, _, rfl, .inr hN, rfl, flat_all _, ?_⟩
      rw [inV_strs, decide_eq_true ((List.mem_cons.mp i1).resolve_left e)]
      refine ⟨true, rfl, iteT ?_⟩
      refine ⟨.str y, rfl, rfl, ?_⟩
      by_cases e2 : y = "0"
      · refine ⟨_, rfl, ?_⟩
        rw [decide_eq_true (by rw [e2])]
        exact iteT q
      · refine ⟨_, rfl, ?_⟩
        rw [decide_eq_false fun h => e2 (V.str.inj h)]
        refine iteF ⟨.str y, rfl, .ref np, rfl, np, _, rfl, .inr hN, rfl, flat_all _, ?_⟩
        rw [inV_strs, decide_eq_true ((List.mem_cons.mp i2).resolve_left e2)]
        exact q
/-! ### _checked -/
def spChecked (K : PySem.W.Frag) : Sp := fun vs H Q _ => ∃ (np a : Addr) (ns : List Str) (rows : List SRow), vs = [.ref np, .ref a] ∧ SqT K H np (ns.map V.str) ∧ Sys RowT H a rows ∧ Good rows ∧ (∀ r ∈ rows, In2 ns r) ∧ ∀ H' q, Same H H' → H q = none → Sys RowT H' q rows → Q (.ref q) H'
abbrev nChecked : List Str := ["names", "system", "found", "place", "entry"]
theorem scChecked : FnScope nChecked ["names", "system"] (defScope sChecked) := ⟨rfl, rfl, rfl, by decide +kernel, rfl, by decide +kernel, by decide +kernel⟩
theorem ok_checked {f fD fF : Addr} {fd fdD fdF : FuncData} (F : Fun K "_checked" "_checked" sChecked f fd) (T : Blt mg) (GD : FnOk P w K mg base CX0 2 fD fdD ["thing"] spDiff) (kD : PySem.W.keepIn K (.ref fD) = true) (bD : Binds K fdD ["thing"] []) (gD : mg "is_difference" = some (.ref fD))
    (GF : FnOk P w K mg base CX0 1 fF fdF ["names", "difference"] (spFits K)) (kF : PySem.W.keepIn K (.ref fF) = true) (bF : Binds K fdF ["names", "difference"] []) (gF : mg "_fits" = some (.ref fF)) : FnOk P w K mg base CX0 3 f fd ["names", "system"] (spChecked K) := by
  refine F.ok scChecked (fun vs H Q E h => ?_) (fun cdv A outer s H vs Q E hr h => ?_)
  · obtain ⟨np, a, ns, rows, rfl, _⟩ := h
    rfl
  · obtain ⟨np, a, ns, rows, rfl, hN, ⟨ps, hA, hl, hat⟩, g, hin, q⟩ := h
    have nd := scChecked.nd
    have few := g.few
    refine ⟨_, pss_cons (ps_set (i := 2) nd rfl (.inl rfl) (pe_lst pa_nil))
      (pss_cons (ps_for PassesOwn.never rfl (pi_enum (by rfl) T.enum (pa_cons (pv 1) pa_nil)) (pg_tup rfl (pgs_cons (pg_name (i := 3) nd rfl (.inl rfl)) (pgs_cons (pg_name (i := 4) nd rfl (.inl rfl)) pgs_nil)))
        (pss_cons (ps_if (PW.pt (pw_or (pt_not (pt_val (pe_call GD hr (by rfl) gD kD bD .nil pass0 (pa_cons (pv 4) pa_nil)))) (pw_or1 (pt_not (pt_val (pe_call GF (hr.mono (by decide)) (by rfl) gF kF bF .nil pass0 (pa_cons (pv 0) (pa_cons (pv 4) pa_nil)))))))) (pss_one ps_never) pss_nil)
        (pss_one (ps_expr (pe_bm PySem.F.plainAttrs_list PySem.F.slot_list_append PySem.F.type_list_append mt_append (pv 2)
          (pa_cons (pe_callTy call_tuple_of (by rfl) T.tuple PyProof.Rows.boot_tuple (pa_cons (pv 4) pa_nil)) pa_nil))))))
      (pss_one (ps_ret (pv 2)))), ?_⟩
    refine ⟨Nat.zero_le _, fun o no => ?_⟩
    have s1 := same_upd (o := HO.lst []) no
    refine ⟨.ref a, rfl, a, ps.map V.ref, rfl, SqL.of (s1 _ _ hA), for_it walk_enum (fun i σ H' => ∃ (y3 y4 : Option V) (qs : List Addr), σ = [some (.ref np), some (.ref a), some (.ref o), y3, y4] ∧ Same H H' ∧ H' o = some (.lst (qs.map V.ref)) ∧ qs.length = i ∧
        ∀ (j : Nat) (p : Addr) (r : SRow), qs[j]? = some p → rows[j]? = some r → RowT H' p r) ⟨none, none, [], rfl, s1, upd_same, rfl, fun j p r e => nomatch e⟩ (fun i σ H' _ ⟨_, _, _, _, sm, _⟩ => SqL.of (sm _ _ hA)) ?_ ?_⟩
    · rintro i x σ H1 H2 hi ⟨y3, y4, qs, rfl, sm, ho, hq, hrow⟩ ⟨tp, x1, x2, rfl, ntp, rfl, e1, e2⟩
      obtain ⟨p, r, rfl, hp, hrr, hmem, hlt, hR⟩ := Sys.at hl hat e2
      have smT : Same H1 (upd H1 tp (.tup [x1, .ref p])) := same_upd ntp
      refine ⟨tp, _, rfl, SqT.of upd_same, rfl, _, _, rfl, _, _, rfl, rfl, ?_⟩
      have s2 := sm.trans smT
      refine ⟨.ref p, rfl, p, r, rfl, .inl (hR.same s2), g.row r hmem, fun H3 s3 => ⟨true, rfl, iteF ?_⟩⟩
      have s13 := s2.trans s3
      refine ⟨.ref np, rfl, .ref p, rfl, np, p, ns, r, rfl, same_tup s13 hN, hR.same s13, hin r hmem, true, rfl, iteF ?_⟩
      have ho3 : H3 o = some (.lst (qs.map V.ref)) := s3 _ _ (smT _ _ ho)
      have hlen : (qs.map V.ref).length < sizeLine := by
        rw [List.length_map, hq]
        exact small1000 (by omega)
      refine ⟨.ref o, rfl, .inl ⟨rfl, _, SqL.of ho3⟩, .ref p, rfl, p, rowV r, rfl, .inr ⟨SqT.of (hR.same s13), o, _, _, rfl, rfl, ho3, hlen, ?_⟩⟩
      have out : ∀ (b : Addr) (r' : SRow), RowT H3 b r' → RowT (upd H3 o (.lst (qs.map V.ref ++ [.ref p]))) b r' := fun b r' hb => by
        have nb : b ≠ o := ne_of hb ho3 (by intro z; cases z)
        show upd H3 o _ b = _
        rw [upd_ne nb]
        exact hb
      refine ⟨_, _, qs ++ [p], rfl, s13.later no, ?_, by rw [List.length_append, hq]; rfl, fun j pj rj hj hr' => ?_⟩
      · rw [upd_same, List.map_append]
        rfl
      · by_cases k : j < i
        · rw [List.getElem?_append_left (by omega)] at hj
          exact out _ _ ((hrow j pj rj hj hr').same (smT.trans s3))
        · have hj2 : j = i := by
            have := (List.getElem?_eq_some_iff.mp hj).1
            rw [List.length_append, List.length_singleton] at this
            omega
          subst hj2
          rw [List.getElem?_append_right (by omega), hq, Nat.sub_self] at hj
          have e : p = pj := Option.some.inj hj
          rw [hrr] at hr'
          have e' : r = rj := Option.some.inj hr'
          subst e e'
          exact out _ _ (hR.same s13)
    · rintro σ H1 ⟨y3, y4, qs, rfl, sm, ho, hq, hrow⟩
      rw [List.length_map] at hq
      exact ⟨.ref o, rfl, q H1 o sm no ⟨qs, ho, hq.trans hl, hrow⟩⟩
/-! ### _read_tables -/
def spReadTs (K : PySem.W.Frag) : Sp := fun vs H Q _ => ∃ (np L : Addr) (ns : List Str) (Ss : List (List SRow)), vs = [.ref np, .ref L] ∧ SqT K H np (ns.map V.str) ∧ Syss H L Ss ∧ Ss.length ≤ 100 ∧ (∀ R ∈ Ss, Good R ∧ ∀ r ∈ R, In2 ns r) ∧ ∀ H' q, Same H H' → H q = none → Tabs H' q (Ss.filter satB) (("0" : Str) :: ns) → Q (.ref q) H'
abbrev nReadTs : List Str := ["names", "systems", "checked", "found", "differences", "table", "system"]
theorem scReadTs : FnScope nReadTs ["names", "systems"] (defScope sReadTs) := ⟨rfl, rfl, rfl, by decide +kernel, rfl, by decide +kernel, by decide +kernel⟩
theorem ok_readts {f fC fT : Addr} {fd fdC fdT : FuncData} (F : Fun K "_read_tables" "_read_tables" sReadTs f fd)
    (GC : FnOk P w K mg base CX0 3 fC fdC ["names", "system"] (spChecked K)) (kC : PySem.W.keepIn K (.ref fC) = true) (bC : Binds K fdC ["names", "system"] []) (gC : mg "_checked" = some (.ref fC))
    (GT : FnOk P w K mg base CX0 4 fT fdT ["differences"] spTableOf) (kT : PySem.W.keepIn K (.ref fT) = true) (bT : Binds K fdT ["differences"] []) (gT : mg "table_of" = some (.ref fT)) : FnOk P w K mg base CX0 5 f fd ["names", "systems"] (spReadTs K) := by
  refine F.ok scReadTs (fun vs H Q E h => ?_) (fun cdv A outer s H vs Q E hr h => ?_)
  · obtain ⟨np, L, ns, Ss, rfl, _⟩ := h
    rfl
  · obtain ⟨np, L, ns, Ss, rfl, hN, ⟨ls, hL, hll, hat⟩, few, hg, q⟩ := h
    have nd := scReadTs.nd
    have r3 := hr.mono (show 3 ≤ 4 by decide)
    refine ⟨_, C8.pss_cut (ps_setLc (i := 2) (own := [("system", 6)]) (g := gName 6) (tt := tYes) rfl nd rfl rfl (sw_true rfl rfl rfl (by decide +kernel)) (pi_list (pv 1)) (blkOk_by (N := nReadTs) (sc := defScope sReadTs) (by decide +kernel))
          (fun _ _ _ _ _ => pg_name (i := 6) nd rfl (.inl rfl)) (fun _ _ _ _ _ => pts_nil) (fun _ _ _ _ _ => pe_call GC r3 (by rfl) gC kC bC .nil pass0 (pa_cons (pv 0) (pa_cons (pv 6) pa_nil))))
      (pss_cons (ps_set (i := 3) nd rfl (.inl rfl) (pe_lst pa_nil))
      (pss_cons (ps_for PassesOwn.never rfl (pi_list (pv 2)) (pg_name (i := 4) nd rfl (.inl rfl))
        (pss_cons (ps_set (i := 5) nd rfl (.inl rfl) (pe_call GT hr (by rfl) gT kT bT .nil pass0 (pa_cons (pv 4) pa_nil)))
        (pss_one (ps_if (pt_cmpR op_notN (pv 5) pe_non (nomark _)) (pss_one (ps_expr (pe_bm PySem.F.plainAttrs_list PySem.F.slot_list_append PySem.F.type_list_append mt_append (pv 3) (pa_cons (pv 5) pa_nil)))) pss_nil))))
      (pss_one (ps_ret (pv 3))))), ?_⟩
    refine ⟨fun σ' H' => ∃ c : Addr, σ' = [some (.ref np), some (.ref L), some (.ref c), none, none, none, none] ∧ Same H H' ∧ Syss H' c Ss, ?_, ?_⟩
    · refine ⟨.ref L, rfl, L, rfl, ⟨_, SqL.of hL⟩, fun c nc => ?_⟩
      refine lc_list (K := K) (a := L) (xs := ls.map V.ref) (fun j H' => Same H H' ∧ ∃ qs : List Addr, H' c = some (.lst (qs.map V.ref)) ∧ qs.length = j ∧ (∀ q ∈ qs, q ≠ c) ∧ ∀ (i : Nat) (l : Addr) (R : List SRow), qs[i]? = some l → Ss[i]? = some R → Sys RowT H' l R)
        ⟨same_upd nc, [], upd_same, rfl, fun q h => absurd h List.not_mem_nil, fun i l R e => nomatch e⟩ (fun j H' _ h => SqL.of (h.1 _ _ hL)) ?_ ?_
      · rintro j v H1 hj ⟨s1, qs, hc, hql, hqn, hqr⟩
        obtain ⟨l, rfl, hl1, hlt⟩ := pick_ref hj
        obtain ⟨R, hR⟩ : ∃ R, Ss[j]? = some R := ⟨_, List.getElem?_eq_getElem (by omega)⟩
        obtain ⟨gR, iR⟩ := hg R (List.mem_of_getElem? hR)
        refine ⟨rfl, ?_⟩
        unfold tYes
        refine iteT ?_
        refine ⟨.ref np, rfl, .ref l, rfl, np, l, ns, R, rfl, same_tup s1 hN, (hat j l R hl1 hR).sameT s1, gR, iR, fun H2 p s2 np2 hS => ?_⟩
        have hc2 := s2 _ _ hc
        have out : ∀ {b : Addr} {R' : List SRow}, Sys RowT H2 b R' → b ≠ c → Sys RowT (upd H2 c (.lst (qs.map V.ref ++ [.ref p]))) b R' := fun {b R'} ⟨ps, h1, h2, h3⟩ nb => ⟨ps, by rw [upd_ne nb]; exact h1, h2, fun i q r a b => by
          have z := h3 i q r a b
          show upd H2 c _ q = _
          rw [upd_ne (ne_of z hc2 (by intro z; cases z))]
          exact z⟩
        have npc : p ≠ c := fun e => by
          rw [e, hc] at np2
          cases np2
        refine ⟨_, hc2, by rw [List.length_map, hql]; exact small1000 (by omega), (s1.trans s2).later nc, qs ++ [p], by rw [upd_same, List.map_append]; rfl, by rw [List.length_append, hql]; rfl, fun q hq => ?_, fun i l' R' hl' hR' => ?_⟩
        · rcases List.mem_append.mp hq with m | m
          · exact hqn q m
          · exact List.mem_singleton.mp m ▸ npc
        by_cases k : i < j
        · rw [List.getElem?_append_left (by omega)] at hl'
          exact out ((hqr i l' R' hl' hR').sameT s2) (hqn l' (List.mem_of_getElem? hl'))
        · have hi2 : i = j := by
            have := (List.getElem?_eq_some_iff.mp hl').1
            rw [List.length_append, List.length_singleton] at this
            omega
          subst hi2
          rw [List.getElem?_append_right (by omega), hql, Nat.sub_self] at hl'
          have e1 : p = l' := Option.some.inj hl'
          rw [hR] at hR'
          have e2 := Option.some.inj hR'
          subst e1 e2
          exact out hS npc
      · rintro H1 ⟨s1, qs, hc, hql, _, hqr⟩
        exact ⟨c, rfl, s1, qs, hc, by rw [hql, List.length_map, hll], hqr⟩
    rintro σ1 H1 ⟨c, rfl, s1, hC⟩
    refine ⟨Nat.zero_le _, fun o no => ?_⟩
    have sO := same_upd (o := HO.lst []) no
    have s2 := s1.trans sO
    obtain ⟨cs, hc, hcl, hcat⟩ := hC.same sO
    have no0 : H o = none := s1.free no
    refine ⟨.ref c, rfl, c, rfl, ⟨_, SqL.of hc⟩, for_list (K := K) (a := c) (xs := cs.map V.ref) (fun i σ H' => ∃ (y4 y5 : Option V) (ts : List Addr), σ = [some (.ref np), some (.ref L), some (.ref c), some (.ref o), y4, y5, none] ∧ Same H H' ∧ Same H1 H' ∧ H' o = some (.lst (ts.map V.ref)) ∧
        ts.length = ((Ss.take i).filter satB).length ∧ ∀ (j : Nat) (t : Addr) (R : List SRow), ts[j]? = some t → ((Ss.take i).filter satB)[j]? = some R → TabR H' t R (("0" : Str) :: ns))
      ⟨none, none, [], rfl, s2, sO, upd_same, rfl, fun j t R e => nomatch e⟩ (fun i σ H' _ ⟨_, _, _, _, _, sm, _⟩ => ?_) ?_ ?_⟩
    · obtain ⟨cs', h1, _, _⟩ := hC
      have z := sO _ _ h1
      rw [hc] at z
      injection z with z
      rw [HO.lst.inj z]
      exact SqL.of (sm _ _ h1)
    · rintro i v σ H2 hi ⟨y4, y5, ts, rfl, s3, s13, ho, hlen, htab⟩
      obtain ⟨l, rfl, hl1, hlt⟩ := pick_ref hi
      obtain ⟨R, hR⟩ : ∃ R, Ss[i]? = some R := ⟨_, List.getElem?_eq_getElem (by omega)⟩
      obtain ⟨gR, iR⟩ := hg R (List.mem_of_getElem? hR)
      have hSl : Sys RowT H2 l R := by
        obtain ⟨cs', h1, h2, h3⟩ := hC
        have z := sO _ _ h1
        rw [hc] at z
        injection z with z
        have inj : ∀ (a b : List Addr), a.map V.ref = b.map V.ref → a = b := fun a => by
          induction a with
          | nil => intro b z; cases b with
            | nil => rfl
            | cons _ _ => exact nomatch z
          | cons x a ih => intro b z; cases b with
            | nil => exact nomatch z
            | cons y b =>
              have z1 := List.cons.inj z
              rw [V.ref.inj z1.1, ih b z1.2]
        have e := inj _ _ (HO.lst.inj z)
        exact (h3 i l R (e ▸ hl1) hR).sameT s13
      have etake : Ss.take (i + 1) = Ss.take i ++ [R] := by rw [List.take_add_one, hR]; rfl
      refine ⟨.ref l, rfl, l, R, rfl, hSl, gR, fun H3 x s4 hx => ?_⟩
      have fewT : ts.length ≤ 100 := by
        rw [hlen]
        exact Nat.le_trans (List.length_filter_le _ _) (by rw [List.length_take]; omega)
      rcases hx with ⟨rfl, no'⟩ | ⟨t, ns', ra, rk, rv, rfl, T', hv⟩
      · refine ⟨_, rfl, rfl, _, rfl, iteF ?_⟩
        have ef : (Ss.take (i + 1)).filter satB = (Ss.take i).filter satB := by
          rw [etake, List.filter_append, List.filter_cons, if_neg (by rw [satB_not no']; exact Bool.false_ne_true), List.filter_nil, List.append_nil]
        refine ⟨_, _, ts, rfl, s3.trans s4, s13.trans s4, s4 _ _ ho, by rw [ef]; exact hlen, fun j t R' a b => ?_⟩
        rw [ef] at b
        exact (htab j t R' a b).same s4
      · refine ⟨_, rfl, rfl, _, rfl, iteT ?_⟩
        have ef : (Ss.take (i + 1)).filter satB = (Ss.take i).filter satB ++ [R] := by
          rw [etake, List.filter_append, List.filter_cons, if_pos (satB_iff.mpr hv), List.filter_nil]
        have hTR : TabR H3 t R (("0" : Str) :: ns) := ⟨ns', ra, rk, rv, T'.G, T'.T, hv, fun x hx => (T'.names x).mpr hx, fun x hx => by
          obtain ⟨r, hr', e⟩ := (T'.names x).mp hx
          rcases e with e | e
          · exact e ▸ (iR r hr').1
          · exact e ▸ (iR r hr').2⟩
        have ho3 := s4 _ _ ho
        obtain ⟨ts', q1, q2, q3⟩ := Tabs.snoc ho3 hlen (fun j t R' a b => (htab j t R' a b).same s4) hTR
        refine ⟨.ref o, rfl, .inl ⟨rfl, _, SqL.of ho3⟩, _, rfl, o, _, _, rfl, rfl, ho3, by rw [List.length_map]; exact small1000 (by omega), ?_⟩
        exact ⟨_, _, ts', rfl, (s3.trans s4).later no0, (s13.trans s4).later no, q1, by rw [ef]; exact q2, fun j t R' a b => q3 j t R' a (by rw [ef] at b; exact b)⟩
    · rintro σ H2 ⟨y4, y5, ts, rfl, s3, s13, ho, hlen, htab⟩
      rw [List.length_map, hcl, List.take_length] at hlen htab
      exact ⟨.ref o, rfl, q H2 o s3 no0 ⟨ts, ho, hlen, htab⟩⟩
end
end Lo
namespace Lo
open PySem L2
abbrev sRegion : Stmt := top 42
abbrev sRInit : Stmt := inClass sRegion 0
abbrev sRNothing : Stmt := inClass sRegion 2
abbrev sRContains : Stmt := inClass sRegion 9
abbrev sROver : Stmt := inClass sRegion 15
abbrev sRFirst : Stmt := inClass sRegion 19
abbrev sRegionOf : Stmt := top 43
theorem ftn : ¬ (("_names" : Str) = "_tables") := by decide +kernel
def rflds (np tl : Addr) : List (Str × V) := putF "_tables" (.ref tl) (putF "_names" (.ref np) [])
theorem rflds_eq (np tl : Addr) : rflds np tl = ([("_names", V.ref np), ("_tables", V.ref tl)] : List (Str × V)) := by
  show (if ("_names" : Str) = "_tables" then [(("_names" : Str), V.ref tl)] else (("_names" : Str), V.ref np) :: putF "_tables" (V.ref tl) []) = _
  rw [if_neg ftn]
  rfl
theorem rflds_n (np tl : Addr) : (rflds np tl).lookup ("_names" : Str) = some (.ref np) := by
  unfold rflds
  rw [lookup_putF, if_neg ftn, lookup_putF, if_pos rfl]
theorem rflds_t (np tl : Addr) : (rflds np tl).lookup ("_tables" : Str) = some (.ref tl) := by
  unfold rflds
  rw [lookup_putF, if_pos rfl]
theorem rflds_no (np tl : Addr) {m : Str} (h1 : ¬ m = "_names") (h2 : ¬ m = "_tables") : (rflds np tl).lookup m = none := by
  unfold rflds
  rw [lookup_putF, if_neg h2, lookup_putF, if_neg h1]
  rfl
theorem rflds_put (np tl t : Addr) : putF "_tables" (.ref t) (rflds np tl) = rflds np t := by
  rw [rflds_eq, rflds_eq]
  show (if ("_names" : Str) = "_tables" then _ else (("_names" : Str), V.ref np) :: (if ("_tables" : Str) = "_tables" then [(("_tables" : Str), V.ref t)] else _)) = _
  rw [if_neg ftn, if_pos rfl]
/-- a region at p -/
structure RegAt (C : Addr) (H : Hp) (p np tl : Addr) (ns : List Str) (Rs : List (List SRow)) (zs : List Str) : Prop where
  ob : ∃ dx, H p = some (.ins C dx (rflds np tl))
  nm : H np = some (.tup (ns.map V.str))
  tb : Tabs H tl Rs zs
theorem RegAt.same {C : Addr} {H H' : Hp} {p np tl : Addr} {ns : List Str} {Rs : List (List SRow)} {zs : List Str} (s : Same H H') (h : RegAt C H p np tl ns Rs zs) : RegAt C H' p np tl ns Rs zs := by
  obtain ⟨⟨dx, h1⟩, h2, h3⟩ := h
  exact ⟨⟨dx, s _ _ h1⟩, s _ _ h2, h3.same s⟩
/-- what the text asks of the class -/
structure RTxt (K : PySem.W.Frag) (mg : Str → Option Value) (C fI : Addr) : Prop where
  cl : Cls K C
  nN : NoAttr K C "_names"
  nT : NoAttr K C "_tables"
  make : Mk K C fI
  mg : mg "Region" = some (.ref C)
/-- an object that is new: what stood ahead of it stands -/
theorem same_new {H H' : Hp} {p : Addr} (np : H p = none) (h : ∀ b o, H b = some o → b ≠ p → H' b = some o) : Same H H' := fun b o e => h b o e (ne_of_none e np)
section
variable {P : Program} {w : World} {K : PySem.W.Frag} {mg : Str → Option Value} {base : Heap}
/-! ### Region.__init__ -/
def spRInit (K : PySem.W.Frag) (C : Addr) : Sp := fun vs H Q _ => ∃ (p np L dx : Addr) (ns : List Str) (Ss : List (List SRow)), vs = [.ref p, .ref np, .ref L] ∧ H p = some (.ins C dx []) ∧ SqT K H np (ns.map V.str) ∧ NamesR ns ∧ Syss H L Ss ∧ Ss.length ≤ 100 ∧ (∀ R ∈ Ss, Good R ∧ ∀ r ∈ R, In2 ns r) ∧
  ∀ H' np' tl, (∀ b o, H b = some o → b ≠ p → H' b = some o) → RegAt C H' p np' tl ns (Ss.filter satB) (("0" : Str) :: ns) → Q .non H'
theorem scRInit : FnScope ["self", "names", "systems"] ["self", "names", "systems"] (defScope sRInit) := ⟨rfl, rfl, rfl, by decide +kernel, rfl, by decide +kernel, by decide +kernel⟩
theorem ok_rinit {f fN fT C : Addr} {fd fdN fdT : FuncData} (F : Fun K "__init__" "Region.__init__" sRInit f fd) {fI : Addr} (X : RTxt K mg C fI)
    (GN : FnOk P w K mg base CX0 3 fN fdN ["names"] (spReadN K)) (kN : PySem.W.keepIn K (.ref fN) = true) (bN : Binds K fdN ["names"] []) (gN : mg "read_names" = some (.ref fN))
    (GT : FnOk P w K mg base CX0 5 fT fdT ["names", "systems"] (spReadTs K)) (kT : PySem.W.keepIn K (.ref fT) = true) (bT : Binds K fdT ["names", "systems"] []) (gT : mg "_read_tables" = some (.ref fT)) :
    FnOk P w K mg base CX0 6 f fd ["self", "names", "systems"] (spRInit K C) := by
  refine F.ok scRInit (fun vs H Q E h => ?_) (fun cdv A outer s H vs Q E hr h => ?_)
  · obtain ⟨p, np, L, dx, ns, Ss, rfl, _⟩ := h
    rfl
  · obtain ⟨p, np, L, dx, ns, Ss, rfl, hp, hN, N, hL, few, hg, q⟩ := h
    have nd := scRInit.nd
    refine ⟨_, pss_cons (ps_fld (pv 0) (pe_call GN (hr.mono (by decide)) (by rfl) gN kN bN .nil pass0 (pa_cons (pv 1) pa_nil)) rfl)
      (pss_one (ps_fld (pv 0) (pe_call GT hr (by rfl) gT kT bT .nil pass0 (pa_cons (pe_fld (pv 0) rfl) (pa_cons (pv 2) pa_nil))) rfl)), ?_⟩
    refine ⟨.ref np, rfl, np, ns, rfl, hN, N, fun H1 np1 s1 nnp hnp1 => ?_⟩
    have hp1 := s1 _ _ hp
    refine ⟨_, rfl, p, C, dx, [], rfl, hp1, X.cl, X.nN, by decide, ?_⟩
    have npn : np1 ≠ p := fun e => by
      rw [e, hp] at nnp
      cases nnp
    have hnp2 : upd H1 p (.ins C dx (putF "_names" (.ref np1) [])) np1 = some (.tup (ns.map V.str)) := by
      rw [upd_ne npn]
      exact hnp1
    have out : ∀ {b : Addr} {o : HO}, H1 b = some o → b ≠ p → upd H1 p (.ins C dx (putF "_names" (.ref np1) [])) b = some o := fun {b o} e n => by
      rw [upd_ne n]
      exact e
    have hL2 : Syss (upd H1 p (.ins C dx (putF "_names" (.ref np1) []))) L Ss := by
      obtain ⟨ls, h1, h2, h3⟩ := hL.same s1
      refine ⟨ls, out h1 (ne_of h1 hp1 (by intro z; cases z)), h2, fun i l R a b => ?_⟩
      obtain ⟨ps, g1, g2, g3⟩ := h3 i l R a b
      refine ⟨ps, out g1 (ne_of g1 hp1 (by intro z; cases z)), g2, fun j q r c d => ?_⟩
      have z := g3 j q r c d
      exact out z (ne_of z hp1 (by intro y; cases y))
    refine ⟨.ref p, rfl, p, C, dx, _, _, rfl, upd_same, X.cl, X.nN, by rw [lookup_putF, if_pos rfl], .ref L, rfl, np1, L, ns, Ss, rfl, SqT.of hnp2, hL2, few, hg, fun H3 tl s3 ntl hT => ?_⟩
    have hp3 := s3 _ _ (upd_same (H := H1) (a := p) (o := HO.ins C dx (putF "_names" (.ref np1) [])))
    refine ⟨_, rfl, p, C, dx, _, rfl, hp3, X.cl, X.nT, by show 1 < 1000; decide, ?_⟩
    refine q _ np1 tl (fun b o e n => ?_) ⟨⟨dx, upd_same⟩, ?_, ?_⟩
    · rw [upd_ne n]
      exact s3 _ _ (out (s1 _ _ e) n)
    · rw [upd_ne npn]
      exact s3 _ _ hnp2
    · obtain ⟨ts, h1, h2, h3⟩ := hT
      have off : ∀ {b : Addr} {kvs : List (Key × V)}, H3 b = some (.dK kvs) → upd H3 p (.ins C dx (putF "_tables" (.ref tl) (putF "_names" (.ref np1) []))) b = some (.dK kvs) := fun {b kvs} e => by
        rw [upd_ne (ne_of e hp3 (by intro z; cases z))]
        exact e
      refine ⟨ts, ?_, h2, fun i t R a b => ?_⟩
      · rw [upd_ne (ne_of h1 hp3 (by intro z; cases z))]
        exact h1
      · obtain ⟨ns', ra, rk, rv, TG, g2, g3, g4, g5⟩ := h3 i t R a b
        exact ⟨ns', ra, rk, rv, ⟨off TG.dict, TG.nd, fun x hx => off (TG.row x hx), TG.off, TG.rnd⟩, g2, g3, g4, g5⟩
/-! ### region_of -/
def spRegionOf (K : PySem.W.Frag) (C : Addr) : Sp := fun vs H Q _ => ∃ (np tl : Addr) (ns : List Str) (Rs : List (List SRow)) (zs : List Str), vs = [.ref np, .ref tl] ∧ SqT K H np (ns.map V.str) ∧ NamesR ns ∧ Tabs H tl Rs zs ∧
  ∀ H' p np', Same H H' → H p = none → RegAt C H' p np' tl ns Rs zs → Q (.ref p) H'
theorem scRegionOf : FnScope ["names", "tables", "made"] ["names", "tables"] (defScope sRegionOf) := ⟨rfl, rfl, rfl, by decide +kernel, rfl, by decide +kernel, by decide +kernel⟩
theorem ok_regionof {f fI C : Addr} {fd fdI : FuncData} (F : Fun K "region_of" "region_of" sRegionOf f fd) (X : RTxt K mg C fI) (GI : FnOk P w K mg base CX0 6 fI fdI ["self", "names", "systems"] (spRInit K C)) (bI : Binds K fdI ["self", "names", "systems"] []) :
    FnOk P w K mg base CX0 8 f fd ["names", "tables"] (spRegionOf K C) := by
  refine F.ok scRegionOf (fun vs H Q E h => ?_) (fun cdv A outer s H vs Q E hr h => ?_)
  · obtain ⟨np, tl, ns, Rs, zs, rfl, _⟩ := h
    rfl
  · obtain ⟨np, tl, ns, Rs, zs, rfl, hN, N, hT, q⟩ := h
    have nd := scRegionOf.nd
    refine ⟨_, pss_cons (ps_set (i := 2) nd rfl (.inl rfl) (pe_make X.make GI hr (by rfl) X.mg bI .nil pass0 (pa_cons (pv 0) (pa_cons (pe_lst pa_nil) pa_nil))))
      (pss_cons (ps_fld (pv 2) (pv 1) rfl) (pss_one (ps_ret (pv 2)))), ?_⟩
    refine ⟨_, rfl, Nat.zero_le _, fun e ne p dx nx ndx nex => ?_⟩
    have sE := same_upd (o := HO.lst []) ne
    have sD := same_upd (o := HO.own p) ndx
    have nx2 : upd (upd H e (.lst [])) dx (.own p) p = none := by
      rw [upd_ne nex.symm]
      exact nx
    have sP := same_upd (o := HO.ins C dx []) nx2
    have s1 := (sE.trans sD).trans sP
    have he := (sD.trans sP) _ _ (upd_same (H := H) (a := e) (o := HO.lst []))
    refine ⟨p, np, e, dx, ns, [], rfl, upd_same, same_tup s1 hN, N, ⟨[], he, rfl, fun i l R a _ => nomatch a⟩, Nat.zero_le _, fun R h => absurd h List.not_mem_nil, fun H2 np' tl' keep RA => ⟨rfl, ?_⟩⟩
    obtain ⟨⟨dx', hp2⟩, hn2, _⟩ := RA
    have npo : H p = none := by
      cases z : H p with
      | none => rfl
      | some o =>
        have y := sE _ _ z
        rw [nx] at y
        cases y
    have s2 : Same H H2 := same_new npo fun b o z n => keep b o (s1 _ _ z) n
    refine ⟨_, rfl, _, rfl, p, C, dx', _, rfl, hp2, X.cl, X.nT, by rw [rflds_eq]; show 2 < 1000; decide, ?_⟩
    rw [rflds_put]
    refine ⟨_, rfl, q _ p np' (s2.later npo) npo ⟨⟨dx', upd_same⟩, ?_, ?_⟩⟩
    · rw [upd_ne (ne_of hn2 hp2 (by intro z; cases z))]
      exact hn2
    · obtain ⟨ts, h1, h2, h3⟩ := hT.same s2
      have off : ∀ {b : Addr} {kvs : List (Key × V)}, H2 b = some (.dK kvs) → upd H2 p (.ins C dx' (rflds np' tl)) b = some (.dK kvs) := fun {b kvs} z => by
        rw [upd_ne (ne_of z hp2 (by intro y; cases y))]
        exact z
      refine ⟨ts, ?_, h2, fun i t R a b => ?_⟩
      · rw [upd_ne (ne_of h1 hp2 (by intro y; cases y))]
        exact h1
      · obtain ⟨ns', ra, rk, rv, TG, g2, g3, g4, g5⟩ := h3 i t R a b
        exact ⟨ns', ra, rk, rv, ⟨off TG.dict, TG.nd, fun x hx => off (TG.row x hx), TG.off, TG.rnd⟩, g2, g3, g4, g5⟩
end
end Lo
/-! `in` of a class of the program; a class held by a local name, called -/
namespace Lo
open PySem PySem.Spec L2 PyProof.Rows
section
variable {X : Cx} {CX : CXT} {k i : Nat} {f C : Addr} {fd : FuncData} {ps : List Str} {ds : List Value} {dvs : List V} {sp : Sp} {E : XK} {x : Str} {e : Expr} {es : List Expr} {t : TA} {p pos : Pos}
theorem contains_own {M : Model} {A : Around} {E : Value → Shared → Prop} {s : Shared} {K : PySem.W.Frag} {x C f : Addr} {ox : Obj} {od : Option Obj} {v : Value} {Q : Bool → Shared → Prop} (X : K.In s.heap) (I : PySem.W.InstAt s.heap x ox C od)
    (hs : PySem.W.findIn K (.ref C) "__contains__" = some (some (.ref f))) (hf : PySem.W.isFn K (.ref f) = true) (h : wpAny M A (call (.ref f) [.ref x, v]) (fun r s' => wpAny M A (truthy r) Q E s') E s) : wpAny M A (contains (.ref x) v) Q E s := by
  unfold contains
  refine wpAny_holding (wpAny_bind (wpAny_bind (I.type.here ((PySem.W.looks_findIn X hs).here ?_))))
  rw [if_neg (by simp)]
  exact wpAny_bind (PySem.W.unlessNone_K X I hs hf h)
/-- y not in x, x an instance of the class at C -/
def rNotInO (C : Addr) (sp : Sp) (E : XK) : R2 := fun x y H Q => ∃ a dx fs, y = .ref a ∧ H a = some (.ins C dx fs) ∧ sp [y, x] H (fun v H' => ∃ b, v = .bl b ∧ Q (.bl (!b)) H') E
theorem op_notInO (hs : PySem.W.findIn X.K (.ref C) "__contains__" = some (some (.ref f))) (hf : PySem.W.isFn X.K (.ref f) = true) (F : FnOk X.prog X.w X.K X.mg X.base CX k f fd ps sp) (hr : Room k X.A) (hb : Binds X.K fd ps []) (hx : Passes CX X E) :
    OpR X (compareOp .NotIn) (rNotInO C sp E) := by
  rintro pins s σ H x y v u Q I rx ry ⟨a, dx, fs, rfl, ha, q⟩
  cases ry
  obtain ⟨mA, O, _⟩ := ins_get I.hok ha
  obtain ⟨od, J, _⟩ := O.look
  show wpAny _ _ (do let b ← contains (.ref a) v; pure (Value.bool (!b))) _ _ s
  refine wpAny_bind (contains_own I.kIn J hs hf ?_)
  refine wpAny_mono (run_fn (us := [.ref a, v]) (vs := [.ref a, x]) F hr hb .nil hx I (.cons rfl (.cons rx .nil)) (by rw [List.append_nil]; exact q)) (fun w s' hw => ?_) fun _ _ z => z
  obtain ⟨z, H', J', rz, b, ez, qz⟩ := hw
  subst ez
  cases (show w = Value.bool b from rz)
  exact wpAny_pure (wpAny_pure ⟨.bl (!b), H', J', rfl, qz⟩)
/-- f(e, ..), f a local name that holds the class at C -/
def tMakeV (i : Nat) (C : Addr) (sp : Sp) (dvs : List V) (E : XK) (t : TA) : TE := fun σ H Q => σ[i]? = some (some (.ref C)) ∧ tMake C sp dvs E t σ H Q
theorem pe_makeV (M : Mk X.K C f) (F : FnOk X.prog X.w X.K X.mg X.base CX k f fd ps sp) (hr : Room (k + 1) X.A) (hb : Binds X.K fd ps ds) (hd : Vals dvs ds) (hx : Passes CX X E) (hN : X.N[i]? = some x) (hv : Vis X.env.scope x) (ha : PA X (e :: es) t)
    (hdb : (x == ("__debug__" : Str)) = false := by decide) (hcd : (x == ("__classdict__" : Str)) = false := by decide)
    (he : starEach (e :: es) X.env = (false, eval e X.env) :: starEach es X.env := by rfl) (hpl : (backTo pos (starEach es X.env)).any (·.1) = false := by rfl) : PE X (.Call (.Name x p) (e :: es) [] pos) (tMakeV i C sp dvs E t) := by
  refine ⟨fun pins s σ H Q I ⟨hs, h⟩ => ?_⟩
  refine wpAny_Call_Name_kw (thn ((pe_var (pos := p) (i := i) hN hv hdb hcd).run pins s σ H (fun v H1 => v = .ref C ∧ H1 = H) I ⟨.ref C, hs, rfl, rfl⟩) fun u s1 ⟨v, H1, I1, r1, ev, eH⟩ => ?_)
  subst ev
  rw [eH] at I1
  cases r1
  refine PySem.W.callWith_K (h₀ := X.base) I.ok.mod.kin M.kp (thn (ha.run pos pins s1 σ H _ I1 h) fun us s2 ⟨vs, H2, I2, r, q⟩ => ⟨I2.kIn, ?_⟩) he hpl
  exact run_make M F hr hb hd hx I2 r q
end
end Lo
namespace Lo
open PySem L2
section
variable {P : Program} {w : World} {K : PySem.W.Frag} {mg : Str → Option Value} {base : Heap}
/-! ### __contains__ -/
def spContains (C : Addr) : Sp := fun vs H Q _ => ∃ (p d np tl : Addr) (ns : List Str) (Rs : List (List SRow)) (zs ps : List Str) (val : Str → Int), vs = [.ref p, .ref d] ∧ RegAt C H p np tl ns Rs zs ∧ NamesR ns ∧ H d = some (.dK (dS ps fun x => .int (val x))) ∧ (∀ x ∈ ns, x ∈ ps) ∧ (∀ x ∈ zs, x ∈ (("0" : Str) :: ns)) ∧
  ∀ H' b, Same H H' → (b = true ↔ ∃ R ∈ Rs, Sat R (put val ("0" : Str) 0)) → Q (.bl b) H'
abbrev nContains : List Str := ["self", "point", "values", "table", "name"]
theorem scContains : FnScope nContains ["self", "point"] (defScope sRContains) := ⟨rfl, rfl, rfl, by decide +kernel, rfl, by decide +kernel, by decide +kernel⟩
theorem ok_contains {f fS C fI : Addr} {fd fdS : FuncData} (F : Fun K "__contains__" "Region.__contains__" sRContains f fd) (X : RTxt K mg C fI) (GS : FnOk P w K mg base CX0 1 fS fdS ["point", "table"] spSolvesT) (kS : PySem.W.keepIn K (.ref fS) = true) (bS : Binds K fdS ["point", "table"] []) (gS : mg "solves" = some (.ref fS)) :
    FnOk P w K mg base CX0 2 f fd ["self", "point"] (spContains C) := by
  refine F.ok scContains (fun vs H Q E h => ?_) (fun cdv A outer s H vs Q E hr h => ?_)
  · obtain ⟨p, d, np, tl, ns, Rs, zs, ps, val, rfl, _⟩ := h
    rfl
  · obtain ⟨p, d, np, tl, ns, Rs, zs, ps, val, rfl, RA, N, hd, hps, hzs, q⟩ := h
    have nd := scContains.nd
    have hu := hu_of hr
    obtain ⟨⟨dx, hp⟩, hn, hT⟩ := id RA
    have few := N.few
    refine ⟨_, pss_cons (ps_setDc (i := 2) (own := [("name", 4)]) (g := gName 4) (tt := tYes) rfl nd rfl rfl (sw_dict rfl rfl rfl (by decide +kernel)) (pi_tup (pe_fld (pv 0) rfl)) (blkOk_by (N := nContains) (sc := defScope sRContains) (by decide +kernel))
          (fun _ _ _ _ _ => pg_name (i := 4) nd rfl (.inl rfl)) (fun _ _ _ _ _ => pts_nil) (fun _ _ _ _ _ => pv 4) (fun _ _ _ _ _ => pe_dget hu (pv 1) (pv 4) (fun _ _ => rfl)))
      (pss_cons (ps_dput hu (pv 2) pe_str pe_int rfl)
      (pss_cons (ps_for PassesOwn.never rfl (pi_list (pe_fld (pv 0) rfl)) (pg_name (i := 3) nd rfl (.inl rfl))
        (pss_one (ps_if (pt_val (pe_call GS hr (by rfl) gS kS bS .nil pass0 (pa_cons (pv 2) (pa_cons (pv 3) pa_nil)))) (pss_one (ps_ret pe_bl)) pss_nil)))
      (pss_one (ps_ret pe_bl)))), ?_⟩
    refine ⟨_, rfl, p, C, dx, _, _, rfl, hp, X.cl, X.nN, rflds_n _ _, np, rfl, ⟨_, SqT.of hn⟩, fun vd nvd => ?_⟩
    refine ⟨fun i m H' => m = ns.length - i ∧ i ≤ ns.length ∧ Same H H' ∧ H' vd = some (.dK (dS (ns.take i) fun x => .int (val x))), ⟨_, rfl, Nat.zero_le _, same_upd nvd, upd_same⟩, ?_⟩
    rintro i m H1 ⟨rfl, hi, s1, hv1⟩
    by_cases hlt : i < ns.length
    · have hx : (ns.map V.str)[i]? = some (.str ns[i]) := by
        rw [List.getElem?_map, List.getElem?_eq_getElem hlt]
        rfl
      refine .inr ⟨⟨_, _, SqT.of (s1 _ _ hn), hx⟩, fun H' => i + 1 ≤ ns.length ∧ Same H H' ∧ H' vd = some (.dK (dS (ns.take (i + 1)) fun x => .int (val x))), fun H' hN => ⟨ns.length - (i + 1), by omega, rfl, hN⟩, fun x H' hy => ?_⟩
      obtain ⟨rfl, hy⟩ := hy
      have ex : x = .str ns[i] := Option.some.inj ((hy _ (SqT.of (s1 _ _ hn))).symm.trans hx)
      subst ex
      refine ⟨rfl, ?_⟩
      unfold tYes
      refine iteT ?_
      have hin : ns[i] ∈ ns := List.getElem_mem hlt
      refine ⟨_, rfl, .ref d, rfl, _, rfl, d, _, rfl, dget (s1 _ _ hd) (hps _ hin), ?_⟩
      have hout : ns[i] ∉ ns.take i := fun m => by
        have h1 := N.nd
        rw [← List.take_append_drop i ns] at h1
        exact (List.nodup_append.mp h1).2.2 _ m _ (by rw [List.drop_eq_getElem_cons hlt]; exact List.mem_cons_self) rfl
      have e1 : addN (ns.take i) ns[i] = ns.take (i + 1) := by
        unfold addN
        rw [if_neg hout, List.take_add_one, List.getElem?_eq_getElem hlt]
        rfl
      refine ⟨_, Sum.inr ns[i], rfl, hv1, ?_, hlt, s1.later nvd, ?_⟩
      · rw [dS_len, List.length_take]
        exact small1000 (by omega)
      · rw [upd_same, dS_put, e1]
        congr 2
        refine dS_congr fun x _ => ?_
        by_cases k : x = ns[i]
        · rw [k, put_at]
        · rw [put_off k]
    · have ei : i = ns.length := by omega
      subst ei
      rw [List.take_length] at hv1
      refine .inl ⟨⟨_, SqT.of (s1 _ _ hn), by rw [List.length_map]; exact Nat.le_refl _⟩, ?_⟩
      refine ⟨_, rfl, vd, _, rfl, dput ("0" : Str) (.int 0) hv1 (by omega), ?_⟩
      rw [put_map (fun n : Int => V.int n)]
      have s2 : Same H (upd H1 vd (.dK (dS (addN ns ("0" : Str)) fun x => .int (put val ("0" : Str) 0 x)))) := s1.later nvd
      have hv2 := upd_same (H := H1) (a := vd) (o := HO.dK (dS (addN ns ("0" : Str)) fun x => V.int (put val ("0" : Str) 0 x)))
      generalize upd H1 vd (.dK (dS (addN ns ("0" : Str)) fun x => .int (put val ("0" : Str) 0 x))) = H2 at s2 hv2 ⊢
      obtain ⟨ts, h1, h2, h3⟩ := hT
      refine ⟨_, rfl, p, C, dx, _, _, rfl, s2 _ _ hp, X.cl, X.nT, rflds_t _ _, tl, rfl, ⟨_, SqL.of (s2 _ _ h1)⟩, for_list (K := K) (a := tl) (xs := ts.map V.ref) (fun i σ H' => ∃ (y3 : Option V), σ = [some (.ref p), some (.ref d), some (.ref vd), y3, none] ∧ Same H2 H' ∧ ∀ (j : Nat) (R : List SRow), j < i → Rs[j]? = some R → ¬ Sat R (put val ("0" : Str) 0))
        ⟨none, rfl, Same.refl _, fun j R h => absurd h (Nat.not_lt_zero _)⟩ (fun i σ H' _ ⟨_, _, sm, _⟩ => SqL.of (sm _ _ (s2 _ _ h1))) ?_ ?_⟩
      · rintro j v σ H3 hj ⟨y3, rfl, s3, prev⟩
        obtain ⟨t, rfl, ht, hjt⟩ := pick_ref hj
        obtain ⟨R, hR⟩ : ∃ R, Rs[j]? = some R := ⟨_, List.getElem?_eq_getElem (by omega)⟩
        refine ⟨_, rfl, _, rfl, vd, t, addN ns ("0" : Str), put val ("0" : Str) 0, R, zs, H, rfl, s2.trans s3, nvd, h3 j t R ht hR, s3 _ _ hv2, fun x hx => ?_, fun H4 b s4 hb => ?_⟩
        · rcases List.mem_cons.mp (hzs x hx) with e | e
          · exact mem_addN.mpr (.inr e)
          · exact mem_addN.mpr (.inl e)
        · refine ⟨b, rfl, ?_⟩
          cases b with
          | true => exact iteT (q H4 true ((s2.trans s3).trans s4) ⟨fun _ => ⟨R, List.mem_of_getElem? hR, hb.mp rfl⟩, fun _ => rfl⟩)
          | false =>
            refine iteF ⟨_, rfl, s3.trans s4, fun j' R' hj' hR' hs => ?_⟩
            by_cases e : j' = j
            · subst e
              rw [hR] at hR'
              have := Option.some.inj hR'
              subst this
              exact absurd (hb.mpr hs) Bool.false_ne_true
            · exact prev j' R' (by omega) hR' hs
      · rintro σ H3 ⟨y3, rfl, s3, prev⟩
        rw [List.length_map, h2] at prev
        refine q H3 false (s2.trans s3) ⟨(fun z => nomatch z), fun ⟨R, hR, hs⟩ => ?_⟩
        obtain ⟨j, hj, e⟩ := List.getElem_of_mem hR
        exact absurd hs (prev j R hj (by rw [List.getElem?_eq_getElem hj, e]))
end
end Lo
namespace Lo
open PySem L2
def OkS (ns : List Str) (m : Nat) (R : List SRow) : Prop := (∀ r ∈ R, Good1 r ∧ OkR r ∧ In2 ns r) ∧ R.length ≤ m
abbrev sLParts : Stmt := top 55
theorem Sys.cat2 {H : Hp} {p t1 t2 : Addr} {ps : List Addr} {R : List SRow} {r1 r2 : SRow} (h2 : ps.length = R.length) (h3 : ∀ (i : Nat) (q : Addr) (r : SRow), ps[i]? = some q → R[i]? = some r → RowT H q r) (e1 : RowT H t1 r1) (e2 : RowT H t2 r2)
    (hp : H p = some (.lst (ps.map V.ref ++ [.ref t1, .ref t2]))) : Sys RowT H p (R ++ [r1] ++ [r2]) := by
  refine ⟨ps ++ [t1, t2], by rw [hp, List.map_append]; rfl, by simp [h2], fun i q r hq hr => ?_⟩
  rw [List.append_assoc] at hr
  by_cases k : i < ps.length
  · rw [List.getElem?_append_left k] at hq
    rw [List.getElem?_append_left (by omega)] at hr
    exact h3 i q r hq hr
  · rw [List.getElem?_append_right (by omega)] at hq
    rw [List.getElem?_append_right (by omega), ← h2] at hr
    have hi : i - ps.length = 0 ∨ i - ps.length = 1 := by
      have := (List.getElem?_eq_some_iff.mp hq).1
      simp only [List.length_cons, List.length_nil] at this
      omega
    rcases hi with z | z
    · rw [z] at hq hr
      have a1 : t1 = q := Option.some.inj hq
      have a2 : r1 = r := Option.some.inj hr
      exact a1 ▸ a2 ▸ e1
    · rw [z] at hq hr
      have a1 : t2 = q := Option.some.inj hq
      have a2 : r2 = r := Option.some.inj hr
      exact a1 ▸ a2 ▸ e2
/-- the law's table of a system -/
def LT (H : Hp) (t : Addr) (R : List SRow) (es : List Str) : Prop := ∃ (ps : List (Str × Str)) (f : Str × Str → Int), TbAt H t es ps f ∧ ∀ a ∈ es, ∀ b ∈ es, D R a b = tbF ps f a b
theorem LT.same {H H' : Hp} {t : Addr} {R : List SRow} {es : List Str} (s : Same H H') (h : LT H t R es) : LT H' t R es := by
  obtain ⟨ps, f, T, h2⟩ := h
  exact ⟨ps, f, T.same s, h2⟩
def LTs (H : Hp) (L : Addr) (Rs : List (List SRow)) (es : List Str) : Prop := ∃ ts : List Addr, H L = some (.lst (ts.map V.ref)) ∧ ts.length = Rs.length ∧ ∀ (i : Nat) (t : Addr) (R : List SRow), ts[i]? = some t → Rs[i]? = some R → LT H t R es
theorem LTs.same {H H' : Hp} {L : Addr} {Rs : List (List SRow)} {es : List Str} (s : Same H H') (h : LTs H L Rs es) : LTs H' L Rs es := by
  obtain ⟨ts, h1, h2, h3⟩ := h
  exact ⟨ts, s _ _ h1, h2, fun i t R a b => (h3 i t R a b).same s⟩
/-- systems as data -/
def syssD (Ss : List (List SRow)) : PyData := .list (Ss.map rowsD)
theorem lay_syss : ∀ {Ss : List (List SRow)}, (∀ R ∈ Ss, ∀ r ∈ R, OkR r) → PyData.canLayAll0 (Ss.map rowsD) = true
  | [], _ => by simp [PyData.canLayAll0]
  | R :: Ss, h => by
    have h1 := shaped_rows (h R List.mem_cons_self)
    have h2 := lay_syss (Ss := Ss) fun R' m => h R' (List.mem_cons_of_mem _ m)
    have h3 := SeqAt.canLay_of_shaped h1
    simp [PyData.canLayAll0, h2, h3]
theorem deep_syss : ∀ Ss : List (List SRow), PyData.depthAll (Ss.map rowsD) ≤ 3
  | [] => by simp [PyData.depthAll]
  | R :: Ss => by
    have ih := deep_syss Ss
    have h := deep_rows R
    simp only [List.map_cons, PyData.depthAll]
    have e : (rowsD R).depth ≤ 3 := by
      unfold rowsD
      simp only [PyData.depth]
      omega
    omega
theorem shaped_syss {Ss : List (List SRow)} (h : ∀ R ∈ Ss, ∀ r ∈ R, OkR r) : SeqAt.shaped (syssD Ss) = true := by
  have d := deep_syss Ss
  unfold syssD
  simp [SeqAt.shaped, PyData.canLay0, PyData.depth, lay_syss h]
  omega
theorem eqv_syss0 (Ss : List (List SRow)) : PyData.eqv (syssD Ss) (.list []) = decide (Ss = []) := by
  unfold syssD
  cases Ss <;> simp [PyData.eqv, PyData.eqvAll]
theorem dp_lists {K : PySem.W.Frag} {H : Hp} : ∀ (ls : List Addr) (Ss : List (List SRow)), ls.length = Ss.length → (∀ (i : Nat) (l : Addr) (R : List SRow), ls[i]? = some l → Ss[i]? = some R → Sys RowT H l R) → DpAll K H (ls.map V.ref) (Ss.map rowsD)
  | [], [], _, _ => .nil
  | l :: ls, R :: Ss, hl, h => .cons (dp_sys (h 0 l R rfl rfl)) (dp_lists ls Ss (Nat.succ.inj hl) fun i p' r' h1 h2 => h (i + 1) p' r' h1 h2)
  | [], _ :: _, hl, _ => absurd hl (by simp)
  | _ :: _, [], hl, _ => absurd hl (by simp)
theorem dp_syss {K : PySem.W.Frag} {H : Hp} {L : Addr} {Ss : List (List SRow)} (h : Syss H L Ss) : Dp K H (.ref L) (syssD Ss) := by
  obtain ⟨ls, h1, h2, h3⟩ := h
  exact .lst (SqL.of h1) (dp_lists ls Ss h2 h3)
theorem OkS.good {ns : List Str} {m : Nat} {R : List SRow} (h : OkS ns m R) (hm : m ≤ 100) : Good R := ⟨fun r hr => (h.1 r hr).1, Nat.le_trans h.2 hm⟩
theorem OkS.named {ns : List Str} {m : Nat} {R : List SRow} (h : OkS ns m R) : ∀ x, Named R x → x ∈ (("0" : Str) :: ns) := fun x ⟨r, hr, e⟩ => by
  obtain ⟨_, _, i1, i2⟩ := h.1 r hr
  rcases e with e | e
  · exact e ▸ i1
  · exact e ▸ i2
theorem NamesR.nd0 {ns : List Str} (N : NamesR ns) : (("0" : Str) :: ns).Nodup := List.nodup_cons.mpr ⟨fun m => (N.ok _ m).2.1 rfl, N.nd⟩
section
variable {P : Program} {w : World} {K : PySem.W.Frag} {mg : Str → Option Value} {base : Heap}
/-! ### _law_parts -/
def spLParts (K : PySem.W.Frag) : Sp := fun vs H Q _ => ∃ (s np : Addr) (at_ most : Int) (ns : List Str), vs = [.ref s, .int at_, .ref np, .int most] ∧ Scr K H s ∧ H np = some (.tup (ns.map V.str)) ∧ Names ns ∧ 0 ≤ most ∧ most ≤ 10 ∧
  ∀ (H' : Hp) (L : Addr) (ls : List Addr) (Ss : List (List SRow)), Same H H' → H L = none → H' L = some (.lst (ls.map V.ref)) → ls.length = Ss.length → ls.Nodup → (∀ l ∈ ls, H l = none ∧ l ≠ L) → (ls.length : Int) ≤ most → (∀ (i : Nat) (l : Addr) (R : List SRow), ls[i]? = some l → Ss[i]? = some R → Sys RowT H' l R) → (∀ R ∈ Ss, OkS ns 4 R) → Q (.ref L) H'
abbrev nLParts : List Str := ["script", "at", "names", "most", "turn"]
theorem scLParts : FnScope nLParts ["script", "at", "names", "most"] (defScope sLParts) := ⟨rfl, rfl, rfl, by decide +kernel, rfl, by decide +kernel, by decide +kernel⟩
theorem ok_lparts {f fD fS : Addr} {fd fdD fdS : FuncData} (F : Fun K "_law_parts" "_law_parts" sLParts f fd) (T : Blt mg) (GD : FnOk P w K mg base CX0 1 fD fdD ["script", "at", "many"] (spDraw K)) (kD : PySem.W.keepIn K (.ref fD) = true) (bD : Binds K fdD ["script", "at", "many"] []) (gD : mg "_law_draw" = some (.ref fD))
    (GS : FnOk P w K mg base CX0 2 fS fdS ["script", "at", "names", "most"] (spSystem K)) (kS : PySem.W.keepIn K (.ref fS) = true) (bS : Binds K fdS ["script", "at", "names", "most"] []) (gS : mg "_law_system" = some (.ref fS)) :
    FnOk P w K mg base CX0 3 f fd ["script", "at", "names", "most"] (spLParts K) := by
  refine F.ok scLParts (fun vs H Q E h => ?_) (fun cdv A outer s0 H vs Q E hr h => ?_)
  · obtain ⟨s, np, a, m, ns, rfl, _⟩ := h
    rfl
  · obtain ⟨s, np, a, most, ns, rfl, hS, hN, N, hm0, hm1, q⟩ := h
    have nd := scLParts.nd
    have r1 := hr.mono (show 1 ≤ 2 by decide)
    refine ⟨_, pss_one (ps_ret (pe_lc (own := [("turn", 4)]) (g := gName 4) (tt := tYes) rfl nd (pi_range1 (by rfl) T.range (pa_cons (pe_call GD r1 (by rfl) gD kD bD .nil pass0 (pa_cons (pv 0) (pa_cons (pv 1) (pa_cons (pe_op op_add (pv 3) pe_int) pa_nil)))) pa_nil)) (blkOk_by (N := nLParts) (sc := defScope sLParts) (by decide +kernel))
      (fun _ _ _ _ _ => pg_name (i := 4) nd rfl (.inl rfl)) (fun _ _ _ _ _ => pts_nil) (fun _ _ _ _ _ => pe_call GS hr (by rfl) gS kS bS .nil pass0 (pa_cons (pv 0) (pa_cons (pe_op op_add (pe_op op_add (pv 1) pe_int) (pe_op op_mul pe_int (pv 4))) (pa_cons (pv 2) (pa_cons pe_int pa_nil))))))), ?_⟩
    refine ⟨.ref s, rfl, .int a, rfl, _, rfl, _, _, rfl, rfl, s, _, _, rfl, hS, by omega, fun H1 k s1 k0 k1 => ?_⟩
    refine ⟨_, rfl, by omega, by omega, fun c nc => ?_⟩
    have nc0 := s1.free nc
    refine lc_range (lo := 0) (fun i H' => ∃ (ls : List Addr) (Ss : List (List SRow)), Same H H' ∧ H' c = some (.lst (ls.map V.ref)) ∧ ls.length = i ∧ Ss.length = i ∧ ls.Nodup ∧ (∀ l ∈ ls, H l = none ∧ l ≠ c) ∧
        (∀ (j : Nat) (l : Addr) (R : List SRow), ls[j]? = some l → Ss[j]? = some R → Sys RowT H' l R) ∧ ∀ R ∈ Ss, OkS ns 4 R)
      ⟨[], [], s1.trans (same_upd nc), upd_same, rfl, rfl, List.nodup_nil, fun l h => absurd h List.not_mem_nil, fun j l R e => (nomatch e), fun R h => absurd h List.not_mem_nil⟩ ?_ ?_
    · rintro i H2 hi ⟨ls, Ss, s2, hc, hll, hSl, hnd, hnew, hat, hok⟩
      refine ⟨rfl, ?_⟩
      unfold tYes
      refine iteT ?_
      refine ⟨.ref s, rfl, .int a, rfl, _, _, rfl, rfl, _, rfl, _, _, rfl, rfl, .inl ⟨by decide, by decide⟩, _, _, rfl, rfl, .ref np, rfl, s, np, _, 4, ns, rfl, hS.same s2, s2 _ _ hN, N, by decide, by decide, fun H3 p rows s3 np3 hsys hg hlen hrow => ?_⟩
      have hc3 := s3 _ _ hc
      have npc : p ≠ c := fun e => by
        rw [e, hc] at np3
        cases np3
      have pout : p ∉ ls := fun m => by
        obtain ⟨j, hj, e⟩ := List.getElem_of_mem m
        obtain ⟨ps, g1, _⟩ := hat j p (Ss[j]'(by omega)) (by rw [List.getElem?_eq_getElem hj, e]) (List.getElem?_eq_getElem (by omega))
        rw [np3] at g1
        cases g1
      have out : ∀ {b : Addr} {R' : List SRow}, Sys RowT H3 b R' → b ≠ c → Sys RowT (upd H3 c (.lst (ls.map V.ref ++ [.ref p]))) b R' := fun {b R'} ⟨ps, h1, h2, h3⟩ nb => ⟨ps, by rw [upd_ne nb]; exact h1, h2, fun i q r a b => by
          have z := h3 i q r a b
          show upd H3 c _ q = _
          rw [upd_ne (ne_of z hc3 (by intro z; cases z))]
          exact z⟩
      refine ⟨_, hc3, by rw [List.length_map, hll]; exact small1000 (by omega), ls ++ [p], Ss ++ [rows], (s2.trans s3).later nc0, by rw [upd_same, List.map_append]; rfl, by rw [List.length_append, hll]; rfl, by rw [List.length_append, hSl]; rfl, ?_, fun l hl => ?_, fun j l R hl hR => ?_, fun R hR => ?_⟩
      · exact List.nodup_append.mpr ⟨hnd, List.nodup_cons.mpr ⟨List.not_mem_nil, List.nodup_nil⟩, fun x hx y hy e => pout (List.mem_singleton.mp hy ▸ e ▸ hx)⟩
      · rcases List.mem_append.mp hl with m | m
        · exact hnew l m
        · rw [List.mem_singleton.mp m]
          exact ⟨s2.free np3, npc⟩
      · by_cases k : j < i
        · rw [List.getElem?_append_left (by omega)] at hl
          rw [List.getElem?_append_left (by omega)] at hR
          exact out ((hat j l R hl hR).sameT s3) (hnew l (List.mem_of_getElem? hl)).2
        · have hj2 : j = i := by
            have := (List.getElem?_eq_some_iff.mp hl).1
            rw [List.length_append, List.length_singleton] at this
            omega
          subst hj2
          rw [List.getElem?_append_right (by omega), hll, Nat.sub_self] at hl
          rw [List.getElem?_append_right (by omega), hSl, Nat.sub_self] at hR
          have e1 : p = l := Option.some.inj hl
          have e2 : rows = R := Option.some.inj hR
          subst e1 e2
          exact out hsys npc
      · rcases List.mem_append.mp hR with m | m
        · exact hok R m
        · rw [List.mem_singleton.mp m]
          exact ⟨fun r hr => ⟨hg.row r hr, (hrow r hr).1, (hrow r hr).2⟩, by omega⟩
    · rintro H2 ⟨ls, Ss, s2, hc, hll, hSl, hnd, hnew, hat, hok⟩
      exact q H2 c ls Ss s2 nc0 hc (by omega) hnd hnew (by omega) hat hok
end
end Lo
/-! Systems as sets of values: same solutions, closed tables, one system within another, hulls, parts cut off, names left out. -/
namespace Lo
section
variable {α : Type} [DecidableEq α]
variable {R O : List (Row α)} {v : α → Int}
/-- two systems with the same solutions -/
def SameS (R O : List (Row α)) : Prop := ∀ u, Sat R u ↔ Sat O u
theorem told_congr (h : SameS R O) {a b : α} {k : Int} : Told R a b k ↔ Told O a b k := ⟨fun t u hu => t u ((h u).mpr hu), fun t u hu => t u ((h u).mp hu)⟩
theorem best_congr (h : SameS R O) {a b : α} {r : Option Int} : Best R a b r ↔ Best O a b r := by
  unfold Best
  constructor
  · rintro ⟨h1, h2⟩
    exact ⟨fun k e => (told_congr h).mp (h1 k e), fun n e t => h2 n e ((told_congr h).mpr t)⟩
  · rintro ⟨h1, h2⟩
    exact ⟨fun k e => (told_congr h).mpr (h1 k e), fun n e t => h2 n e ((told_congr h).mp t)⟩
theorem d_congr (hv : Sat R v) (h : SameS R O) (a b : α) : D R a b = D O a b := (d_of ((h v).mp hv) ((best_congr h).mp (d_best hv a b))).symm
theorem sat_app {u : α → Int} {q : Row α} : Sat (R ++ [q]) u ↔ Sat R u ∧ u q.1 - u q.2.1 ≤ q.2.2 :=
  ⟨fun h => ⟨fun r hr => h r (List.mem_append_left _ hr), h q (List.mem_append_right _ (List.mem_singleton.mpr rfl))⟩, fun ⟨h1, h2⟩ r hr => (List.mem_append.mp hr).elim (h1 r) fun m => List.mem_singleton.mp m ▸ h2⟩
/-- the rows of a table -/
def entr (ns : List α) (rk : α → List α) (rv : α → α → Int) : List (Row α) := ns.flatMap fun x => (rk x).map fun y => (x, y, rv x y)
theorem mem_entr {ns : List α} {rk : α → List α} {rv : α → α → Int} {q : Row α} : q ∈ entr ns rk rv ↔ q.1 ∈ ns ∧ q.2.1 ∈ rk q.1 ∧ q.2.2 = rv q.1 q.2.1 := by
  unfold entr
  rw [List.mem_flatMap]
  constructor
  · rintro ⟨x, hx, h⟩
    obtain ⟨y, hy, rfl⟩ := List.mem_map.mp h
    exact ⟨hx, hy, rfl⟩
  · rintro ⟨h1, h2, h3⟩
    exact ⟨q.1, h1, List.mem_map.mpr ⟨q.2.1, h2, by rw [← h3]⟩⟩
/-- a table with all that follows -/
structure Shut (ns : List α) (rk : α → List α) (rv : α → α → Int) : Prop where
  self : ∀ x ∈ ns, x ∈ rk x ∧ rv x x = 0
  sub : ∀ x ∈ ns, ∀ y ∈ rk x, y ∈ ns
  tri : ∀ x ∈ ns, ∀ y ∈ rk x, ∀ z ∈ rk y, z ∈ rk x ∧ rv x z ≤ rv x y + rv y z
variable {ns : List α} {rk : α → List α} {rv : α → α → Int}
/-- it tells of its own rows the greatest values -/
theorem Shut.tells (S : Shut ns rk rv) (hv : Sat (entr ns rk rv) v) {x : α} (hx : x ∈ ns) (y : α) : D (entr ns rk rv) x y = if y ∈ rk x then some (rv x y) else none := by
  refine d_of hv (closed_best (a := x) (f := fun y => if y ∈ rk x then some (rv x y) else none) ?_ (fun y k e => ?_) (fun q hq k e => ?_) hv y)
  · show (if x ∈ rk x then some (rv x x) else none) = some 0
    rw [if_pos (S.self x hx).1, (S.self x hx).2]
  · split at e
    · rename_i m
      cases e
      exact told_own (mem_entr.mpr ⟨hx, m, rfl⟩)
    · cases e
  · obtain ⟨h1, h2, h3⟩ := mem_entr.mp hq
    split at e
    · rename_i m
      cases e
      obtain ⟨t1, t2⟩ := S.tri x hx q.1 m q.2.1 h2
      exact ⟨_, if_pos t1, by rw [h3]; exact t2⟩
    · cases e
/-- the table of a system has its solutions -/
theorem entr_same (hv : Sat R v) (T : ∀ x ∈ ns, ∀ y, D R x y = if y ∈ rk x then some (rv x y) else none) (nm : ∀ r ∈ R, r.1 ∈ ns) : SameS R (entr ns rk rv) := fun u => by
  constructor
  · intro hu q hq
    obtain ⟨h1, h2, h3⟩ := mem_entr.mp hq
    have := T q.1 h1 q.2.1
    rw [if_pos h2] at this
    rw [h3]
    exact d_told hv this u hu
  · intro hu r hr
    have hn := nm r hr
    obtain ⟨c, ec, lc⟩ := d_row hv (show (r.1, r.2.1, r.2.2) ∈ R from hr)
    have := T r.1 hn r.2.1
    rw [ec] at this
    split at this
    · rename_i m
      have e := Option.some.inj this
      have := hu (r.1, r.2.1, rv r.1 r.2.1) (mem_entr.mpr ⟨hn, m, rfl⟩)
      dsimp only at this
      omega
    · cases this
/-- and all that follows -/
theorem entr_shut (hv : Sat R v) (T : ∀ x ∈ ns, ∀ y, D R x y = if y ∈ rk x then some (rv x y) else none) (sub : ∀ x ∈ ns, ∀ y ∈ rk x, y ∈ ns) : Shut ns rk rv where
  self := fun x hx => by
    have := T x hx x
    rw [d_self hv] at this
    split at this
    · rename_i m
      exact ⟨m, (Option.some.inj this).symm⟩
    · cases this
  sub := sub
  tri := fun x hx y hy z hz => by
    have a := T x hx y
    rw [if_pos hy] at a
    have b := T y (sub x hx y hy) z
    rw [if_pos hz] at b
    obtain ⟨k, ek, lk⟩ := d_tri hv a b
    have c := T x hx z
    rw [ek] at c
    split at c
    · rename_i m
      have := Option.some.inj c
      exact ⟨m, by omega⟩
    · cases c
/-- one system lies within another -/
def Within (R O : List (Row α)) : Prop := ∀ u, Sat R u → Sat O u
theorem within_iff (hv : Sat R v) : Within R O ↔ ∀ q ∈ O, ∃ k, D R q.1 q.2.1 = some k ∧ k ≤ q.2.2 := by
  constructor
  · intro h q hq
    exact told_d hv fun u hu => h u hu q hq
  · intro h u hu q hq
    obtain ⟨k, e, l⟩ := h q hq
    have := d_told hv e u hu
    omega
/-! ### a row more, denied -/
theorem denied {u : α → Int} {l r : α} {c : Int} : u r - u l ≤ -c - 1 ↔ ¬ u l - u r ≤ c := by omega
/-- what is cut off: the parts of a system in which a row of another fails, the first that fails told by the part -/
theorem cut_step {u : α → Int} {q : Row α} {Qs : List (Row α)} : (Sat R u ∧ ¬ Sat (q :: Qs) u) ↔ Sat (R ++ [(q.2.1, q.1, -q.2.2 - 1)]) u ∨ (Sat (R ++ [q]) u ∧ ¬ Sat Qs u) := by
  rw [sat_app, sat_app]
  have d := denied (u := u) (l := q.1) (r := q.2.1) (c := q.2.2)
  constructor
  · rintro ⟨h1, h2⟩
    by_cases h : u q.1 - u q.2.1 ≤ q.2.2
    · refine .inr ⟨⟨h1, h⟩, fun z => h2 fun r hr => ?_⟩
      rcases List.mem_cons.mp hr with e | e
      · exact e ▸ h
      · exact z r e
    · exact .inl ⟨h1, d.mpr h⟩
  · rintro (⟨h1, h2⟩ | ⟨⟨h1, h2⟩, h3⟩)
    · exact ⟨h1, fun z => d.mp h2 (z q List.mem_cons_self)⟩
    · exact ⟨h1, fun z => h3 fun r hr => z r (List.mem_cons_of_mem _ hr)⟩
/-! ### a name left out -/
theorem list_max : ∀ (l : List Int), l ≠ [] → ∃ m ∈ l, ∀ y ∈ l, y ≤ m
  | [x], _ => ⟨x, List.mem_singleton.mpr rfl, fun y hy => by rw [List.mem_singleton.mp hy]; exact Int.le_refl _⟩
  | x :: y :: l, _ => by
    obtain ⟨m, hm, h⟩ := list_max (y :: l) (List.cons_ne_nil _ _)
    by_cases k : m ≤ x
    · exact ⟨x, List.mem_cons_self, fun z hz => (List.mem_cons.mp hz).elim (fun e => e ▸ Int.le_refl _) fun e => Int.le_trans (h z e) k⟩
    · exact ⟨m, List.mem_cons_of_mem _ hm, fun z hz => (List.mem_cons.mp hz).elim (fun e => e ▸ (by omega)) (h z)⟩
/-- between numbers and numbers -/
theorem between_all (lows highs : List Int) (h : ∀ a ∈ lows, ∀ b ∈ highs, a ≤ b) : ∃ x : Int, (∀ a ∈ lows, a ≤ x) ∧ ∀ b ∈ highs, x ≤ b := by
  by_cases e : lows = []
  · by_cases f : highs = []
    · exact ⟨0, (fun a ha => by rw [e] at ha; cases ha), (fun b hb => by rw [f] at hb; cases hb)⟩
    · obtain ⟨m, hm, hmax⟩ := list_max (highs.map fun x => -x) (fun z => f (List.map_eq_nil_iff.mp z))
      refine ⟨-m, (fun a ha => by rw [e] at ha; cases ha), fun b hb => ?_⟩
      have := hmax (-b) (List.mem_map.mpr ⟨b, hb, rfl⟩)
      omega
  · obtain ⟨m, hm, hmax⟩ := list_max lows e
    exact ⟨m, hmax, fun b hb => h m hm b hb⟩
/-- a table that has all that follows, and a solution but for one name: the name can be given a value -/
theorem one_more (S : Shut ns rk rv) {y : α} {u : α → Int} (hu : ∀ a ∈ ns, ∀ b ∈ rk a, a ≠ y → b ≠ y → u a - u b ≤ rv a b) : ∃ w, (∀ x, x ≠ y → w x = u x) ∧ Sat (entr ns rk rv) w := by
  by_cases hy : y ∈ ns
  · obtain ⟨k, k1, k2⟩ := between_all ((ns.filter fun x => decide (y ∈ rk x ∧ x ≠ y)).map fun x => u x - rv x y) (((rk y).filter fun x => decide (x ≠ y)).map fun x => u x + rv y x) (fun a ha b hb => by
      obtain ⟨x, hx, rfl⟩ := List.mem_map.mp ha
      obtain ⟨z, hz, rfl⟩ := List.mem_map.mp hb
      obtain ⟨x1, x2⟩ := List.mem_filter.mp hx
      obtain ⟨z1, z2⟩ := List.mem_filter.mp hz
      obtain ⟨x3, x4⟩ := of_decide_eq_true x2
      have z2 := of_decide_eq_true z2
      obtain ⟨t1, t2⟩ := S.tri x x1 y x3 z z1
      have := hu x x1 z t1 x4 z2
      omega)
    have e1 : ∀ x, x ≠ y → put u y k x = u x := fun x e => put_off e
    have e2 : put u y k y = k := put_at u y k
    refine ⟨put u y k, e1, fun q hq => ?_⟩
    obtain ⟨h1, h2, h3⟩ := mem_entr.mp hq
    rw [h3]
    by_cases a : q.1 = y
    · by_cases b : q.2.1 = y
      · rw [a, b, (S.self y hy).2]
        omega
      · rw [a, e2, e1 _ b]
        rw [a] at h2
        have := k2 _ (List.mem_map.mpr ⟨q.2.1, List.mem_filter.mpr ⟨h2, decide_eq_true b⟩, rfl⟩)
        omega
    · by_cases b : q.2.1 = y
      · rw [b, e2, e1 _ a]
        rw [b] at h2
        have := k1 _ (List.mem_map.mpr ⟨q.1, List.mem_filter.mpr ⟨h1, decide_eq_true ⟨h2, a⟩⟩, rfl⟩)
        omega
      · rw [e1 _ a, e1 _ b]
        exact hu q.1 h1 q.2.1 h2 a b
  · refine ⟨u, fun x _ => rfl, fun q hq => ?_⟩
    obtain ⟨h1, h2, h3⟩ := mem_entr.mp hq
    rw [h3]
    exact hu q.1 h1 q.2.1 h2 (fun e => hy (e ▸ h1)) fun e => hy (e ▸ S.sub q.1 h1 q.2.1 h2)
/-- the table without some names -/
def lessN (gone ns : List α) : List α := ns.filter fun x => decide (x ∉ gone)
def lessK (gone : List α) (rk : α → List α) : α → List α := fun x => (rk x).filter fun y => decide (y ∉ gone)
theorem mem_less {gone ns : List α} {x : α} : x ∈ lessN gone ns ↔ x ∈ ns ∧ x ∉ gone := by
  unfold lessN
  rw [List.mem_filter]
  exact ⟨fun ⟨a, b⟩ => ⟨a, of_decide_eq_true b⟩, fun ⟨a, b⟩ => ⟨a, decide_eq_true b⟩⟩
theorem mem_lessK {gone : List α} {x y : α} : y ∈ lessK gone rk x ↔ y ∈ rk x ∧ y ∉ gone := by
  unfold lessK
  rw [List.mem_filter]
  exact ⟨fun ⟨a, b⟩ => ⟨a, of_decide_eq_true b⟩, fun ⟨a, b⟩ => ⟨a, decide_eq_true b⟩⟩
theorem Shut.less (S : Shut ns rk rv) (gone : List α) : Shut (lessN gone ns) (lessK gone rk) rv where
  self := fun x hx => by
    obtain ⟨a, b⟩ := mem_less.mp hx
    exact ⟨mem_lessK.mpr ⟨(S.self x a).1, b⟩, (S.self x a).2⟩
  sub := fun x hx y hy => by
    obtain ⟨a, b⟩ := mem_less.mp hx
    obtain ⟨c, d⟩ := mem_lessK.mp hy
    exact mem_less.mpr ⟨S.sub x a y c, d⟩
  tri := fun x hx y hy z hz => by
    obtain ⟨a, b⟩ := mem_less.mp hx
    obtain ⟨c, d⟩ := mem_lessK.mp hy
    obtain ⟨e, f⟩ := mem_lessK.mp hz
    obtain ⟨t1, t2⟩ := S.tri x a y c z e
    exact ⟨mem_lessK.mpr ⟨t1, f⟩, t2⟩
/-- its solutions are those that can be completed -/
theorem less_sat (S : Shut ns rk rv) : ∀ (gone : List α) (u : α → Int), Sat (entr (lessN gone ns) (lessK gone rk) rv) u ↔ ∃ w, (∀ x, x ∉ gone → w x = u x) ∧ Sat (entr ns rk rv) w
  | [], u => by
    have e1 : lessN [] ns = ns := List.filter_eq_self.mpr fun x _ => decide_eq_true List.not_mem_nil
    have e2 : lessK [] rk = rk := funext fun x => List.filter_eq_self.mpr fun y _ => decide_eq_true List.not_mem_nil
    rw [e1, e2]
    exact ⟨fun h => ⟨u, fun _ _ => rfl, h⟩, fun ⟨w, h1, h2⟩ => by
      have : w = u := funext fun x => h1 x List.not_mem_nil
      exact this ▸ h2⟩
  | y :: gone, u => by
    constructor
    · intro h
      obtain ⟨w, w1, w2⟩ := one_more (S.less gone) (y := y) (u := u) (fun a ha b hb na nb => by
        obtain ⟨a1, a2⟩ := mem_less.mp ha
        obtain ⟨b1, b2⟩ := mem_lessK.mp hb
        have := h (a, b, rv a b) (mem_entr.mpr ⟨mem_less.mpr ⟨a1, fun z => (List.mem_cons.mp z).elim na a2⟩, mem_lessK.mpr ⟨b1, fun z => (List.mem_cons.mp z).elim nb b2⟩, rfl⟩)
        exact this)
      obtain ⟨w', h1, h2⟩ := (less_sat S gone w).mp w2
      exact ⟨w', fun x hx => by rw [h1 x (fun z => hx (List.mem_cons_of_mem _ z)), w1 x (fun e => hx (e ▸ List.mem_cons_self))], h2⟩
    · rintro ⟨w, h1, h2⟩ q hq
      obtain ⟨a, b, c⟩ := mem_entr.mp hq
      obtain ⟨a1, a2⟩ := mem_less.mp a
      obtain ⟨b1, b2⟩ := mem_lessK.mp b
      have := h2 q (mem_entr.mpr ⟨a1, b1, c⟩)
      rw [h1 _ a2, h1 _ b2] at this
      exact this
/-! ### the hull of two tables -/
variable {ns' : List α} {rk' : α → List α} {rv' : α → α → Int}
def hulN (ns ns' : List α) : List α := ns.filter fun x => decide (x ∈ ns')
def hulK (rk rk' : α → List α) : α → List α := fun x => (rk x).filter fun y => decide (y ∈ rk' x)
def hulV (rv rv' : α → α → Int) : α → α → Int := fun x y => if rv' x y > rv x y then rv' x y else rv x y
theorem mem_hulN {x : α} : x ∈ hulN ns ns' ↔ x ∈ ns ∧ x ∈ ns' := by
  unfold hulN
  rw [List.mem_filter]
  exact ⟨fun ⟨a, b⟩ => ⟨a, of_decide_eq_true b⟩, fun ⟨a, b⟩ => ⟨a, decide_eq_true b⟩⟩
theorem mem_hulK {x y : α} : y ∈ hulK rk rk' x ↔ y ∈ rk x ∧ y ∈ rk' x := by
  unfold hulK
  rw [List.mem_filter]
  exact ⟨fun ⟨a, b⟩ => ⟨a, of_decide_eq_true b⟩, fun ⟨a, b⟩ => ⟨a, decide_eq_true b⟩⟩
theorem hulV_le (x y : α) : rv x y ≤ hulV rv rv' x y ∧ rv' x y ≤ hulV rv rv' x y ∧ (hulV rv rv' x y = rv x y ∨ hulV rv rv' x y = rv' x y) := by
  unfold hulV
  split
  · exact ⟨by omega, Int.le_refl _, .inr rfl⟩
  · exact ⟨Int.le_refl _, by omega, .inl rfl⟩
theorem Shut.hull (S : Shut ns rk rv) (S' : Shut ns' rk' rv') : Shut (hulN ns ns') (hulK rk rk') (hulV rv rv') where
  self := fun x hx => by
    obtain ⟨a, b⟩ := mem_hulN.mp hx
    refine ⟨mem_hulK.mpr ⟨(S.self x a).1, (S'.self x b).1⟩, ?_⟩
    unfold hulV
    rw [(S.self x a).2, (S'.self x b).2]
    rfl
  sub := fun x hx y hy => by
    obtain ⟨a, b⟩ := mem_hulN.mp hx
    obtain ⟨c, d⟩ := mem_hulK.mp hy
    exact mem_hulN.mpr ⟨S.sub x a y c, S'.sub x b y d⟩
  tri := fun x hx y hy z hz => by
    obtain ⟨a, b⟩ := mem_hulN.mp hx
    obtain ⟨c, d⟩ := mem_hulK.mp hy
    obtain ⟨e, f⟩ := mem_hulK.mp hz
    obtain ⟨t1, t2⟩ := S.tri x a y c z e
    obtain ⟨t3, t4⟩ := S'.tri x b y d z f
    refine ⟨mem_hulK.mpr ⟨t1, t3⟩, ?_⟩
    obtain ⟨p1, p2, _⟩ := hulV_le (rv := rv) (rv' := rv') x y
    obtain ⟨q1, q2, _⟩ := hulV_le (rv := rv) (rv' := rv') y z
    obtain ⟨_, _, r⟩ := hulV_le (rv := rv) (rv' := rv') x z
    omega
theorem hull_left {u : α → Int} (h : Sat (entr ns rk rv) u) : Sat (entr (hulN ns ns') (hulK rk rk') (hulV rv rv')) u := fun q hq => by
  obtain ⟨a, b, c⟩ := mem_entr.mp hq
  have := h (q.1, q.2.1, rv q.1 q.2.1) (mem_entr.mpr ⟨(mem_hulN.mp a).1, (mem_hulK.mp b).1, rfl⟩)
  have := (hulV_le (rv := rv) (rv' := rv') q.1 q.2.1).1
  dsimp only at *
  omega
theorem hull_right {u : α → Int} (h : Sat (entr ns' rk' rv') u) : Sat (entr (hulN ns ns') (hulK rk rk') (hulV rv rv')) u := fun q hq => by
  obtain ⟨a, b, c⟩ := mem_entr.mp hq
  have := h (q.1, q.2.1, rv' q.1 q.2.1) (mem_entr.mpr ⟨(mem_hulN.mp a).2, (mem_hulK.mp b).2, rfl⟩)
  have := (hulV_le (rv := rv) (rv' := rv') q.1 q.2.1).2.1
  dsimp only at *
  omega
/-! ### rows with unlike pairs are few -/
theorem pairs_few {E : List (Row α)} {zs : List α} (two : ∀ (A B : List (Row α)) (p : Row α), E = A ++ p :: B → ∀ q ∈ A ++ B, ¬ (q.1 = p.1 ∧ q.2.1 = p.2.1)) (ne : ∀ q ∈ E, q.1 ≠ q.2.1) (zin : ∀ q ∈ E, q.1 ∈ zs ∧ q.2.1 ∈ zs) : E.length ≤ zs.length * zs.length := by
  have nd : ∀ E : List (Row α), (∀ (A B : List (Row α)) (p : Row α), E = A ++ p :: B → ∀ q ∈ A ++ B, ¬ (q.1 = p.1 ∧ q.2.1 = p.2.1)) → (E.map fun q => (q.1, q.2.1)).Nodup := fun E => by
    induction E with
    | nil => exact fun _ => List.nodup_nil
    | cons q E' ih =>
      intro tw
      refine List.nodup_cons.mpr ⟨fun m => ?_, ih fun A B p e r hr => tw (q :: A) B p (by rw [e]; rfl) r (List.mem_cons_of_mem _ hr)⟩
      obtain ⟨r, hr, e⟩ := List.mem_map.mp m
      have e1 : r.1 = q.1 := congrArg (fun p : α × α => p.1) e
      have e2 : r.2.1 = q.2.1 := congrArg (fun p : α × α => p.2) e
      exact tw [] E' q rfl r hr ⟨e1, e2⟩
  have h := nodup_le (E.map fun q => (q.1, q.2.1)) (zs.flatMap fun a => zs.map fun b => (a, b)) (nd E two) fun p hp => by
    obtain ⟨q, hq, rfl⟩ := List.mem_map.mp hp
    obtain ⟨a, b⟩ := zin q hq
    exact List.mem_flatMap.mpr ⟨q.1, a, List.mem_map.mpr ⟨q.2.1, b, rfl⟩⟩
  have l : ∀ es : List α, (es.flatMap fun a => zs.map fun b => (a, b)).length = es.length * zs.length := fun es => by
    induction es with
    | nil => simp
    | cons a es ih => rw [List.flatMap_cons, List.length_append, List.length_map, ih, List.length_cons, Nat.succ_mul]; omega
  rw [l, List.length_map] at h
  exact h
end
end Lo
/-! How many parts cuts can make: points of unlike sides are at most as many as the cells of the cuts. -/
namespace Lo
variable {α : Type} [DecidableEq α]
/-- the greatest number of cells of N cuts in d dimensions -/
def phi : Nat → Nat → Nat
  | _, 0 => 1
  | 0, _ + 1 => 1
  | N + 1, d + 1 => phi N (d + 1) + phi N d
theorem phi_zero (N : Nat) : phi N 0 = 1 := by cases N <;> rfl
theorem phi_one : ∀ N, phi N 1 = N + 1
  | 0 => rfl
  | N + 1 => by
    show phi N 1 + phi N 0 = _
    rw [phi_one N, phi_zero]
theorem phi_two : ∀ N, 2 * phi N 2 = N * N + N + 2
  | 0 => rfl
  | N + 1 => by
    show 2 * (phi N 2 + phi N 1) = _
    have := phi_two N
    rw [phi_one, Nat.mul_add, this]
    grind
theorem phi_three : ∀ N, 6 * phi N 3 = N * N * N + 5 * N + 6
  | 0 => rfl
  | N + 1 => by
    show 6 * (phi N 3 + phi N 2) = _
    have h1 := phi_three N
    have h2 := phi_two N
    grind
theorem phi_pos (N d : Nat) : 1 ≤ phi N d := by
  induction N generalizing d with
  | zero => cases d <;> exact Nat.le_refl _
  | succ N ih =>
    cases d with
    | zero => exact Nat.le_refl _
    | succ d => exact Nat.le_trans (ih (d + 1)) (Nat.le_add_right _ _)
/-- on which side of a cut, between the whole numbers; a point over w -/
def fE (e : Row α) (P : α → Int) (w : Int) : Int := 2 * (P e.1 - P e.2.1) - (2 * e.2.2 + 1) * w
def Sg (P : α → Int) (w : Int) : List (Row α) → List Bool → Prop
  | [], [] => True
  | e :: E, b :: v => (if b = true then fE e P w < 0 else 0 < fE e P w) ∧ Sg P w E v
  | _, _ => False
theorem fE_zero {e : Row α} {P : α → Int} {w : Int} (h : fE e P w = 0) : 2 * P e.1 = 2 * P e.2.1 + (2 * e.2.2 + 1) * w := by
  unfold fE at h
  omega
theorem fE_mix (e : Row α) (P Q : α → Int) (w w' s t : Int) : fE e (fun x => t * P x + s * Q x) (t * w + s * w') = t * fE e P w + s * fE e Q w' := by
  unfold fE
  grind
theorem Sg.mix {P Q : α → Int} {w w' s t : Int} (hs : 0 < s) (ht : 0 < t) : ∀ {E : List (Row α)} {v : List Bool}, Sg P w E v → Sg Q w' E v → Sg (fun x => t * P x + s * Q x) (t * w + s * w') E v
  | [], [], _, _ => trivial
  | e :: E, b :: v, h, k => by
    refine ⟨?_, Sg.mix hs ht h.2 k.2⟩
    have h1 := h.1
    have k1 := k.1
    rw [fE_mix]
    cases b with
    | true =>
      rw [if_pos rfl] at h1 k1 ⊢
      have a1 := Int.mul_neg_of_pos_of_neg ht h1
      have a2 := Int.mul_neg_of_pos_of_neg hs k1
      omega
    | false =>
      rw [if_neg (by decide)] at h1 k1 ⊢
      have a1 := Int.mul_pos ht h1
      have a2 := Int.mul_pos hs k1
      omega
  | [], _ :: _, h, _ => h.elim
  | _ :: _, [], h, _ => h.elim
def heads (b : Bool) (V : List (List Bool)) : List (List Bool) := V.filterMap fun v => match v with | c :: t => if c = b then some t else none | [] => none
theorem mem_heads {b : Bool} {V : List (List Bool)} {t : List Bool} : t ∈ heads b V ↔ (b :: t) ∈ V := by
  unfold heads
  rw [List.mem_filterMap]
  constructor
  · rintro ⟨v, hv, e⟩
    cases v with
    | nil => exact nomatch e
    | cons c s =>
      dsimp only at e
      by_cases h : c = b
      · rw [if_pos h] at e
        cases e
        rw [← h]
        exact hv
      · rw [if_neg h] at e
        exact nomatch e
  · intro h
    exact ⟨_, h, if_pos rfl⟩
theorem heads_nodup {b : Bool} : ∀ {V : List (List Bool)}, V.Nodup → (heads b V).Nodup
  | [], _ => List.nodup_nil
  | v :: V, h => by
    obtain ⟨h1, h2⟩ := List.nodup_cons.mp h
    have ih := heads_nodup (b := b) h2
    cases v with
    | nil => exact ih
    | cons c t =>
      by_cases k : c = b
      · have e : heads b ((c :: t) :: V) = t :: heads b V := by
          unfold heads
          rw [List.filterMap_cons]
          dsimp only
          rw [if_pos k]
        rw [e]
        exact List.nodup_cons.mpr ⟨fun z => h1 (by rw [k]; exact mem_heads.mp z), ih⟩
      · have e : heads b ((c :: t) :: V) = heads b V := by
          unfold heads
          rw [List.filterMap_cons]
          dsimp only
          rw [if_neg k]
        rw [e]
        exact ih
theorem heads_len : ∀ {V : List (List Bool)}, (∀ v ∈ V, v ≠ []) → V.length = (heads true V).length + (heads false V).length
  | [], _ => rfl
  | v :: V, h => by
    have ih := heads_len fun u hu => h u (List.mem_cons_of_mem _ hu)
    cases v with
    | nil => exact absurd rfl (h [] List.mem_cons_self)
    | cons c t =>
      cases c with
      | true =>
        show V.length + 1 = (heads true V).length + 1 + (heads false V).length
        omega
      | false =>
        show V.length + 1 = (heads true V).length + ((heads false V).length + 1)
        omega
def onlyL {β : Type} [DecidableEq β] (A B : List β) : List β := B.filter fun x => decide (x ∉ A)
def bothL {β : Type} [DecidableEq β] (A B : List β) : List β := B.filter fun x => decide (x ∈ A)
theorem mem_onlyL {β : Type} [DecidableEq β] {A B : List β} {x : β} : x ∈ onlyL A B ↔ x ∈ B ∧ x ∉ A := by
  unfold onlyL
  rw [List.mem_filter]
  simp
theorem mem_bothL {β : Type} [DecidableEq β] {A B : List β} {x : β} : x ∈ bothL A B ↔ x ∈ B ∧ x ∈ A := by
  unfold bothL
  rw [List.mem_filter]
  simp
theorem two_len {β : Type} [DecidableEq β] (A B : List β) : A.length + B.length = (A ++ onlyL A B).length + (bothL A B).length := by
  rw [List.length_append]
  unfold onlyL bothL
  have : B.length = (B.filter fun x => decide (x ∉ A)).length + (B.filter fun x => decide (x ∈ A)).length := by
    induction B with
    | nil => rfl
    | cons b B ih =>
      by_cases c : b ∈ A
      · rw [List.filter_cons_of_neg (by simpa using c), List.filter_cons_of_pos (by simpa using c), List.length_cons, List.length_cons]
        omega
      · rw [List.filter_cons_of_pos (by simpa using c), List.filter_cons_of_neg (by simpa using c), List.length_cons, List.length_cons]
        omega
  omega
/-- unlike sides of the cuts: at most as many as there are cells -/
theorem cells {zs : List α} : ∀ (E : List (Row α)), (∀ e ∈ E, e.1 ∈ zs ∧ e.2.1 ∈ zs) → ∀ (d : Nat) (rs : List α) (ρ : α → α) (off : α → Int), (∀ x ∈ zs, ρ x ∈ rs) → rs.length ≤ d + 1 → ∀ (V : List (List Bool)), V.Nodup →
    (∀ v ∈ V, ∃ P w, 0 < w ∧ (∀ x ∈ zs, 2 * P x = 2 * P (ρ x) + off x * w) ∧ Sg P w E v) → V.length ≤ phi E.length d
  | [], _, d, rs, ρ, off, _, _, V, nd, hV => by
    refine Nat.le_trans ?_ (phi_pos _ _)
    match V, nd, hV with
    | [], _, _ => exact Nat.zero_le _
    | [v], _, _ => exact Nat.le_refl _
    | v :: u :: V, nd, hV =>
      exfalso
      have e1 : v = [] := by
        obtain ⟨P, w, _, _, h⟩ := hV v List.mem_cons_self
        cases v with
        | nil => rfl
        | cons b t => exact h.elim
      have e2 : u = [] := by
        obtain ⟨P, w, _, _, h⟩ := hV u (List.mem_cons_of_mem _ List.mem_cons_self)
        cases u with
        | nil => rfl
        | cons b t => exact h.elim
      rw [e1, e2] at nd
      exact (List.nodup_cons.mp nd).1 List.mem_cons_self
  | e :: E, hE, d, rs, ρ, off, hρ, hr, V, nd, hV => by
    have hE' : ∀ e ∈ E, e.1 ∈ zs ∧ e.2.1 ∈ zs := fun x hx => hE x (List.mem_cons_of_mem _ hx)
    obtain ⟨z1, z2⟩ := hE e List.mem_cons_self
    rw [heads_len fun v hv z => by
      obtain ⟨P, w, _, _, h⟩ := hV v hv
      rw [z] at h
      exact h.elim, two_len]
    have hU := cells E hE' d rs ρ off hρ hr (heads true V ++ onlyL (heads true V) (heads false V)) (by
      refine List.nodup_append.mpr ⟨heads_nodup nd, (heads_nodup nd).filter _, fun a ha b hb z => ?_⟩
      rw [← z] at hb
      exact (mem_onlyL.mp hb).2 ha) fun t ht => by
        have : ∃ b : Bool, (b :: t) ∈ V := by
          rcases List.mem_append.mp ht with h | h
          · exact ⟨true, mem_heads.mp h⟩
          · exact ⟨false, mem_heads.mp (mem_onlyL.mp h).1⟩
        obtain ⟨b, hb⟩ := this
        obtain ⟨P, w, hw, hf, hs⟩ := hV _ hb
        exact ⟨P, w, hw, hf, hs.2⟩
    -- those on both sides
    have both : ∀ t ∈ bothL (heads true V) (heads false V), ∃ P w Q w', 0 < w ∧ 0 < w' ∧ (∀ x ∈ zs, 2 * P x = 2 * P (ρ x) + off x * w) ∧ (∀ x ∈ zs, 2 * Q x = 2 * Q (ρ x) + off x * w') ∧ fE e P w < 0 ∧ 0 < fE e Q w' ∧ Sg P w E t ∧ Sg Q w' E t := fun t ht => by
      obtain ⟨h1, h2⟩ := mem_bothL.mp ht
      obtain ⟨Q, w', hw', hf', hs'⟩ := hV _ (mem_heads.mp h1)
      obtain ⟨P, w, hw, hf, hs⟩ := hV _ (mem_heads.mp h2)
      exact ⟨P, w, Q, w', hw, hw', hf, hf', by simpa using hs.1, by simpa using hs'.1, hs.2, hs'.2⟩
    have ndI : (bothL (heads true V) (heads false V)).Nodup := (heads_nodup nd).filter _
    generalize bothL (heads true V) (heads false V) = I at both ndI ⊢
    -- one root: no point can be on either side
    have flat : ρ e.1 = ρ e.2.1 → I = [] := fun same => by
      cases I with
      | nil => rfl
      | cons t I =>
        exfalso
        obtain ⟨P, w, Q, w', hw, hw', hf, hf', h1, h2, _, _⟩ := both t List.mem_cons_self
        have a1 := hf _ z1
        have a2 := hf _ z2
        have b1 := hf' _ z1
        have b2 := hf' _ z2
        rw [same] at a1 b1
        unfold fE at h1 h2
        have c1 : 2 * (P e.1 - P e.2.1) = (off e.1 - off e.2.1) * w := by
          rw [Int.sub_mul]
          omega
        have c2 : 2 * (Q e.1 - Q e.2.1) = (off e.1 - off e.2.1) * w' := by
          rw [Int.sub_mul]
          omega
        rw [c1, ← Int.sub_mul] at h1
        rw [c2, ← Int.sub_mul] at h2
        have n1 : off e.1 - off e.2.1 - (2 * e.2.2 + 1) < 0 := Int.lt_of_not_ge fun z => by
          have := Int.mul_nonneg z (Int.le_of_lt hw)
          omega
        have n2 : 0 < off e.1 - off e.2.1 - (2 * e.2.2 + 1) := Int.lt_of_not_ge fun z => by
          have := Int.mul_nonpos_of_nonpos_of_nonneg z (Int.le_of_lt hw')
          omega
        omega
    by_cases same : ρ e.1 = ρ e.2.1
    · rw [flat same]
      cases d with
      | zero =>
        rw [phi_zero] at hU
        rw [phi_zero]
        exact hU
      | succ d =>
        show _ ≤ phi E.length (d + 1) + phi E.length d
        simp only [List.length_nil]
        omega
    · cases d with
      | zero =>
        exfalso
        have m1 := hρ _ z1
        have m2 := hρ _ z2
        match rs, hr, m1, m2 with
        | [], _, m1, _ => exact nomatch m1
        | [a], _, m1, m2 => exact same ((List.mem_singleton.mp m1).trans (List.mem_singleton.mp m2).symm)
        | _ :: _ :: _, hr, _, _ => simp at hr
      | succ d =>
        have hI := cells E hE' d (rs.erase (ρ e.1)) (fun x => if ρ x = ρ e.1 then ρ e.2.1 else ρ x) (fun x => if ρ x = ρ e.1 then off x + (2 * e.2.2 + 1 - off e.1 + off e.2.1) else off x) (fun x hx => by
          by_cases c : ρ x = ρ e.1
          · rw [if_pos c]
            exact (List.mem_erase_of_ne (fun z => same z.symm)).mpr (hρ _ z2)
          · rw [if_neg c]
            exact (List.mem_erase_of_ne c).mpr (hρ _ hx)) (by
          rw [List.length_erase_of_mem (hρ _ z1)]
          omega) I ndI fun t ht => by
            obtain ⟨P, w, Q, w', hw, hw', hf, hf', h1, h2, g1, g2⟩ := both t ht
            have hs : 0 < - fE e P w := by omega
            refine ⟨fun x => fE e Q w' * P x + - fE e P w * Q x, fE e Q w' * w + - fE e P w * w', Int.add_pos (Int.mul_pos h2 hw) (Int.mul_pos hs hw'), fun x hx => ?_, Sg.mix hs h2 g1 g2⟩
            have fr : ∀ y ∈ zs, 2 * (fE e Q w' * P y + - fE e P w * Q y) = 2 * (fE e Q w' * P (ρ y) + - fE e P w * Q (ρ y)) + off y * (fE e Q w' * w + - fE e P w * w') := fun y hy => by
              have a1 := hf _ hy
              have a2 := hf' _ hy
              grind
            have zero : fE e (fun x => fE e Q w' * P x + - fE e P w * Q x) (fE e Q w' * w + - fE e P w * w') = 0 := by
              rw [fE_mix]
              grind
            generalize fE e Q w' * w + - fE e P w * w' = W at fr zero ⊢
            have f1 := fr _ z1
            have f2 := fr _ z2
            have fx := fr _ hx
            replace zero := fE_zero zero
            dsimp only at zero ⊢
            by_cases c : ρ x = ρ e.1
            · rw [if_pos c, if_pos c]
              rw [c] at fx
              rw [Int.add_mul, Int.add_mul, Int.sub_mul]
              omega
            · rw [if_neg c, if_neg c]
              exact fx
        show _ ≤ phi E.length (d + 1) + phi E.length d
        omega
/-- systems that are kept apart by cuts are few -/
def Sep (E R R' : List (Row α)) : Prop := ∃ e ∈ E, ((∀ u : α → Int, Sat R u → u e.1 - u e.2.1 ≤ e.2.2) ∧ ∀ u : α → Int, Sat R' u → ¬ u e.1 - u e.2.1 ≤ e.2.2) ∨ ((∀ u : α → Int, Sat R' u → u e.1 - u e.2.1 ≤ e.2.2) ∧ ∀ u : α → Int, Sat R u → ¬ u e.1 - u e.2.1 ≤ e.2.2)
theorem sg_at (u : α → Int) : ∀ E : List (Row α), Sg u 1 E (E.map fun e => decide (u e.1 - u e.2.1 ≤ e.2.2))
  | [] => trivial
  | e :: E => by
    refine ⟨?_, sg_at u E⟩
    unfold fE
    by_cases c : u e.1 - u e.2.1 ≤ e.2.2
    · rw [if_pos (decide_eq_true c)]
      omega
    · rw [if_neg (by simpa using c)]
      omega
theorem cells_few {zs : List α} {E : List (Row α)} {Rs : List (List (Row α))} {d : Nat} (hz : zs.length ≤ d + 1) (hE : ∀ e ∈ E, e.1 ∈ zs ∧ e.2.1 ∈ zs) (sol : ∀ R ∈ Rs, ∃ v : α → Int, Sat R v) (sep : Rs.Pairwise (Sep E)) : Rs.length ≤ phi E.length d := by
  have key : ∀ R : List (Row α), ∃ p : α → Int, R ∈ Rs → Sat R p := fun R => by
    by_cases h : R ∈ Rs
    · obtain ⟨v, hv⟩ := sol R h
      exact ⟨v, fun _ => hv⟩
    · exact ⟨fun _ => 0, fun z => absurd z h⟩
  obtain ⟨pt, hpt⟩ := Classical.axiomOfChoice key
  have h := cells E hE d zs (fun x => x) (fun _ => 0) (fun x hx => hx) hz (Rs.map fun R => E.map fun e => decide (pt R e.1 - pt R e.2.1 ≤ e.2.2)) ?_ ?_
  · rw [List.length_map] at h
    exact h
  · rw [List.Nodup, List.pairwise_map]
    refine (List.Pairwise.and_mem.mp sep).imp fun {R R'} ⟨hR, hR', e, he, hs⟩ z => ?_
    have z' : decide (pt R e.1 - pt R e.2.1 ≤ e.2.2) = decide (pt R' e.1 - pt R' e.2.1 ≤ e.2.2) := List.map_inj_left.mp z e he
    rcases hs with ⟨h1, h2⟩ | ⟨h1, h2⟩
    · have a := h1 _ (hpt R hR)
      have b := h2 _ (hpt R' hR')
      rw [decide_eq_true a, decide_eq_false b] at z'
      exact nomatch z'
    · have a := h1 _ (hpt R' hR')
      have b := h2 _ (hpt R hR)
      rw [decide_eq_true a, decide_eq_false b] at z'
      exact nomatch z'
  · intro v hv
    obtain ⟨R, hR, rfl⟩ := List.mem_map.mp hv
    exact ⟨pt R, 1, by decide, fun x _ => by omega, sg_at _ E⟩
end Lo
/-! The fewest rows are at most as many as any rows that tell the same. -/
namespace Lo
variable {α : Type} [DecidableEq α]
variable {R G F : List (Row α)} {v : α → Int} {hs : List α}
/-- from a to b along n rows -/
inductive Way (G : List (Row α)) : α → α → Int → Nat → Prop
  | nil (a : α) : Way G a a 0 0
  | cons {a m b : α} {c s : Int} {n : Nat} : (a, m, c) ∈ G → Way G m b s n → Way G a b (c + s) (n + 1)
theorem path_way {a b : α} {l : List Nat} {s : Int} (h : Path G a l b s) : ∃ n, Way G a b s n := by
  induction h with
  | nil a => exact ⟨0, .nil a⟩
  | cons hj h ih =>
    obtain ⟨n, w⟩ := ih
    exact ⟨n + 1, .cons (List.mem_of_getElem? hj) w⟩
theorem way_told {a b : α} {s : Int} {n : Nat} (h : Way G a b s n) : Told G a b s := by
  induction h with
  | nil a =>
    intro u hu
    omega
  | cons hj h ih => exact told_trans (told_own hj) ih
theorem told_way (hv : Sat G v) {a b : α} {k : Int} (h : Told G a b k) : ∃ n s, Way G a b s n ∧ s ≤ k := by
  obtain ⟨l, s, p, hs⟩ := told_path hv h
  obtain ⟨n, w⟩ := path_way p
  exact ⟨n, s, w, hs⟩
/-- a row from a to a side that is tied to it -/
theorem ring_edge (hv : Sat R v) (same : SameS G R) {a b : α} (t : Eqv R a b) (ne : a ≠ b) : ∃ m c, (a, m, c) ∈ G ∧ Eqv R a m := by
  obtain ⟨x, h1, h2⟩ := t
  have hG : Sat G v := (same v).mpr hv
  obtain ⟨n, s, w, hs⟩ := told_way hG ((told_congr same).mpr (d_told hv h1))
  cases w with
  | nil => exact absurd rfl ne
  | cons hm w =>
    rename_i m c s' n'
    obtain ⟨y, e1, l1⟩ := told_d hv ((told_congr same).mp (way_told w))
    obtain ⟨z, e2, l2⟩ := d_tri hv e1 h2
    obtain ⟨q, e3, l3⟩ := told_d hv ((told_congr same).mp (told_own hm))
    exact ⟨m, c, hm, eqv_of hv e3 e2 (by omega)⟩
/-- a row from the side's group to the other's -/
theorem lead_edge (hv : Sat R v) (same : SameS G R) (cov : ∀ a m z, a ≠ m → D R a m = some z → ∃ h ∈ hs, Eqv R h m) {a b : α} {c : Int} (hab : D R a b = some c) (nt : ¬ Eqv R a b) (need : ∀ m ∈ hs, m ≠ a → m ≠ b → ¬ Tight R a m b) :
    ∀ {x : α} {s t : Int} {n : Nat}, Way G x b s n → Eqv R a x → D R a x = some t → t + s ≤ c → ∃ g ∈ G, Eqv R g.1 a ∧ Eqv R g.2.1 b := by
  intro x s t n w
  induction w generalizing t with
  | nil x =>
    intro h1 _ _
    exact absurd h1 nt
  | cons hm w ih =>
    rename_i x m b' c0 s' n'
    intro h1 h2 h3
    obtain ⟨q, e3, l3⟩ := told_d hv ((told_congr same).mp (told_own hm))
    obtain ⟨z, e4, l4⟩ := d_tri hv h2 e3
    by_cases k1 : Eqv R a m
    · exact ih hab nt need k1 e4 (by omega)
    by_cases k2 : Eqv R m b'
    · exact ⟨_, hm, h1.symm, k2⟩
    exfalso
    obtain ⟨y, e1, l1⟩ := told_d hv ((told_congr same).mp (way_told w))
    have ham : a ≠ m := fun e => k1 (e ▸ eqv_refl hv a)
    obtain ⟨h, hh, eh⟩ := cov a m z ham e4
    have T : Tight R a m b' := ⟨z, y, c, e4, e1, hab, by omega⟩
    exact need h hh (fun e => k1 (e ▸ eh)) (fun e => k2 (e ▸ eh.symm)) (T.mid hv eh.symm)
theorem fewest_least (N : Edges R F hs) (hv : Sat R v) (same : SameS G R) (cov : ∀ a m z, a ≠ m → D R a m = some z → ∃ h ∈ hs, Eqv R h m) : F.length ≤ G.length := by
  have hG : Sat G v := (same v).mpr hv
  have pick : ∀ q : Row α, ∃ g : Row α, q ∈ F → g ∈ G ∧ (Eqv R q.1 q.2.1 → g.1 = q.1 ∧ Eqv R g.1 g.2.1) ∧ (¬ Eqv R q.1 q.2.1 → Eqv R g.1 q.1 ∧ Eqv R g.2.1 q.2.1) := fun q => by
    by_cases hq : q ∈ F
    · obtain ⟨a, b, c⟩ := q
      obtain ⟨ne, hc⟩ := N.own a b c hq
      by_cases t : Eqv R a b
      · obtain ⟨m, c', hm, em⟩ := ring_edge hv same t ne
        exact ⟨(a, m, c'), fun _ => ⟨hm, fun _ => ⟨rfl, em⟩, fun z => absurd t z⟩⟩
      · obtain ⟨h1, h2, h3⟩ := N.lead a b c hq t
        obtain ⟨n, s, w, hs'⟩ := told_way hG ((told_congr same).mpr (d_told hv hc))
        obtain ⟨g, hg, e1, e2⟩ := lead_edge hv same cov hc t h3 w (eqv_refl hv a) (d_self hv a) (by omega)
        exact ⟨g, fun _ => ⟨hg, fun z => absurd z t, fun _ => ⟨e1, e2⟩⟩⟩
    · exact ⟨q, fun z => absurd z hq⟩
  obtain ⟨g, hg⟩ := Classical.axiomOfChoice pick
  have inj : ∀ p ∈ F, ∀ q ∈ F, g p = g q → p.1 = q.1 ∧ p.2.1 = q.2.1 := fun p hp q hq e => by
    obtain ⟨_, p1, p2⟩ := hg p hp
    obtain ⟨_, q1, q2⟩ := hg q hq
    rw [e] at p1 p2
    obtain ⟨a, b, c⟩ := p
    obtain ⟨a', b', c'⟩ := q
    dsimp only at p1 p2 q1 q2 ⊢
    by_cases t : Eqv R a b
    · obtain ⟨s1, s2⟩ := p1 t
      by_cases t' : Eqv R a' b'
      · obtain ⟨s3, s4⟩ := q1 t'
        have ea : a = a' := s1.symm.trans s3
        subst ea
        exact ⟨rfl, N.succ a b c b' c' hp hq t t'⟩
      · obtain ⟨s3, s4⟩ := q2 t'
        exact absurd ((s3.symm.trans hv s2).trans hv s4) t'
    · obtain ⟨s1, s2⟩ := p2 t
      by_cases t' : Eqv R a' b'
      · obtain ⟨s3, s4⟩ := q1 t'
        exact absurd ((s1.symm.trans hv s4).trans hv s2) t
      · obtain ⟨s3, s4⟩ := q2 t'
        obtain ⟨m1, m2, _⟩ := N.lead a b c hp t
        obtain ⟨m3, m4, _⟩ := N.lead a' b' c' hq t'
        exact ⟨N.one a m1 a' m3 (s1.symm.trans hv s3), N.one b m2 b' m4 (s2.symm.trans hv s4)⟩
  have nd : (F.map g).Nodup := by
    have apart : ∀ (A B : List (Row α)) (p : Row α), F = A ++ p :: B → ∀ q ∈ B, g p ≠ g q := fun A B p e q hq z => by
      have hp : p ∈ F := by rw [e]; exact List.mem_append_right _ List.mem_cons_self
      have hq' : q ∈ F := by rw [e]; exact List.mem_append_right _ (List.mem_cons_of_mem _ hq)
      obtain ⟨e1, e2⟩ := inj p hp q hq' z
      exact N.two A B p e q (List.mem_append_right _ hq) ⟨e1.symm, e2.symm⟩
    have key : ∀ (B A : List (Row α)), F = A ++ B → (B.map g).Nodup := by
      intro B
      induction B with
      | nil => intro _ _; exact List.nodup_nil
      | cons p B ih =>
        intro A e
        rw [List.map_cons]
        refine List.nodup_cons.mpr ⟨fun z => ?_, ih (A ++ [p]) (by rw [e, List.append_assoc]; rfl)⟩
        obtain ⟨q, hq, eq⟩ := List.mem_map.mp z
        exact apart A B p e q hq eq.symm
    exact key F [] rfl
  have h := nodup_le (F.map g) G nd fun x hx => by
    obtain ⟨q, hq, rfl⟩ := List.mem_map.mp hx
    exact (hg q hq).1
  rw [List.length_map] at h
  exact h
/-- what is told of the fewest rows -/
structure Few (R F : List (Row α)) : Prop where
  same : SameS F R
  own : ∀ q ∈ F, q.1 ≠ q.2.1 ∧ D R q.1 q.2.1 = some q.2.2
  least : ∀ G, SameS G R → F.length ≤ G.length
/-- a row denied -/
def cutRow (q : Row α) : Row α := (q.2.1, q.1, -q.2.2 - 1)
/-- each row is a row of R, a row of F or one of F denied -/
def RowsOf (R F R' : List (Row α)) : Prop := ∀ q ∈ R', q ∈ R ∨ q ∈ F ∨ ∃ f ∈ F, q = cutRow f
/-- the parts that were cut off so far -/
def CI (F R : List (Row α)) (i : Nat) (Rs : List (List (Row α))) : Prop := Rs.Pairwise (Sep F) ∧ ∀ R' ∈ Rs, (∃ f ∈ F.take i, ∀ u : α → Int, Sat R' u → ¬ u f.1 - u f.2.1 ≤ f.2.2) ∧ RowsOf R F R'
theorem CI.nil {i : Nat} : CI F R i [] := ⟨.nil, fun _ h => nomatch h⟩
theorem CI.skip {i : Nat} {Rs : List (List (Row α))} (h : CI F R i Rs) : CI F R (i + 1) Rs := ⟨h.1, fun R' hR' => by
  obtain ⟨⟨f, hf, k⟩, r⟩ := h.2 R' hR'
  exact ⟨⟨f, (List.take_sublist_take_left (Nat.le_succ i)).mem hf, k⟩, r⟩⟩
theorem CI.push {i : Nat} {Rs : List (List (Row α))} {l r : α} {c : Int} (h : CI F R i Rs) (hq : F[i]? = some (l, r, c)) : CI F R (i + 1) (Rs ++ [(R ++ F.take i) ++ [(r, l, -c - 1)]]) := by
  have hm : (l, r, c) ∈ F := List.mem_of_getElem? hq
  refine ⟨List.pairwise_append.mpr ⟨h.1, List.pairwise_singleton _ _, fun R' hR' N hN => ?_⟩, fun R' hR' => ?_⟩
  · rw [List.mem_singleton.mp hN]
    obtain ⟨⟨f, hf, k⟩, _⟩ := h.2 R' hR'
    exact ⟨f, List.mem_of_mem_take hf, .inr ⟨fun u hu => hu f (List.mem_append_left _ (List.mem_append_right _ hf)), k⟩⟩
  · rcases List.mem_append.mp hR' with m | m
    · exact h.skip.2 R' m
    · rw [List.mem_singleton.mp m]
      refine ⟨⟨(l, r, c), by rw [List.take_add_one, hq]; exact List.mem_append_right _ List.mem_cons_self, fun u hu => ?_⟩, fun q hq' => ?_⟩
      · have := hu _ (List.mem_append_right _ (List.mem_singleton.mpr rfl))
        dsimp only at this ⊢
        omega
      · rcases List.mem_append.mp hq' with n | n
        · rcases List.mem_append.mp n with n | n
          · exact .inl n
          · exact .inr (.inl (List.mem_of_mem_take n))
        · rw [List.mem_singleton.mp n]
          exact .inr (.inr ⟨_, hm, rfl⟩)
/-- each entry of a result is an entry of what it was made of -/
def EntIn (Rs Rs' : List (List (Row α))) : Prop := ∀ R' ∈ Rs', ∀ (a b : α) (k : Int), a ≠ b → D R' a b = some k → ∃ R ∈ Rs, D R a b = some k
theorem EntIn.refl (Rs : List (List (Row α))) : EntIn Rs Rs := fun R hR _ _ _ _ h => ⟨R, hR, h⟩
theorem EntIn.sub {Rs Rs' : List (List (Row α))} (h : ∀ R ∈ Rs', R ∈ Rs) : EntIn Rs Rs' := fun R hR _ _ _ _ k => ⟨R, h R hR, k⟩
theorem EntIn.trans {A B C : List (List (Row α))} (h : EntIn A B) (k : EntIn B C) : EntIn A C := fun R hR a b n ne e => by
  obtain ⟨R1, h1, e1⟩ := k R hR a b n ne e
  exact h R1 h1 a b n ne e1
theorem Sep.mono {E E' R S R' S' : List (Row α)} (h : Sep E R S) (he : ∀ q ∈ E, q ∈ E') (h1 : ∀ u : α → Int, Sat R' u → Sat R u) (h2 : ∀ u : α → Int, Sat S' u → Sat S u) : Sep E' R' S' := by
  obtain ⟨e, hm, k⟩ := h
  refine ⟨e, he e hm, ?_⟩
  rcases k with ⟨a, b⟩ | ⟨a, b⟩
  · exact .inl ⟨fun u hu => a u (h1 u hu), fun u hu => b u (h2 u hu)⟩
  · exact .inr ⟨fun u hu => a u (h2 u hu), fun u hu => b u (h1 u hu)⟩
theorem hul_ent {ns ns' : List α} {rk rk' : α → List α} {rv rv' : α → α → Int} {O : List (Row α)} (S : Shut ns rk rv) (S' : Shut ns' rk' rv') (hv : Sat (entr (hulN ns ns') (hulK rk rk') (hulV rv rv')) v) (tR : ∀ x ∈ ns, ∀ y, D R x y = if y ∈ rk x then some (rv x y) else none) (tO : ∀ x ∈ ns', ∀ y, D O x y = if y ∈ rk' x then some (rv' x y) else none) {a b : α} {k : Int} (ne : a ≠ b)
    (h : D (entr (hulN ns ns') (hulK rk rk') (hulV rv rv')) a b = some k) : D R a b = some k ∨ D O a b = some k := by
  by_cases ha : a ∈ hulN ns ns'
  · rw [(S.hull S').tells hv ha b] at h
    by_cases hb : b ∈ hulK rk rk' a
    · rw [if_pos hb] at h
      obtain ⟨a1, a2⟩ := mem_hulN.mp ha
      obtain ⟨b1, b2⟩ := mem_hulK.mp hb
      rw [tR a a1, tO a a2, if_pos b1, if_pos b2, ← Option.some.inj h]
      rcases (hulV_le (rv := rv) (rv' := rv') a b).2.2 with e | e
      · exact .inl (congrArg some e.symm)
      · exact .inr (congrArg some e.symm)
    · rw [if_neg hb] at h
      cases h
  · rw [d_alone hv (a := a) (fun r hr e => ha (by rw [← e]; exact (mem_entr.mp hr).1)) b, if_neg (fun e => ne e.symm)] at h
    cases h
end Lo
namespace Lo
open PySem L2
/-- a table, opened -/
structure TabO (H : Hp) (t : Addr) (R : List SRow) (zs : List Str) (ns : List Str) (ra : Str → Addr) (rk : Str → List Str) (rv : Str → Str → Int) : Prop where
  G : TabG H t ns ra rk rv
  S : Shut ns rk rv
  eq : SameS R (entr ns rk rv)
  sub : ∀ x ∈ ns, x ∈ zs
  sat : ∃ v, Sat R v
  val : ∀ x ∈ ns, ∀ y, D R x y = if y ∈ rk x then some (rv x y) else none
  named : ∀ x, Named R x → x ∈ ns
theorem TabR.opened {H : Hp} {t : Addr} {R : List SRow} {zs : List Str} (h : TabR H t R zs) : ∃ ns ra rk rv, TabO H t R zs ns ra rk rv := by
  obtain ⟨ns, ra, rk, rv, G, Te, ⟨v, hv⟩, hn, hz⟩ := h
  have val : ∀ x ∈ ns, ∀ y, D R x y = if y ∈ rk x then some (rv x y) else none := fun x hx y => (Te x hx y).symm
  have sub : ∀ x ∈ ns, ∀ y ∈ rk x, y ∈ ns := fun x hx y hy => by
    have := val x hx y
    rw [if_pos hy] at this
    rcases d_named hv this with e | e
    · exact e ▸ hx
    · exact hn y e
  exact ⟨ns, ra, rk, rv, G, entr_shut hv val sub, entr_same hv val fun r hr => hn r.1 ⟨r, hr, .inl rfl⟩, hz, ⟨v, hv⟩, val, hn⟩
theorem TabR.shut {H : Hp} {t : Addr} {zs ns : List Str} {ra : Str → Addr} {rk : Str → List Str} {rv : Str → Str → Int} (G : TabG H t ns ra rk rv) (S : Shut ns rk rv) (hv : ∃ v, Sat (entr ns rk rv) v) (sub : ∀ x ∈ ns, x ∈ zs) : TabR H t (entr ns rk rv) zs := by
  obtain ⟨v, hv⟩ := hv
  refine ⟨ns, ra, rk, rv, G, fun x hx y => (S.tells hv hx y).symm, ⟨v, hv⟩, fun x ⟨q, hq, e⟩ => ?_, sub⟩
  obtain ⟨a, b, c⟩ := mem_entr.mp hq
  rcases e with e | e
  · exact e ▸ a
  · exact e ▸ S.sub _ a _ b
theorem TabO.keys {H : Hp} {t : Addr} {R : List SRow} {zs ns : List Str} {ra : Str → Addr} {rk : Str → List Str} {rv : Str → Str → Int} (T : TabO H t R zs ns ra rk rv) {x : Str} (hx : x ∈ ns) : (rk x).length ≤ ns.length :=
  nodup_le _ _ (T.G.rnd x hx) fun y hy => T.S.sub x hx y hy
theorem TabO.few {H : Hp} {t : Addr} {R : List SRow} {zs ns : List Str} {ra : Str → Addr} {rk : Str → List Str} {rv : Str → Str → Int} (T : TabO H t R zs ns ra rk rv) : ns.length ≤ zs.length := nodup_le _ _ T.G.nd T.sub
theorem TabO.same {H H' : Hp} {t : Addr} {R : List SRow} {zs ns : List Str} {ra : Str → Addr} {rk : Str → List Str} {rv : Str → Str → Int} (s : Same H H') (T : TabO H t R zs ns ra rk rv) : TabO H' t R zs ns ra rk rv := ⟨T.G.same s, T.S, T.eq, T.sub, T.sat, T.val, T.named⟩
theorem TabR.sat {H : Hp} {t : Addr} {R : List SRow} {zs : List Str} (h : TabR H t R zs) : ∃ v, Sat R v := by
  obtain ⟨ns, ra, rk, rv, G, Te, hv, hn, hz⟩ := h
  exact hv
/-- the sets of values that a list of systems has -/
def US (Rs : List (List SRow)) (u : Str → Int) : Prop := ∃ R ∈ Rs, Sat R u
section
variable {P : Program} {w : World} {K : PySem.W.Frag} {mg : Str → Option Value} {base : Heap}
/-! ### tightened, fewest_of over tables of systems -/
def spTightR : Sp := fun vs H Q _ => ∃ (t : Addr) (l r : Str) (c : Int) (R : List SRow) (zs : List Str), vs = [.ref t, .str l, .str r, .int c] ∧ TabR H t R zs ∧ l ≠ r ∧ l ∈ zs ∧ r ∈ zs ∧ zs.length ≤ 20 ∧
  ∀ (H' : Hp) (x : V), Same H H' → ((x = .non ∧ ∀ u, ¬ Sat (R ++ [(l, r, c)]) u) ∨ ∃ d, x = .ref d ∧ TabR H' d (R ++ [(l, r, c)]) zs) → Q x H'
theorem ok_tightR {f : Addr} {fd : FuncData} (G : FnOk P w K mg base CX0 3 f fd ["table", "left", "right", "limit"] spTight') : FnOk P w K mg base CX0 3 f fd ["table", "left", "right", "limit"] spTightR := by
  refine G.imp fun vs H Q E h => ?_
  obtain ⟨t, l, r, c, R, zs, rfl, hT, ne, hl, hr, few, q⟩ := h
  obtain ⟨ns, ra, rk, rv, G, Te, ⟨v, hv⟩, hn, hz⟩ := hT
  have := nodup_le _ _ G.nd hz
  refine ⟨t, l, r, c, R, v, ns, ra, rk, rv, rfl, G, Te, hv, ne, by omega, hn, fun H' x ns' s sub l' r' back hA => q H' x s ?_⟩
  rcases hA with ⟨e, no⟩ | ⟨d, ra', rk', rv', e, G', T', u, hu⟩
  · exact .inl ⟨e, no⟩
  · refine .inr ⟨d, e, ns', ra', rk', rv', G', T', ⟨u, hu⟩, fun x ⟨q', hq', e'⟩ => ?_, fun x hx => ?_⟩
    · rcases List.mem_append.mp hq' with m | m
      · exact sub x (hn x ⟨q', m, e'⟩)
      · rw [List.mem_singleton.mp m] at e'
        rcases e' with e' | e'
        · exact e' ▸ l'
        · exact e' ▸ r'
    · rcases back x hx with m | m | m
      · exact hz x m
      · exact m ▸ hl
      · exact m ▸ hr
def spFewR : Sp := fun vs H Q _ => ∃ (t : Addr) (R : List SRow) (zs : List Str), vs = [.ref t] ∧ TabR H t R zs ∧ zs.length ≤ 20 ∧
  ∀ (H' : Hp) (p : Addr) (F : List SRow), Same H H' → H p = none → Sys RowT H' p F → SameS F R → (∀ q ∈ F, q.1 ≠ q.2.1 ∧ q.1 ∈ zs ∧ q.2.1 ∈ zs) → F.length ≤ zs.length * zs.length → Few R F → Q (.ref p) H'
theorem ok_fewR {f : Addr} {fd : FuncData} (G : FnOk P w K mg base CX0 3 f fd ["table"] spFewestOf) : FnOk P w K mg base CX0 3 f fd ["table"] spFewR := by
  refine G.imp fun vs H Q E h => ?_
  obtain ⟨t, R, zs, rfl, hT, few, q⟩ := h
  obtain ⟨ns, ra, rk, rv, TO⟩ := hT.opened
  have hns := TO.few
  obtain ⟨v, hv⟩ := TO.sat
  have hv' := (TO.eq v).mp hv
  have Te : Tells ns rk rv (D (entr ns rk rv)) := fun x hx y => (TO.S.tells hv' hx y).symm
  refine ⟨t, entr ns rk rv, v, ns, ra, rk, rv, rfl, ⟨TO.G, Te, fun x => ⟨fun hx => ⟨(x, x, rv x x), mem_entr.mpr ⟨hx, (TO.S.self x hx).1, rfl⟩, .inl rfl⟩, fun ⟨q', hq', e⟩ => ?_⟩⟩, hv', by omega, fun H' p ms s np mnd mem hS => ?_⟩
  · obtain ⟨a, b, c⟩ := mem_entr.mp hq'
    rcases e with e | e
    · exact e ▸ a
    · exact e ▸ TO.S.sub _ a _ b
  · have eqq := eqB_eqq hv'
    have Hh := heads_ok eqq ms
    have T := tests_ok hv' (headsOf (eqB (entr ns rk rv)) ms)
    have Ed := edges_ok T hv' mnd Hh
    have inms : ∀ q' ∈ entr ns rk rv, q'.1 ∈ ms ∧ q'.2.1 ∈ ms := fun q' hq' => by
      obtain ⟨a, b, c⟩ := mem_entr.mp hq'
      exact ⟨(mem _).mpr a, (mem _).mpr (TO.S.sub _ a _ b)⟩
    have own : ∀ q' ∈ edgesE (eqB (entr ns rk rv)) (Wt (entr ns rk rv)) (cB (entr ns rk rv) (headsOf (eqB (entr ns rk rv)) ms)) (headsOf (eqB (entr ns rk rv)) ms) ms, q'.1 ≠ q'.2.1 ∧ q'.1 ∈ zs ∧ q'.2.1 ∈ zs := fun q' hq' => by
      obtain ⟨x, y, c⟩ := q'
      obtain ⟨a, b⟩ := Ed.own x y c hq'
      have hx : x ∈ ns := by
        rcases edges_mem hq' with ⟨g, hg, m⟩ | m
        · exact (mem x).mp (ring_facts eqq mnd m).2.2.2.2.1
        · exact (mem x).mp (Hh.sub x (leadE_mem.mp m).1)
      have hy : y ∈ ns := by
        rcases d_named hv' b with e | ⟨r, hr, e⟩
        · exact absurd e.symm a
        · obtain ⟨a1, b1, _⟩ := mem_entr.mp hr
          rcases e with e | e
          · exact e ▸ a1
          · exact e ▸ TO.S.sub _ a1 _ b1
      exact ⟨a, TO.sub x hx, TO.sub y hy⟩
    have sameF : SameS (edgesE (eqB (entr ns rk rv)) (Wt (entr ns rk rv)) (cB (entr ns rk rv) (headsOf (eqB (entr ns rk rv)) ms)) (headsOf (eqB (entr ns rk rv)) ms) ms) R := fun u => by
      rw [TO.eq u]
      constructor
      · intro hu
        exact edges_tell T hv' Hh inms hu
      · intro hu
        refine fun q' hq' => ?_
        obtain ⟨x, y, c⟩ := q'
        exact d_told hv' (Ed.own x y c hq').2 u hu
    refine q H' p _ s np hS sameF own (pairs_few Ed.two (fun q' hq' => (own q' hq').1) fun q' hq' => (own q' hq').2) ⟨sameF, fun q' hq' => ?_, fun G hG => ?_⟩
    · obtain ⟨x, y, c⟩ := q'
      obtain ⟨o1, o2⟩ := Ed.own x y c hq'
      exact ⟨o1, by rw [d_congr hv TO.eq]; exact o2⟩
    · refine fewest_least Ed hv' (fun u => (hG u).trans (TO.eq u)) fun a m z am h => ?_
      have hm : m ∈ ms := by
        rcases d_named hv' h with e | ⟨r, hr, e⟩
        · exact absurd e.symm am
        · obtain ⟨i1, i2⟩ := inms r hr
          rcases e with e | e
          · exact e ▸ i1
          · exact e ▸ i2
      obtain ⟨hd, hh, eh⟩ := Hh.cover m hm
      exact ⟨hd, hh, (T.e hd m).mp eh⟩
end
end Lo
namespace Lo
open PySem L2
abbrev sLiesIn : Stmt := top 18
/-- what is read while another thing is locked, or itself -/
theorem rdX {H H' : Hp} {o : Addr} {od : Obj} {u : HO} (sx : SameX o H H') (ho : H o = some u) (hf : H' o = some (.frz od u)) {b : Addr} {w : HO} (hb : H b = some w) : Rd H' b w := by
  by_cases e : b = o
  · subst e
    rw [ho] at hb
    cases hb
    exact .inr ⟨od, hf⟩
  · exact .inl (sx b w e hb)
theorem rdX2 {H H' : Hp} {o : Addr} {od : Obj} {kvs : List (Key × V)} (sx : SameX o H H') (ho : H o = some (.dK kvs)) (hf : H' o = some (.frz od (.dK kvs))) {b : Addr} {w : HO} (hb : Rd H b w) : Rd H' b w := by
  rcases hb with hb | ⟨z, hb⟩
  · exact rdX sx ho hf hb
  · refine .inr ⟨z, sx b _ (fun e => ?_) hb⟩
    rw [e, ho] at hb
    cases hb
theorem rgetI {H : Hp} {a : Addr} {ks : List Str} {f : Str → V} (x : Str) (e : Rd H a (.dK (dS ks f))) : DGet H a (.str x) (if x ∈ ks then some (f x) else none) := by
  by_cases m : x ∈ ks
  · rw [if_pos m]
    exact rget e m
  · rw [if_neg m]
    exact rget0 e m
section
variable {P : Program} {w : World} {K : PySem.W.Frag} {mg : Str → Option Value} {base : Heap}
/-! ### lies_in -/
def spLiesIn : Sp := fun vs H Q _ => ∃ (t o : Addr) (R O : List SRow) (zs zs' : List Str), vs = [.ref t, .ref o] ∧ TabR H t R zs ∧ TabR H o O zs' ∧ ∀ (H' : Hp) (b : Bool), Same H H' → (b = true ↔ Within R O) → Q (.bl b) H'
abbrev nLiesIn : List Str := ["table", "outer", "left", "row", "mine", "right", "limit"]
theorem scLiesIn : FnScope nLiesIn ["table", "outer"] (defScope sLiesIn) := ⟨rfl, rfl, rfl, by decide +kernel, rfl, by decide +kernel, by decide +kernel⟩
theorem ok_liesin {f : Addr} {fd : FuncData} (F : Fun K "lies_in" "lies_in" sLiesIn f fd) : FnOk P w K mg base CX0 1 f fd ["table", "outer"] spLiesIn := by
  refine F.ok scLiesIn (fun vs H Q E h => ?_) (fun cdv A outer s H vs Q E hr h => ?_)
  · obtain ⟨t, o, R, O, zs, zs', rfl, _⟩ := h
    rfl
  · obtain ⟨t, o, R, O, zs, zs', rfl, hT, hO, q⟩ := h
    obtain ⟨ns, ra, rk, rv, T⟩ := hT.opened
    obtain ⟨os, ro, ko, vo, S⟩ := hO.opened
    obtain ⟨v, hv⟩ := T.sat
    have nd := scLiesIn.nd
    have hu := hu_of hr
    have told : ∀ b : Bool, (b = true ↔ ∀ x ∈ os, ∀ y ∈ ko x, x ≠ y → x ∈ ns ∧ y ∈ rk x ∧ rv x y ≤ vo x y) → (b = true ↔ Within R O) := fun b hb => by
      have e1 : Within R O ↔ Within R (entr os ko vo) := ⟨fun h u hu => (S.eq u).mp (h u hu), fun h u hu => (S.eq u).mpr (h u hu)⟩
      rw [hb, e1, within_iff hv]
      constructor
      · intro h q' hq'
        obtain ⟨a, b', c⟩ := mem_entr.mp hq'
        rw [c]
        by_cases e : q'.1 = q'.2.1
        · refine ⟨0, by rw [← e]; exact d_self hv _, ?_⟩
          rw [← e, (S.S.self _ a).2]
          exact Int.le_refl _
        · obtain ⟨h1, h2, h3⟩ := h _ a _ b' e
          exact ⟨_, (T.val _ h1 _).trans (if_pos h2), h3⟩
      · intro h x hx y hy ne
        obtain ⟨k, e, l⟩ := h (x, y, vo x y) (mem_entr.mpr ⟨hx, hy, rfl⟩)
        have hxn : x ∈ ns := by
          refine Classical.byContradiction fun n => ?_
          have : ∀ r ∈ R, r.1 ≠ x := fun r hr' e' => by
            exact n (T.named x ⟨r, hr', .inl e'.symm⟩)
          have := d_alone hv this y
          rw [if_neg (fun e => ne e.symm), e] at this
          cases this
        have e2 := T.val x hxn y
        rw [e] at e2
        split at e2
        · rename_i m
          have := Option.some.inj e2
          exact ⟨hxn, m, by dsimp only at l; omega⟩
        · cases e2
    refine ⟨_, pss_cons (ps_lock (ps_for PassesOwn.never rfl (pi_items (pv 1)) (pg_tup rfl (pgs_cons (pg_name (i := 2) nd rfl (.inl rfl)) (pgs_cons (pg_name (i := 3) nd rfl (.inl rfl)) pgs_nil)))
        (pss_cons (ps_set (i := 4) nd rfl (.inl rfl) (pe_dget1 hu (pv 0) (pv 2) ⟨rfl, rfl, rfl, rfl⟩))
        (pss_one (ps_lock (ps_for PassesOwn.never rfl (pi_items (pv 3)) (pg_tup rfl (pgs_cons (pg_name (i := 5) nd rfl (.inl rfl)) (pgs_cons (pg_name (i := 6) nd rfl (.inl rfl)) pgs_nil)))
          (pss_one (ps_if (PW.pt (pw_and (pt_cmpR op_ne (pv 2) (pv 5) (nomark _)) (pw_and1 (PW.pt (pw_or (pt_cmpR op_isN (pv 4) pe_non (nomark _)) (pw_or (pt_cmp (pc_dnotin hu (pv 5) (pv 4))) (pw_or1 (pt_cmpR op_gt (pe_dget hu (pv 4) (pv 5) (fun _ _ => rfl)) (pv 6) (nomark _))))))))) (pss_one (ps_ret pe_bl)) pss_nil))))))))
      (pss_one (ps_ret pe_bl)), ?_⟩
    have rowO : ∀ x ∈ os, H (ro x) = some (.dK (dS (ko x) fun y => .int (vo x y))) := S.G.row
    refine ⟨o, _, S.G.dict, trivial, fun od => ?_⟩
    have back : ∀ {H' : Hp}, SameX o H H' → Same H (upd H' o (.dK (dS os fun x => .ref (ro x)))) := fun sx => sameX_back S.G.dict sx
    refine ⟨.ref o, rfl, o, od, _, rfl, upd_same, for_it walk_items (fun i σ H' => ∃ (y2 y3 y4 y5 y6 : Option V), σ = [some (.ref t), some (.ref o), y2, y3, y4, y5, y6] ∧ SameX o H H' ∧ H' o = some (.frz od (.dK (dS os fun x => .ref (ro x)))) ∧
        ∀ x ∈ os.take i, ∀ y ∈ ko x, x ≠ y → x ∈ ns ∧ y ∈ rk x ∧ rv x y ≤ vo x y)
      ⟨none, none, none, none, none, rfl, fun b o hb e => by rw [upd_ne hb]; exact e, upd_same, fun x h => absurd h List.not_mem_nil⟩ (fun i σ H' _ ⟨_, _, _, _, _, _, _, e, _⟩ => e) ?_ ?_⟩
    · rintro i z σ H1 H2 hi ⟨y2, y3, y4, y5, y6, rfl, s1, ho1, prev⟩ ⟨tp, x1, x2, rfl, ntp, rfl, e1, e2⟩
      have hi' : i < os.length := by
        rw [dS_len] at hi
        exact hi
      dsimp only at e1 e2
      rw [dS_at hi'] at e1 e2
      obtain rfl := Option.some.inj e1
      obtain rfl := Option.some.inj e2
      have sT := same_upd (o := HO.tup [kV (Sum.inr os[i]), V.ref (ro os[i])]) ntp
      have etake : os.take (i + 1) = os.take i ++ [os[i]] := by rw [List.take_add_one, List.getElem?_eq_getElem hi']; rfl
      have hx : os[i] ∈ os := List.getElem_mem hi'
      have s2 := s1.trans (same_x sT)
      have ho2 := sT _ _ ho1
      refine ⟨tp, _, rfl, SqT.of upd_same, rfl, _, _, rfl, _, _, rfl, rfl, ?_⟩
      rw [etake]
      generalize upd H1 tp (.tup [kV (Sum.inr os[i]), V.ref (ro os[i])]) = H2 at s2 ho2 ⊢
      generalize os[i] = x at *
      have hrow := s2 _ _ (S.G.off x hx) (S.G.row x hx)
      have rdt : Rd H2 t (.dK (dS ns fun x => .ref (ra x))) := rdX s2 S.G.dict ho2 T.G.dict
      refine ⟨.ref t, rfl, t, rfl, .inl ⟨_, rdt⟩, .str x, rfl, _, rgetI x rdt, ?_⟩
      refine ⟨ro x, _, hrow, trivial, fun od2 => ?_⟩
      refine ⟨.ref (ro x), rfl, ro x, od2, _, rfl, upd_same, for_it walk_items (fun j σ' H' => ∃ (y5 y6 : Option V), σ' = [some (.ref t), some (.ref o), some (.str x), some (.ref (ro x)), some ((if x ∈ ns then some (V.ref (ra x)) else none).getD .non), y5, y6] ∧ SameX (ro x) H2 H' ∧ H' (ro x) = some (.frz od2 (.dK (dS (ko x) fun y => .int (vo x y)))) ∧
          ∀ y ∈ (ko x).take j, x ≠ y → x ∈ ns ∧ y ∈ rk x ∧ rv x y ≤ vo x y)
        ⟨y5, y6, rfl, fun b o hb e => by rw [upd_ne hb]; exact e, upd_same, fun y h => absurd h List.not_mem_nil⟩ (fun j σ' H' _ ⟨_, _, _, _, e, _⟩ => e) ?_ ?_⟩
      · rintro j z σ' H3 H4 hj ⟨y5, y6, rfl, s3, hr3, prev2⟩ ⟨tq, w1, w2, rfl, ntq, rfl, d1, d2⟩
        have hj' : j < (ko x).length := by
          rw [dS_len] at hj
          exact hj
        dsimp only at d1 d2
        rw [dS_at hj'] at d1 d2
        obtain rfl := Option.some.inj d1
        obtain rfl := Option.some.inj d2
        have sT2 := same_upd (o := HO.tup [kV (Sum.inr (ko x)[j]), V.int (vo x (ko x)[j])]) ntq
        have etake2 : (ko x).take (j + 1) = (ko x).take j ++ [(ko x)[j]] := by rw [List.take_add_one, List.getElem?_eq_getElem hj']; rfl
        have hy : (ko x)[j] ∈ ko x := List.getElem_mem hj'
        have s4 := s3.trans (same_x sT2)
        have hr4 := sT2 _ _ hr3
        refine ⟨tq, _, rfl, SqT.of upd_same, rfl, _, _, rfl, _, _, rfl, rfl, ?_⟩
        rw [etake2]
        generalize upd H3 tq (.tup [kV (Sum.inr (ko x)[j]), V.int (vo x (ko x)[j])]) = H4 at s4 hr4 ⊢
        generalize (ko x)[j] = y at *
        have b2 : Same H2 (upd H4 (ro x) (.dK (dS (ko x) fun y => .int (vo x y)))) := sameX_back hrow s4
        have bad : ¬ (x ∈ ns ∧ y ∈ rk x ∧ rv x y ≤ vo x y) → x ≠ y → Q (.bl false) (upd (upd H4 (ro x) (.dK (dS (ko x) fun y => .int (vo x y)))) o (.dK (dS os fun x => .ref (ro x)))) := fun no ne =>
          q _ false (back (s2.trans (same_x b2))) (told false ⟨(fun z => nomatch z), fun hs => absurd (hs x hx y hy ne) no⟩)
        have good : (x ≠ y → x ∈ ns ∧ y ∈ rk x ∧ rv x y ≤ vo x y) → ∀ g ∈ (ko x).take j ++ [y], x ≠ g → x ∈ ns ∧ g ∈ rk x ∧ rv x g ≤ vo x g := fun k g hg => by
          rcases List.mem_append.mp hg with m | m
          · exact prev2 g m
          · rw [List.mem_singleton.mp m]
            exact k
        refine ⟨.str x, rfl, .str y, rfl, rfl, _, rfl, ite2 (fun c => ?_) (fun c => ?_)⟩
        · have ne : x ≠ y := fun e => by
            subst e
            simp at c
          by_cases mx : x ∈ ns
          · rw [if_pos mx]
            have rdm : Rd H4 (ra x) (.dK (dS (rk x) fun y => .int (rv x y))) := rdX2 s4 hrow hr4 (rdX s2 S.G.dict ho2 (T.G.row x mx))
            refine ⟨_, rfl, rfl, _, rfl, iteF ?_⟩
            by_cases my : y ∈ rk x
            · refine ⟨.str y, rfl, .ref (ra x), rfl, ra x, _, rfl, rget rdm my, _, rfl, iteF ?_⟩
              refine ⟨.ref (ra x), rfl, .str y, rfl, ra x, _, rfl, rget rdm my, .int (vo x y), rfl, _, _, rfl, rfl, _, rfl, ite2 (fun e => ?_) (fun e => ?_)⟩
              · have lt : vo x y < rv x y := of_decide_eq_true e
                exact ⟨hr4, b2 _ _ ho2, bad (fun z => by have := z.2.2; omega) ne⟩
              · have le : ¬ vo x y < rv x y := fun z => e (decide_eq_true z)
                exact ⟨_, _, rfl, s4, hr4, good fun _ => ⟨mx, my, by omega⟩⟩
            · refine ⟨.str y, rfl, .ref (ra x), rfl, ra x, _, rfl, rget0 rdm my, _, rfl, iteT ?_⟩
              exact ⟨hr4, b2 _ _ ho2, bad (fun z => my z.2.1) ne⟩
          · rw [if_neg mx]
            refine ⟨_, rfl, rfl, _, rfl, iteT ?_⟩
            exact ⟨hr4, b2 _ _ ho2, bad (fun z => mx z.1) ne⟩
        · have e : x = y := by
            simp at c
            exact c
          exact ⟨_, _, rfl, s4, hr4, good fun ne => absurd e ne⟩
      · rintro σ' H3 ⟨y5, y6, rfl, s3, hr3, prev2⟩
        rw [dS_len, List.take_length] at prev2
        have b2 : Same H2 (upd H3 (ro x) (.dK (dS (ko x) fun y => .int (vo x y)))) := sameX_back hrow s3
        refine ⟨hr3, _, _, _, _, _, rfl, s2.trans (same_x b2), b2 _ _ ho2, fun g hg => ?_⟩
        rcases List.mem_append.mp hg with m | m
        · exact prev g m
        · rw [List.mem_singleton] at m
          exact m ▸ prev2
    · rintro σ H1 ⟨y2, y3, y4, y5, y6, rfl, s1, ho1, prev⟩
      rw [dS_len, List.take_length] at prev
      exact ⟨ho1, q _ true (back s1) (told true ⟨fun _ => prev, fun _ => rfl⟩)⟩
end
end Lo
set_option maxHeartbeats 4000000
/-! sorted(l, key=f), f a def or a built-in that gives whole numbers -/
namespace KyS
open PySem PySem.Spec PyProof.Rows L2
section
variable {X : Cx} {pins : List (Addr × Obj)} {σ : L2.St} {H : Hp} {s : Shared} {a kS : Addr}
/-- an object that is not tracked as yet is tracked from here on -/
theorem adopt {o : HO} (I : Inv X pins σ H s) (fa : FpOk X pins H a) (new : ObjOk X.prog X.w (upd H a o) s.heap a o) : Inv X pins σ (upd H a o) s := by
  obtain ⟨f0, f1, f2, f3, f4, f5⟩ := fa
  have out : ∀ {b : Addr} {u : HO}, H b = some u → upd H a o b = some u := fun {b u} e => by
    rw [upd_ne (ne_of_none e f0)]
    exact e
  refine ⟨I.ok, I.os, I.bare, ?_, I.loc, I.cell, ?_, fun x c e => ?_, fun p hp => ?_, fun b u e => ?_, I.len⟩
  · have B := I.base
    refine ⟨B.keep, B.slot, fun b ob e n hx => ?_, B.there, fun b xs e => out (B.tups b xs e), fun b ob u e => out (B.frzs b ob u e), fun b ps e => ?_⟩
    · have nb : b ≠ a := fun z => by
        subst z
        rcases f3 with h | h
        · exact hx h
        · exact absurd (Heap.lt_size e) (Nat.not_lt.mpr h)
      rw [upd_ne nb]
      exact B.free b ob e n hx
    · obtain ⟨more, e2⟩ := B.tbls b ps e
      exact ⟨more, out e2⟩
  · rw [upd_ne (Ne.symm f1)]
    exact I.free
  · rw [upd_ne (f4 x c e)]
    exact I.freeC x c e
  · obtain ⟨h1, h2, h3⟩ := I.pin p hp
    exact ⟨h1, by rw [upd_ne (f5 p hp)]; exact h2, h3⟩
  · by_cases z : b = a
    · subst z
      rw [upd_same] at e
      cases e
      exact new
    · rw [upd_ne z] at e
      exact (I.hok b u e).stay (fun c v _ q => q) (fun c q => out q) fun c xs q => out q
/-- a change of an object that is not tracked -/
theorem turn1 {h' : Heap} (I : Inv X pins σ H s) (fa : FpOk X pins H a) (hs : Heap.SameBut a s.heap h') : Inv X pins σ H { s with heap := h' } := by
  obtain ⟨f0, f1, f2, f3, f4, f5⟩ := fa
  exact I.turned (t' := s.toks) (fun b o hb e => (hs.2 b hb).trans e) f0 f1 f3 f4 f5
/-- while the keys are asked for: the emptied list at a, the keys at kS -/
structure KS (X : Cx) (pins : List (Addr × Obj)) (σ : L2.St) (H : Hp) (a kS : Addr) (e1 : Nat) (kA : Array Value) (e : Nat) (s : Shared) : Prop where
  inv : Inv X pins σ H s
  ga : s.heap.get? a = some (seqObj "list" #[] e1)
  gk : s.heap.get? kS = some (seqObj "list" kA e)
section
variable {A : Around} {E : Value → Shared → Prop} {e e1 : Nat} {vs : List Value} {kz : List Int} {keys : Array Value} {P : PySem.Fin → Shared → Prop}
theorem tail_ {st : SortSt} (fa : FpOk X pins H a) (fk : FpOk X pins H kS) (hka : kS ≠ a) (S : KS X pins σ H a kS e1 keys e s)
    (hk : IntsAre keys.toList kz) (hlen : kz.length = vs.length) (hZ : vs.length ≤ sizeLine) (hp : (arrOf st).Perm (keys.zip vs.toArray)) (hs : SortedTo (arrOf st) (arrOf st).size) (hfl : failedOf st = none) (hst : Stable intKind (arrOf st) (keys.zip vs.toArray))
    (h : ∀ s' out c, Inv X pins σ H s' → s'.heap.get? a = some (seqObj "list" out c) → KskOutSt false kz vs out.toList → P (.done (.ret .none)) s') :
    wpAny (model X.prog X.w) A (ksk_tail a false e1 (.ref kS) st) P E s := by
  have hZ2 := hZ
  rw [sizeLine_eq] at hZ2
  have nk := S.gk
  have na := S.ga
  have hsz : keys.size = vs.length := by
    have h1 := hk.length
    rw [Array.length_toList] at h1
    omega
  have hsz2 : (arrOf st).size = vs.length := by rw [hp.size_eq, Array.size_zip, hsz, List.size_toArray, Nat.min_self]
  have hout : ((arrOf st).map (·.2)).size = vs.length := by
    rw [Array.size_map]
    exact hsz2
  have s1 := Heap.SameBut.update s.heap kS (Obj.mapSeq fun _ => (#[] : Array Value))
  have na1 : (s.heap.update kS (Obj.mapSeq fun _ => (#[] : Array Value))).get? a = some (seqObj "list" #[] e1) := (s1.2 a hka.symm).trans na
  have s2 := Heap.SameBut.update (s.heap.update kS (Obj.mapSeq fun _ => (#[] : Array Value))) a (Obj.mapSeq fun _ => (arrOf st).map (·.2))
  obtain ⟨c2, hc2⟩ : ∃ c2, ((s.heap.update kS (Obj.mapSeq fun _ => (#[] : Array Value))).update a (Obj.mapSeq fun _ => (arrOf st).map (·.2))).get? a = some (seqObj "list" ((arrOf st).map (·.2)) c2) :=
    ⟨_, get?_update_seq na1 fun _ => (arrOf st).map (·.2)⟩
  have I1 := turn1 S.inv fk s1
  have I2 := turn1 I1 fa s2
  unfold ksk_tail
  try dsimp only
  refine wpAny_bind (listUpdate_at nk rfl ?_ (by rw [hsz, sizeLine_eq]; omega) (Nat.zero_le _))
  refine wpAny_bind (wpAny_letGo ?_)
  refine wpAny_bind (seqEpoch_at na1 rfl ?_)
  refine wpAny_bind (listUpdate_at na1 rfl ?_ (Nat.zero_le _) (Nat.le_trans (Nat.le_of_eq hout) (by rw [sizeLine_eq]; omega)))
  rw [hfl]
  simp only [bne_self_eq_false, Bool.false_eq_true, if_false]
  exact wpAny_pure (h _ _ c2 I2 hc2 (by
    have := ksk_outSt (b := false) hk hp hs (by simpa using hst)
    simpa using this))
theorem end_ (fa : FpOk X pins H a) (fk : FpOk X pins H kS) (hka : kS ≠ a) (S : KS X pins σ H a kS e1 keys e s) (hk : IntsAre keys.toList kz) (hlen : kz.length = vs.length) (hZ : vs.length ≤ sizeLine)
    (h : ∀ s' out c, Inv X pins σ H s' → s'.heap.get? a = some (seqObj "list" out c) → KskOutSt false kz vs out.toList → P (.done (.ret .none)) s') :
    wpAny (model X.prog X.w) A (ksk_end a false vs.toArray e1 (.ref kS) keys) P E s := by
  have hZ2 := hZ
  rw [sizeLine_eq] at hZ2
  have hsz : keys.size = vs.length := by
    have h1 := hk.length
    rw [Array.length_toList] at h1
    omega
  have hzs : (keys.zip vs.toArray).size = vs.length := by rw [Array.size_zip, hsz, List.size_toArray, Nat.min_self]
  unfold ksk_end
  simp only [Bool.false_eq_true, if_false]
  try dsimp only
  by_cases h2 : vs.toArray.size < 2
  · rw [if_pos h2, if_pos h2]
    refine wpAny_bind (wpAny_pure ?_)
    rw [StateT.run_pure]
    refine wpAny_bind (wpAny_pure ?_)
    try dsimp only
    refine tail_ (st := SortSt.mk' general' (keys.zip vs.toArray) #[] 7 none) fa fk hka S hk hlen hZ (Array.Perm.refl _) ?_ rfl (Stable.refl _) h
    intro i j hij hj
    have hj2 : j < (keys.zip vs.toArray).size := hj
    rw [hzs] at hj2
    rw [List.size_toArray] at h2
    have : i = j := by omega
    subst this
    exact Int.le_refl _
  · rw [if_neg h2, if_neg h2]
    rw [List.size_toArray] at h2
    rw [ksk_kind hk (by rw [hsz]; omega)]
    refine wpAny_bind (wpAny_pure ?_)
    refine wpAny_bind (wpAny_mono (wpS_sortRunsSt (κ := intKind) (a₀ := keys.zip vs.toArray)
      (st := SortSt.mk' oneType' (keys.zip vs.toArray) #[] 7 none)
      (Q := fun _ st' => (arrOf st').Perm (keys.zip vs.toArray) ∧ failedOf st' = none ∧ SortedTo (arrOf st') (arrOf st').size ∧ Stable intKind (arrOf st') (keys.zip vs.toArray))
      intKind_oneLt (ksk_keysOfInt (ksk_intKeys hk)) ⟨Array.Perm.refl _, rfl, rfl⟩ rfl (Stable.refl _) (by rw [hzs]; omega)
      fun st' a1 a2 a3 a4 => ⟨a1, a2, by rw [a1.size_eq]; exact sortedTo_of_int a3, a4⟩) ?_ fun _ _ e => e)
    rintro ⟨⟨⟩, st'⟩ s' ⟨rfl, hp, hf, hs, hst⟩
    try dsimp only
    exact tail_ fa fk hka S hk hlen hZ hp hs hf hst h
/-- what is asked of the key: it gives kz, and leaves what is told as it is -/
def Turn1 (X : Cx) (pins : List (Addr × Obj)) (σ : L2.St) (H : Hp) (A : Around) (f : Value) (vs : List Value) (kz : List Int) : Prop :=
  ∀ (i : Nat) (v : Value) (k : Int), vs[i]? = some v → kz[i]? = some k → ∀ (pins' : List (Addr × Obj)) (s' : Shared), Inv X (pins ++ pins') σ H s' →
    wpAny (model X.prog X.w) A (call f [v]) (fun r s'' => ∃ t, r = .int k t ∧ Inv X (pins ++ pins') σ H s'') (fun _ _ => False) s'
theorem rest_ {f : Value} (fa : FpOk X pins H a) (fk : FpOk X pins H kS) (hka : kS ≠ a) (S : KS X pins σ H a kS e1 #[] 0 s) (hlen : kz.length = vs.length) (hZ : vs.length ≤ sizeLine) (turn : Turn1 X pins σ H A f vs kz)
    (h : ∀ s' out c, Inv X pins σ H s' → s'.heap.get? a = some (seqObj "list" out c) → KskOutSt false kz vs out.toList → P (.done (.ret .none)) s') :
    wpAny (model X.prog X.w) A (ksk_rest a f false vs.toArray e1 (.ref kS)) P E s := by
  have hZ2 := hZ
  rw [sizeLine_eq] at hZ2
  unfold ksk_rest
  refine wpAny_bind (wpAny_rule ?_)
  first
    | rw [List.forIn_toArray]
    | (rw [← Array.forIn_toList]; simp only [List.toList_toArray])
    | rw [← Array.forIn_toList]
  refine wpAny_bind (ksk_fold (fun i s' => ∃ kA e, KS X pins σ H a kS e1 kA e s' ∧ IntsAre kA.toList (kz.take i)) vs 0 s
    ⟨#[], 0, S, by simpa using IntsAre.nil⟩ ?step ?done)
  case step =>
    rintro j x s' hx ⟨kA, e, S', hk⟩
    simp only [Nat.zero_add] at hk ⊢
    have hj : j < vs.length := (List.getElem?_eq_some_iff.mp hx).1
    obtain ⟨k, hkj⟩ : ∃ k, kz[j]? = some k := ⟨_, List.getElem?_eq_getElem (by omega)⟩
    have hz : kA.size ≤ vs.length := by
      have h1 := hk.length
      rw [Array.length_toList, List.length_take] at h1
      omega
    have nc : ∀ (xs : Array Value) (n : Nat) (v : Option Value), (seqObj "list" xs n).data ≠ .cell v := fun xs n v q => nomatch q
    have I2 : Inv X (pins ++ [(a, seqObj "list" #[] e1), (kS, seqObj "list" kA e)]) σ H s' := S'.inv.pins_of fun p hp => by
      rcases List.mem_append.mp hp with m | m
      · exact S'.inv.pin p (List.mem_append_right _ m)
      · rcases List.mem_cons.mp m with rfl | m
        · obtain ⟨f0, f1, f2, f3, f4, f5⟩ := fa
          exact ⟨S'.ga, f0, f1, f2, nc _ _⟩
        · rw [List.mem_singleton] at m
          subst m
          obtain ⟨f0, f1, f2, f3, f4, f5⟩ := fk
          exact ⟨S'.gk, f0, f1, f2, nc _ _⟩
    refine wpAny_bind (wpAny_attempt (wpAny_mono (turn j x k hx hkj _ s' I2) (fun v s'' he => ?_) fun _ _ hF => hF.elim))
    obtain ⟨t2, rfl, I3⟩ := he
    try dsimp only
    have na := (I3.pin (a, seqObj "list" #[] e1) (List.mem_append_right _ (List.mem_append_right _ (.head _)))).1
    have nk := (I3.pin (kS, seqObj "list" kA e) (List.mem_append_right _ (List.mem_append_right _ (.tail _ (.head _))))).1
    have I4 : Inv X pins σ H s'' := I3.pins_of fun p hp => I3.pin p (List.mem_append_right _ (List.mem_append_left _ hp))
    have s1 := Heap.SameBut.update s''.heap kS (Obj.mapSeq (·.push (.int k t2)))
    obtain ⟨c2, hc2⟩ : ∃ c2, (s''.heap.update kS (Obj.mapSeq (·.push (.int k t2)))).get? kS = some (seqObj "list" (kA.push (.int k t2)) c2) := ⟨_, get?_update_seq nk (·.push (.int k t2))⟩
    have ek : kz.take (j + 1) = kz.take j ++ [k] := by rw [List.take_add_one, hkj]; simp
    have ea : (kA.push (Value.int k t2)).toList = kA.toList ++ [Value.int k t2] := by simp
    refine wpAny_bind (listUpdate_at nk rfl ?_ (by rw [sizeLine_eq]; omega) (Nat.le_trans (Nat.le_of_eq (Array.size_push ..)) (by rw [sizeLine_eq]; omega)))
    exact wpAny_pure ⟨rfl, kA.push (.int k t2), c2, ⟨turn1 I4 fk s1, (s1.2 a hka.symm).trans na, hc2⟩, by rw [ea, ek]; exact ksk_snoc hk⟩
  case done =>
    rintro s' ⟨kA, e, S', hk⟩
    have hk' : IntsAre kA.toList kz := by
      have e3 : kz.take (0 + vs.length) = kz := List.take_of_length_le (by omega)
      rw [e3] at hk
      exact hk
    try dsimp only
    refine wpAny_bind (listItems_at S'.gk rfl ?_)
    exact end_ fa fk hka S' hk' hlen hZ h
theorem sort_ {f : Value} {n : Nat} (I : Inv X pins σ H s) (ho : s.heap.get? a = some (seqObj "list" vs.toArray n)) (fa : FpOk X pins H a) (hlen : kz.length = vs.length) (hZ : vs.length ≤ sizeLine) (turn : Turn1 X pins σ H A f vs kz)
    (h : ∀ s' out c, Inv X pins σ H s' → s'.heap.get? a = some (seqObj "list" out c) → KskOutSt false kz vs out.toList → P (.done (.ret .none)) s') :
    wpAny (model X.prog X.w) A (ksk_tree a f false) P E s := by
  have hZ2 := hZ
  rw [sizeLine_eq] at hZ2
  have ha : a < s.heap.objs.size := Heap.lt_size ho
  have s1 := Heap.SameBut.update s.heap a (Obj.mapSeq fun _ => (#[] : Array Value))
  obtain ⟨e1, ho1⟩ : ∃ e1, (s.heap.update a (Obj.mapSeq fun _ => (#[] : Array Value))).get? a = some (seqObj "list" #[] e1) := ⟨_, get?_update_seq ho fun _ => #[]⟩
  have hkS : ((s.heap.update a (Obj.mapSeq fun _ => (#[] : Array Value))).push (seqObj "tuple" vs.toArray 0)).objs.size = s.heap.objs.size + 1 := by rw [size_push', Heap.size_update]
  have I1 := turn1 I fa s1
  unfold ksk_tree
  refine wpAny_bind (listItems_at ho rfl ?_)
  refine wpAny_bind (listUpdate_at ho rfl ?_ (by rw [List.size_toArray, sizeLine_eq]; omega) (Nat.zero_le _))
  refine wpAny_bind (seqEpoch_at ho1 rfl ?_)
  refine wpAny_bind (wpAny_newTuple ?_ (by show vs.length ≤ _; rw [sizeLine_eq]; omega))
  refine wpAny_bind (wpAny_newList ?_ (Nat.zero_le _))
  refine wpAny_holding ?_
  have I2 : Inv X pins σ H { s with heap := ((s.heap.update a (Obj.mapSeq fun _ => (#[] : Array Value))).push (seqObj "tuple" vs.toArray 0)) } := I1.kept (t' := s.toks) fun b o e => Heap.get?_push_of_some _ e
  have I3 : Inv X pins σ H { s with heap := ((s.heap.update a (Obj.mapSeq fun _ => (#[] : Array Value))).push (seqObj "tuple" vs.toArray 0)).push (seqObj "list" #[] 0) } := I2.kept (t' := s.toks) fun b o e => Heap.get?_push_of_some _ e
  have fk : FpOk X pins H ((s.heap.update a (Obj.mapSeq fun _ => (#[] : Array Value))).push (seqObj "tuple" vs.toArray 0)).objs.size := I2.fpOk (Nat.le_refl _) (I2.hok.fresh (Nat.le_refl _))
  exact rest_ (s := { s with heap := ((s.heap.update a (Obj.mapSeq fun _ => (#[] : Array Value))).push (seqObj "tuple" vs.toArray 0)).push (seqObj "list" #[] 0) }) (kS := ((s.heap.update a (Obj.mapSeq fun _ => (#[] : Array Value))).push (seqObj "tuple" vs.toArray 0)).objs.size)
    fa fk (by rw [hkS]; exact Nat.ne_of_gt (Nat.lt_succ_of_lt ha)) ⟨I3, Heap.get?_push_of_some _ (Heap.get?_push_of_some _ ho1), Heap.get?_push_size _ rfl⟩ hlen hZ turn h
end
section
variable {A : Around} {E : Value → Shared → Prop} {l : Addr} {vs : List Value} {kz : List Int} {Q : Value → Shared → Prop}
theorem sorted_ {f : Value} {kw : List (Str × Value)} (I : Inv X pins σ H s) (hl : s.heap.IsList l vs.toArray) (hlen : kz.length = vs.length) (hZ : vs.length ≤ sizeLine)
    (ha1 : argsOk "sorted" ⟨[.ref l], kw⟩) (ha2 : ∀ x, argsOk "list.sort" ⟨[.ref x], kw⟩) (ht : ∀ x, Builtin.«list.sort» ⟨[.ref x], kw⟩ = ksk_tree x f false) (turn : Turn1 X pins σ H A.in1.in1 f vs kz)
    (h : ∀ D s' out c, Inv X pins σ H s' → FpOk X pins H D → H D = none → s'.heap.get? D = some (seqObj "list" out c) → KskOutSt false kz vs out.toList → Q (.ref D) s') :
    wpAny (model X.prog X.w) A (call (.builtin "sorted") [.ref l] kw) Q E s := by
  have hZ2 := hZ
  rw [sizeLine_eq] at hZ2
  refine call_function_entry_kw kind_sorted plain_sorted entry_sorted ha1 ?_
  unfold Builtin.«sorted»
  refine wpAny_bind (m := checkCount "sorted" 1 1 _) (wpAny_pure ?_)
  refine wpAny_bind (collect_list hl ?_ (by rw [sizeLine_eq]; omega))
  refine wpAny_bind (wpAny_newList ?_ (by rw [sizeLine_eq]; omega))
  have hsz : ((s.heap.push (seqObj "list" #[] 0)).update s.heap.objs.size (Obj.mapSeq (· ++ vs.toArray))).objs.size = s.heap.objs.size + 1 := by
    rw [Heap.size_update, size_push']
  have hoL : (((s.heap.push (seqObj "list" #[] 0)).update s.heap.objs.size (Obj.mapSeq (· ++ vs.toArray))).push (seqObj "list" vs.toArray 0)).get? (s.heap.objs.size + 1) = some (seqObj "list" vs.toArray 0) := by
    rw [← hsz]; exact Heap.get?_push_size _ rfl
  have keep : ∀ b o, s.heap.get? b = some o → (((s.heap.push (seqObj "list" #[] 0)).update s.heap.objs.size (Obj.mapSeq (· ++ vs.toArray))).push (seqObj "list" vs.toArray 0)).get? b = some o := fun b o q => by
    have hlt : b < s.heap.objs.size := Heap.lt_size q
    rw [Heap.get?_push_ne _ _ _ (by rw [hsz]; exact Nat.ne_of_lt (Nat.lt_succ_of_lt hlt)), Heap.get?_update_ne _ _ _ _ (Nat.ne_of_lt hlt), Heap.get?_push_ne _ _ _ (Nat.ne_of_lt hlt)]
    exact q
  show wpAny _ _ _ _ _ { s with heap := ((s.heap.push (seqObj "list" #[] 0)).update s.heap.objs.size (Obj.mapSeq (· ++ vs.toArray))).push (seqObj "list" vs.toArray 0) }
  rw [hsz]
  have I1 : Inv X pins σ H { s with heap := ((s.heap.push (seqObj "list" #[] 0)).update s.heap.objs.size (Obj.mapSeq (· ++ vs.toArray))).push (seqObj "list" vs.toArray 0) } := I.kept (t' := s.toks) keep
  have fD : FpOk X pins H (s.heap.objs.size + 1) := I.fpOk (Nat.le_succ _) (I.hok.fresh (Nat.le_succ _))
  refine wpAny_bind (wpAny_holding (wpAny_call_entry_kw slot_list_sort ⟨_, hoL, rfl⟩ entry_list_sort ?body (ha2 _)))
  case body =>
    have ht' := ht (s.heap.objs.size + 1)
    show wpAny (model X.prog X.w) A.in1.in1 (Builtin.«list.sort» ⟨[.ref (s.heap.objs.size + 1)], kw⟩) _ _ _
    rw [ht']
    refine sort_ I1 hoL fD hlen hZ turn fun s' out c I' g' k' => ⟨_, rfl, ?_⟩
    exact wpAny_pure ⟨_, rfl, h _ s' out c I' fD fD.1 g' k'⟩
end
end
end KyS
set_option maxHeartbeats 2000000
namespace KyS
open PySem PySem.Spec PyProof.Rows L2
/-- sorted by whole numbers, equal ones in their old order -/
def SortOut (kz : List Int) (as : List Addr) (ps : List (Int × Addr)) : Prop :=
  ps.Perm (kz.zip as) ∧ ps.Pairwise (fun p q => p.1 ≤ q.1) ∧ ∀ c, ps.filter (fun p => p.1 == c) = (kz.zip as).filter (fun p => p.1 == c)
def backA : Value → Addr
  | .ref a => a
  | _ => 0
theorem back_zip (kz : List Int) (as : List Addr) : (kz.zip (as.map Value.ref)).map (fun p => (p.1, backA p.2)) = kz.zip as := by
  rw [List.zip_map_right, List.map_map]
  conv => rhs; rw [← List.map_id (kz.zip as)]
  refine List.map_congr_left fun p _ => ?_
  rfl
theorem sortOut {kz : List Int} {as : List Addr} {out : List Value} (h : KskOutSt false kz (as.map Value.ref) out) : ∃ ps, SortOut kz as ps ∧ out = ps.map fun p => Value.ref p.2 := by
  obtain ⟨ps, hp, ho, hs, hf⟩ := h
  have mem : ∀ p ∈ ps, p.2 = Value.ref (backA p.2) := fun p hm => by
    have h1 := (List.of_mem_zip (hp.mem_iff.mp hm)).2
    obtain ⟨a, _, e⟩ := List.mem_map.mp h1
    rw [← e]
    rfl
  refine ⟨ps.map fun p => (p.1, backA p.2), ⟨?_, ?_, fun c => ?_⟩, ?_⟩
  · have := hp.map fun p : Int × Value => (p.1, backA p.2)
    rw [back_zip] at this
    exact this
  · rw [List.pairwise_map]
    exact hs.imp fun h => by simpa using h
  · rw [List.filter_map, ← back_zip kz as, List.filter_map]
    have := congrArg (List.map fun p : Int × Value => (p.1, backA p.2)) (hf c)
    exact this
  · rw [ho, List.map_map]
    exact List.map_congr_left mem
theorem valsRefs : ∀ as : List Addr, Vals (as.map V.ref) (as.map Value.ref)
  | [] => .nil
  | _ :: as => .cons rfl (valsRefs as)
theorem itsRefs {as : List Addr} {its : List Value} (rv : Vals (as.map V.ref) its) : its = as.map Value.ref := by
  have hl := Vals.length rv
  refine List.ext_getElem? fun i => ?_
  cases e : as[i]? with
  | none =>
    have h1 : as.length ≤ i := List.getElem?_eq_none_iff.mp e
    rw [List.getElem?_eq_none (by rw [← hl, List.length_map]; exact h1), List.getElem?_map, e]
    rfl
  | some a =>
    obtain ⟨u, hu, ru⟩ := rv.get (i := i) (x := .ref a) (by rw [List.getElem?_map, e]; rfl)
    obtain rfl : u = Value.ref a := ru
    rw [hu, List.getElem?_map, e]
    rfl
section
variable {X : Cx}
/-- sorted(l, key=f), f a def -/
def rSortDef (K : PySem.W.Frag) (f : Addr) (sp : Sp) : List V → List V → Hp → VK → Prop := fun xs zs H Q => ∃ (l : Addr) (as : List Addr) (kz : List Int), xs = [.ref l] ∧ zs = [.ref f] ∧ SqL K H l (as.map V.ref) ∧ kz.length = as.length ∧
  (∀ (i : Nat) (a : Addr) (k : Int), as[i]? = some a → kz[i]? = some k → sp [.ref a] H (fun v H2 => v = .int k ∧ H2 = H) (fun _ _ _ => False)) ∧
  ∀ (ps : List (Int × Addr)) (D : Addr), SortOut kz as ps → H D = none → Q (.ref D) (upd H D (.lst (ps.map fun p => V.ref p.2)))
theorem lst_ok {P : Program} {w : World} {H : Hp} {h : Heap} {D : Addr} {out : Array Value} {c : Nat} {xs : List V} (r : Vals xs out.toList) (hz : xs.length ≤ sizeLine) (e : h.get? D = some (seqObj "list" out c)) : ObjOk P w H h D (.lst xs) := by
  refine ⟨hz, out.toList, c, r, ?_⟩
  rw [e]
theorem turn_def {pins : List (Addr × Obj)} {σ : L2.St} {H : Hp} {k : Nat} {f : Addr} {fd : FuncData} {pn : Str} {sp : Sp} {as : List Addr} {kz : List Int} (F : FnOk X.prog X.w X.K X.mg X.base CX0 k f fd [pn] sp) (hr : Room (k + 2) X.A) (hb : Binds X.K fd [pn] [])
    (h : ∀ (i : Nat) (a : Addr) (k : Int), as[i]? = some a → kz[i]? = some k → sp [.ref a] H (fun v H2 => v = .int k ∧ H2 = H) (fun _ _ _ => False)) : Turn1 X pins σ H X.A.in1.in1 (.ref f) (as.map Value.ref) kz := by
  intro i v kk hv hk pins' s' I
  obtain ⟨a, ha, rfl⟩ : ∃ a, as[i]? = some a ∧ v = Value.ref a := by
    rw [List.getElem?_map] at hv
    cases e : as[i]? with
    | none =>
      rw [e] at hv
      cases hv
    | some a =>
      rw [e] at hv
      exact ⟨a, rfl, (Option.some.inj hv).symm⟩
  have b := hb s' [Value.ref a] I.kIn rfl
  refine wpAny_call (codeAny_mono (F.run X.A.in1.in1 X.stack s' H ⟨[Value.ref a], []⟩ [Value.ref a] [V.ref a] _ _ hr.in1.in1 I.env0.in1.in1 b (.cons rfl .nil) (h i a kk ha hk)) fun r s'' hq => ?_)
  cases r with
  | error e =>
    have z : CX0 X.stack H s' (fun _ _ _ => False) e s'' := hq
    exact False.elim z
  | ok fl =>
    cases fl with
    | ret u =>
      obtain ⟨v, H', J, rv, ev, eH⟩ := I.after hq
      subst ev eH
      obtain ⟨t, rfl⟩ := rv
      exact ⟨t, rfl, J⟩
    | next => exact False.elim hq
    | brk => exact False.elim hq
    | cont => exact False.elim hq
theorem cr_sortDef {k : Nat} {f : Addr} {fd : FuncData} {pn : Str} {sp : Sp} (F : FnOk X.prog X.w X.K X.mg X.base CX0 k f fd [pn] sp) (hr : Room (k + 2) X.A) (hb : Binds X.K fd [pn] []) : CallRK X (.builtin "sorted") [Str.ofString "key"] (rSortDef X.K f sp) := by
  intro pins s σ H xs zs us ws Q I r rz h
  obtain ⟨l, as, kz, rfl, rfl, hs, hlen, hk, q⟩ := h
  obtain rfl := Vals.ref1 r
  obtain ⟨w1, rfl, e1⟩ := vals1 rz
  obtain rfl : w1 = Value.ref f := e1
  obtain ⟨its, rv, pl, hz⟩ := I.list hs
  have hz2 : as.length ≤ sizeLine := by rw [← List.length_map (f := V.ref)]; exact hz
  have eits := itsRefs rv
  subst eits
  refine sorted_ (f := .ref f) (kz := kz) I (show s.heap.IsList l (as.map Value.ref).toArray from pl.isList) (by rw [List.length_map]; exact hlen) (by rw [List.length_map]; exact hz2) (ksk_s1 _ _) (fun x => ksk_l1 _ _) (fun x => ksk_t1 f x) (turn_def F hr hb hk) fun D s' out c J fD nD g ko => ?_
  obtain ⟨ps, so, eo⟩ := sortOut ko
  have hlp : ps.length ≤ sizeLine := by
    rw [so.1.length_eq, List.length_zip]
    omega
  have rel : Vals (ps.map fun p => V.ref p.2) out.toList := by
    rw [eo]
    have := valsRefs (ps.map Prod.snd)
    rw [List.map_map, List.map_map] at this
    exact this
  exact ⟨.ref D, _, adopt J fD (lst_ok rel (by rw [List.length_map]; exact hlp) g), rfl, q ps D so nD⟩
/-- sorted(l, key=len), l a list of lists -/
def bSortLen (K : PySem.W.Frag) (Q : VK) (x : V) (H1 : Hp) : Prop := ∃ (l : Addr) (as : List Addr) (kz : List Int), x = .ref l ∧ SqL K H1 l (as.map V.ref) ∧ kz.length = as.length ∧
  (∀ (i : Nat) (a : Addr) (k : Int), as[i]? = some a → kz[i]? = some k → ∃ xs, SqL K H1 a xs ∧ k = ((xs.length : Nat) : Int)) ∧
  ∀ (ps : List (Int × Addr)) (D : Addr), SortOut kz as ps → H1 D = none → Q (.ref D) (upd H1 D (.lst (ps.map fun p => V.ref p.2)))
def tSortLen (K : PySem.W.Frag) (te : TE) : TE := fun σ H Q => te σ H fun x H1 => bSortLen K Q x H1
theorem turn_len {pins : List (Addr × Obj)} {σ : L2.St} {H : Hp} {as : List Addr} {kz : List Int} {A : Around} (h : ∀ (i : Nat) (a : Addr) (k : Int), as[i]? = some a → kz[i]? = some k → ∃ xs, SqL X.K H a xs ∧ k = ((xs.length : Nat) : Int)) :
    Turn1 X pins σ H A (.builtin "len") (as.map Value.ref) kz := by
  intro i v kk hv hk pins' s' I
  obtain ⟨a, ha, rfl⟩ : ∃ a, as[i]? = some a ∧ v = Value.ref a := by
    rw [List.getElem?_map] at hv
    cases e : as[i]? with
    | none =>
      rw [e] at hv
      cases hv
    | some a =>
      rw [e] at hv
      exact ⟨a, rfl, (Option.some.inj hv).symm⟩
  obtain ⟨xs, hx, rfl⟩ := h i a kk ha hk
  obtain ⟨its, r, pl, hz⟩ := I.list hx
  have hlen := r.length
  have hn := line63
  refine Calls.call_len_list pl.isList (by simp only [List.size_toArray] <;> omega) ⟨s'.toks + 1, ?_, I.tok _⟩
  rw [List.size_toArray, hlen]
theorem pe_sortLen {x y : Str} {p p2 kpos pos : Pos} {e : Expr} {te : TE} (hg : Gl X "sorted") (hm : X.mg "sorted" = none) (hg2 : Gl X "len") (hm2 : X.mg "len" = none) (ha : PA X [e] (tCons te tNil))
    (hst : backTo pos (starEach [e] X.env) = (false, eval e X.env) :: backTo pos (starEach [] X.env) := by rfl) (hpl : (backTo pos (starEach [e] X.env)).any (·.1) = false := by rfl)
    (hall : (backToKw pos (keywordEach [⟨some (Str.ofString "key"), .Name "len" p2, kpos⟩] X.env)).all (·.1.isSome) = true := by rfl) (hnone : (backToKw pos (keywordEach [⟨some (Str.ofString "key"), .Name "len" p2, kpos⟩] X.env)).any (·.1.isNone) = false := by rfl)
    (hks : (backToKw pos (keywordEach [⟨some (Str.ofString "key"), .Name "len" p2, kpos⟩] X.env)).filterMap (·.1) = [Str.ofString "key"] := by rfl) :
    PE X (.Call (.Name "sorted" p) [e] [⟨some (Str.ofString "key"), .Name "len" p2, kpos⟩] pos) (tSortLen X.K te) := by
  refine ⟨fun pins s σ H Q I h => ?_⟩
  refine wpAny_Call_Name_kw (ld_blt I hg hm PyProof.Rows.boot_sorted ?_)
  have h' : tCons te tNil σ H (fun vs H1 => match vs with | [x] => bSortLen X.K Q x H1 | _ => False) := h
  refine PyProof.Rows.callWith_kw (thn (ha.run pos pins s σ H _ I h') fun us s1 ⟨vs, H1, I1, r1, q1⟩ => ?_) hst hpl hall hnone
  show wpAny _ _ (evalAll ((do let v ← eval (.Name "len" p2) X.env; standAt pos; pure v) :: [])) _ _ s1
  refine wpAny_evalAll_cons (wpAny_bind (ld_blt I1 hg2 hm2 PySem.boot_len (wpAny_bind (wpAny_standAt (wpAny_pure ?_)))))
  refine wpAny_evalAll_nil ?_
  rw [hks]
  cases r1 with
  | nil => exact False.elim q1
  | cons rx rt =>
    cases rt with
    | cons _ _ => exact False.elim q1
    | nil =>
      obtain ⟨l, as, kz, rfl, hs, hlen, hk, q⟩ := (show bSortLen X.K Q _ H1 from q1)
      cases rx
      obtain ⟨its, rv, pl, hz⟩ := I1.list hs
      have hz2 : as.length ≤ sizeLine := by rw [← List.length_map (f := V.ref)]; exact hz
      have eits := itsRefs rv
      subst eits
      refine sorted_ (f := .builtin "len") (kz := kz) I1 (show s1.heap.IsList l (as.map Value.ref).toArray from pl.isList) (by rw [List.length_map]; exact hlen) (by rw [List.length_map]; exact hz2) (ksk_s1 _ _) (fun x => ksk_l1 _ _) (fun x => ksk_t4 "len" x) (turn_len hk) fun D s' out c J fD nD g ko => ?_
      obtain ⟨ps, so, eo⟩ := sortOut ko
      have hlp : ps.length ≤ sizeLine := by
        rw [so.1.length_eq, List.length_zip]
        omega
      have rel : Vals (ps.map fun p => V.ref p.2) out.toList := by
        rw [eo]
        have := valsRefs (ps.map Prod.snd)
        rw [List.map_map, List.map_map] at this
        exact this
      exact ⟨.ref D, _, adopt J fD (lst_ok rel (by rw [List.length_map]; exact hlp) g), rfl, q ps D so nD⟩
end
end KyS
namespace Lo
open PySem L2
abbrev sCutOff : Stmt := top 31
abbrev sSubtracted : Stmt := top 32
/-- rows between unlike names of a list -/
def RowsIn (zs : List Str) (F : List SRow) : Prop := ∀ q ∈ F, q.1 ≠ q.2.1 ∧ q.1 ∈ zs ∧ q.2.1 ∈ zs
theorem Tabs.len {H : Hp} {L : Addr} {Rs : List (List SRow)} {zs : List Str} (h : Tabs H L Rs zs) : ∃ ts : List Addr, H L = some (.lst (ts.map V.ref)) ∧ ts.length = Rs.length := by
  obtain ⟨ts, a, b, _⟩ := h
  exact ⟨ts, a, b⟩
theorem Tabs.push {H : Hp} {L t : Addr} {Rs : List (List SRow)} {R : List SRow} {zs : List Str} (h : Tabs H L Rs zs) (hR : TabR H t R zs) : ∃ ts : List Addr, H L = some (.lst (ts.map V.ref)) ∧ ts.length = Rs.length ∧ Tabs (upd H L (.lst (ts.map V.ref ++ [.ref t]))) L (Rs ++ [R]) zs := by
  obtain ⟨ts, a, b, c⟩ := h
  exact ⟨ts, a, b, Tabs.snoc a b c hR⟩
theorem us_snoc {Rs : List (List SRow)} {R : List SRow} {u : Str → Int} : US (Rs ++ [R]) u ↔ US Rs u ∨ Sat R u := by
  constructor
  · rintro ⟨X, hX, h⟩
    rcases List.mem_append.mp hX with m | m
    · exact .inl ⟨X, m, h⟩
    · exact .inr (List.mem_singleton.mp m ▸ h)
  · rintro (⟨X, hX, h⟩ | h)
    · exact ⟨X, List.mem_append_left _ hX, h⟩
    · exact ⟨R, List.mem_append_right _ (List.mem_singleton.mpr rfl), h⟩
theorem us_nil {u : Str → Int} : ¬ US [] u := fun ⟨_, h, _⟩ => absurd h List.not_mem_nil
theorem us_app {Rs Os : List (List SRow)} {u : Str → Int} : US (Rs ++ Os) u ↔ US Rs u ∨ US Os u := by
  constructor
  · rintro ⟨X, hX, h⟩
    exact (List.mem_append.mp hX).imp (fun m => ⟨X, m, h⟩) fun m => ⟨X, m, h⟩
  · rintro (⟨X, hX, h⟩ | ⟨X, hX, h⟩)
    · exact ⟨X, List.mem_append_left _ hX, h⟩
    · exact ⟨X, List.mem_append_right _ hX, h⟩
theorem sat_appAll {R F : List SRow} {u : Str → Int} : Sat (R ++ F) u ↔ Sat R u ∧ Sat F u :=
  ⟨fun h => ⟨fun r hr => h r (List.mem_append_left _ hr), fun r hr => h r (List.mem_append_right _ hr)⟩, fun ⟨a, b⟩ r hr => (List.mem_append.mp hr).elim (a r) (b r)⟩
section
variable {P : Program} {w : World} {K : PySem.W.Frag} {mg : Str → Option Value} {base : Heap}
/-! ### cut_off -/
def spCutOff : Sp := fun vs H Q _ => ∃ (t L : Addr) (R F : List SRow) (zs : List Str), vs = [.ref t, .ref L] ∧ TabR H t R zs ∧ Sys RowT H L F ∧ RowsIn zs F ∧ zs.length ≤ 20 ∧ F.length ≤ 1000 ∧
  ∀ (H' : Hp) (p : Addr) (Rs : List (List SRow)), Same H H' → H p = none → Tabs H' p Rs zs → (∀ u, US Rs u ↔ Sat R u ∧ ¬ Sat F u) → (Rs.length ≤ F.length ∨ Rs.length ≤ 1) → Rs.Pairwise (Sep F) → (∀ R' ∈ Rs, RowsOf R F R') → Q (.ref p) H'
abbrev nCutOff : List Str := ["table", "differences", "found", "rest", "left", "right", "limit", "part"]
theorem scCutOff : FnScope nCutOff ["table", "differences"] (defScope sCutOff) := ⟨rfl, rfl, rfl, by decide +kernel, rfl, by decide +kernel, by decide +kernel⟩
theorem ok_cutoff {f fT : Addr} {fd fdT : FuncData} (F : Fun K "cut_off" "cut_off" sCutOff f fd)
    (GT : FnOk P w K mg base CX0 3 fT fdT ["table", "left", "right", "limit"] spTightR) (kT : PySem.W.keepIn K (.ref fT) = true) (bT : Binds K fdT ["table", "left", "right", "limit"] []) (gT : mg "tightened" = some (.ref fT)) :
    FnOk P w K mg base CX0 4 f fd ["table", "differences"] spCutOff := by
  refine F.ok scCutOff (fun vs H Q E h => ?_) (fun cdv A outer s H vs Q E hr h => ?_)
  · obtain ⟨t, L, R, F, zs, rfl, _⟩ := h
    rfl
  · obtain ⟨t, L, R, Fs, zs, rfl, hT, ⟨ps, hL, hll, hat⟩, hF, few, fewF, q⟩ := h
    have nd := scCutOff.nd
    refine ⟨_, pss_cons (ps_set (i := 2) nd rfl (.inl rfl) (pe_lst pa_nil))
      (pss_cons (ps_set (i := 3) nd rfl (.inl rfl) (pv 0))
      (pss_cons (ps_for PassesOwn.never rfl (pi_list (pv 1)) (pg_tup rfl (pgs_cons (pg_name (i := 4) nd rfl (.inl rfl)) (pgs_cons (pg_name (i := 5) nd rfl (.inl rfl)) (pgs_cons (pg_name (i := 6) nd rfl (.inl rfl)) pgs_nil))))
        (pss_cons (ps_set (i := 7) nd rfl (.inl rfl) (pe_call GT hr (by rfl) gT kT bT .nil pass0 (pa_cons (pv 3) (pa_cons (pv 5) (pa_cons (pv 4) (pa_cons (pe_op op_sub (pe_un un_neg (pv 6)) pe_int) pa_nil))))))
        (pss_cons (ps_if (pt_cmpR op_notN (pv 7) pe_non (nomark _)) (pss_one (ps_expr (pe_bm PySem.F.plainAttrs_list PySem.F.slot_list_append PySem.F.type_list_append mt_append (pv 2) (pa_cons (pv 7) pa_nil)))) pss_nil)
        (pss_cons (ps_set (i := 3) nd rfl (.inl rfl) (pe_call GT hr (by rfl) gT kT bT .nil pass0 (pa_cons (pv 3) (pa_cons (pv 4) (pa_cons (pv 5) (pa_cons (pv 6) pa_nil))))))
        (pss_one (ps_if (pt_cmpR op_isN (pv 3) pe_non (nomark _)) (pss_one (ps_ret (pe_lst (pa_cons (pv 0) pa_nil)))) pss_nil))))))
      (pss_one (ps_ret (pv 2))))), ?_⟩
    have sz1 : 1 ≤ sizeLine := by decide
    refine ⟨Nat.zero_le _, fun o no => ?_⟩
    have sO := same_upd (o := HO.lst []) no
    refine ⟨.ref t, rfl, ?_⟩
    refine ⟨.ref L, rfl, L, rfl, ⟨_, SqL.of (sO _ _ hL)⟩, for_list (K := K) (a := L) (xs := ps.map V.ref) (fun i σ H' => ∃ (y4 y5 y6 y7 : Option V) (tr : Addr) (Rs : List (List SRow)), σ = [some (.ref t), some (.ref L), some (.ref o), some (.ref tr), y4, y5, y6, y7] ∧ Same H H' ∧ TabR H' tr (R ++ Fs.take i) zs ∧ Tabs H' o Rs zs ∧ (∀ u, US Rs u ↔ Sat R u ∧ ¬ Sat (Fs.take i) u) ∧ (Rs.length ≤ i ∧ CI Fs R i Rs))
      ⟨none, none, none, none, t, [], rfl, sO, by
        rw [List.take_zero, List.append_nil]
        exact hT.same sO, ⟨[], upd_same, rfl, fun i t R a => nomatch a⟩, fun u => ⟨fun h => absurd h us_nil, fun h => absurd (fun r hr => absurd hr List.not_mem_nil) h.2⟩, Nat.zero_le _, CI.nil⟩ (fun i σ H' _ ⟨_, _, _, _, _, _, _, sm, _⟩ => SqL.of (sm _ _ hL)) ?_ ?_⟩
    · rintro i x σ H1 hi ⟨y4, y5, y6, y7, tr, Rs, rfl, s1, hR1, hO1, us1, len1, ci⟩
      obtain ⟨a, rfl, ha, hai⟩ := pick_ref hi
      have hiF : i < Fs.length := by omega
      obtain ⟨q', hq'⟩ : ∃ q', Fs[i]? = some q' := ⟨_, List.getElem?_eq_getElem hiF⟩
      have hrow : H a = some (.tup (rowV q')) := hat i a q' ha hq'
      obtain ⟨ne, in1, in2⟩ := hF q' (List.mem_of_getElem? hq')
      have etake : Fs.take (i + 1) = Fs.take i ++ [q'] := by rw [List.take_add_one, hq']; rfl
      obtain ⟨l, r, c⟩ := q'
      dsimp only at ne in1 in2
      refine ⟨a, _, rfl, SqT.of (s1 _ _ hrow), rfl, _, _, rfl, _, _, rfl, _, _, rfl, rfl, ?_⟩
      refine ⟨.ref tr, rfl, .str r, rfl, .str l, rfl, .int c, rfl, _, rfl, _, _, rfl, rfl, tr, r, l, _, R ++ Fs.take i, zs, rfl, hR1, ne.symm, in2, in1, few, fun H2 x2 s2 hx => ?_⟩
      have den := fun u : Str → Int => denied (u := u) (l := l) (r := r) (c := c)
      have step : ∀ u : Str → Int, (Sat R u ∧ ¬ Sat (Fs.take i ++ [(l, r, c)]) u) ↔ (Sat R u ∧ ¬ Sat (Fs.take i) u) ∨ Sat ((R ++ Fs.take i) ++ [(r, l, -c - 1)]) u := fun u => by
        rw [sat_app, sat_app, sat_appAll]
        dsimp only
        have d := den u
        constructor
        · rintro ⟨h1, h2⟩
          by_cases h : Sat (Fs.take i) u
          · exact .inr ⟨⟨h1, h⟩, d.mpr fun z => h2 ⟨h, z⟩⟩
          · exact .inl ⟨h1, h⟩
        · rintro (⟨h1, h2⟩ | ⟨⟨h1, h2⟩, h3⟩)
          · exact ⟨h1, fun z => h2 z.1⟩
          · exact ⟨h1, fun z => d.mp h3 z.2⟩
      have s12 := s1.trans s2
      have rest : ∀ (H3 : Hp) (Rs' : List (List SRow)) (y : V), Same H H3 → TabR H3 tr (R ++ Fs.take i) zs → Tabs H3 o Rs' zs → (∀ u, US Rs' u ↔ Sat R u ∧ ¬ Sat (Fs.take (i + 1)) u) → (Rs'.length ≤ i + 1 ∧ CI Fs R (i + 1) Rs') →
          ∀ (H4 : Hp) (x4 : V), Same H3 H4 → ((x4 = .non ∧ ∀ u, ¬ Sat ((R ++ Fs.take i) ++ [(l, r, c)]) u) ∨ ∃ d, x4 = .ref d ∧ TabR H4 d ((R ++ Fs.take i) ++ [(l, r, c)]) zs) →
          (x4 = .non ∧ (∀ (p : Addr), H4 p = none → Q (.ref p) (upd H4 p (.lst [V.ref t])))) ∨ ∃ d, x4 = .ref d ∧ (∃ (y4 y5 y6 y7 : Option V) (tr' : Addr) (Rs'' : List (List SRow)), [some (V.ref t), some (.ref L), some (.ref o), some (.ref d), some (.str l), some (.str r), some (.int c), some y] = [some (V.ref t), some (.ref L), some (.ref o), some (.ref tr'), y4, y5, y6, y7] ∧ Same H H4 ∧ TabR H4 tr' (R ++ Fs.take (i + 1)) zs ∧ Tabs H4 o Rs'' zs ∧ (∀ u, US Rs'' u ↔ Sat R u ∧ ¬ Sat (Fs.take (i + 1)) u) ∧ (Rs''.length ≤ i + 1 ∧ CI Fs R (i + 1) Rs'')) := fun H3 Rs' y s3 hR3 hO3 us3 len3 H4 x4 s4 hx4 => by
        rcases hx4 with ⟨e, no⟩ | ⟨d, e, hd⟩
        · refine .inl ⟨e, fun p np => ?_⟩
          have s34 := s3.trans s4
          refine q _ p [R] (s34.trans (same_upd np)) (s34.free np) ⟨[t], upd_same, rfl, fun j t' R' a1 a2 => ?_⟩ (fun u => ⟨fun ⟨X, hX, h⟩ => ?_, fun h => ⟨R, List.mem_singleton.mpr rfl, h.1⟩⟩) (.inr (Nat.le_refl _)) (List.pairwise_singleton _ _) (fun R' hR' q hq => .inl (List.mem_singleton.mp hR' ▸ hq))
          · cases j with
            | zero =>
              cases a1
              cases a2
              exact (hT.same s34).same (same_upd np)
            | succ j => cases a1
          · rw [List.mem_singleton.mp hX] at h
            refine ⟨h, fun z => no u ?_⟩
            rw [sat_app, sat_appAll]
            exact ⟨⟨h, fun r hr' => z r (List.mem_of_mem_take hr')⟩, z _ (List.mem_of_getElem? hq')⟩
        · refine .inr ⟨d, e, _, _, _, _, d, Rs', rfl, s3.trans s4, ?_, hO3.same s4, us3, len3⟩
          rw [etake, ← List.append_assoc]
          exact hd
      rcases hx with ⟨rfl, no⟩ | ⟨d, rfl, hd⟩
      · refine ⟨.non, rfl, rfl, _, rfl, iteF ?_⟩
        have us2 : ∀ u, US Rs u ↔ Sat R u ∧ ¬ Sat (Fs.take (i + 1)) u := fun u => by
          rw [etake, step u, us1 u]
          exact ⟨.inl, fun z => z.elim id fun z => absurd z (no u)⟩
        refine ⟨.ref tr, rfl, .str l, rfl, .str r, rfl, .int c, rfl, tr, l, r, c, R ++ Fs.take i, zs, rfl, hR1.same s2, ne, in1, in2, few, fun H4 x4 s4 hx4 => ?_⟩
        rcases rest H2 Rs .non s12 (hR1.same s2) (hO1.same s2) us2 ⟨by omega, ci.skip⟩ H4 x4 s4 hx4 with ⟨rfl, fin⟩ | ⟨d4, rfl, fin⟩
        · exact ⟨.non, rfl, rfl, _, rfl, iteT ⟨_, rfl, sz1, fun p np => fin p np⟩⟩
        · exact ⟨.ref d4, rfl, rfl, _, rfl, iteF fin⟩
      · refine ⟨.ref d, rfl, rfl, _, rfl, iteT ?_⟩
        obtain ⟨ts, o1, o2, o3⟩ := (hO1.same s2).push hd
        refine ⟨.ref o, rfl, .inl ⟨rfl, _, SqL.of o1⟩, .ref d, rfl, o, _, _, rfl, rfl, o1, by rw [List.length_map, o2]; exact small1000 (by omega), ?_⟩
        have s13 : Same H (upd H2 o (.lst (ts.map V.ref ++ [.ref d]))) := s12.later no
        have us2 : ∀ u, US (Rs ++ [(R ++ Fs.take i) ++ [(r, l, -c - 1)]]) u ↔ Sat R u ∧ ¬ Sat (Fs.take (i + 1)) u := fun u => by
          rw [etake, step u, us_snoc, us1 u]
        have hR3 := (hR1.same s2).past (o := .lst (ts.map V.ref ++ [.ref d])) o1
        refine ⟨.ref tr, rfl, .str l, rfl, .str r, rfl, .int c, rfl, tr, l, r, c, R ++ Fs.take i, zs, rfl, hR3, ne, in1, in2, few, fun H4 x4 s4 hx4 => ?_⟩
        rcases rest _ _ (.ref d) s13 hR3 o3 us2 ⟨by rw [List.length_append]; show Rs.length + 1 ≤ i + 1; omega, ci.push hq'⟩ H4 x4 s4 hx4 with ⟨rfl, fin⟩ | ⟨d4, rfl, fin⟩
        · exact ⟨.non, rfl, rfl, _, rfl, iteT ⟨_, rfl, sz1, fun p np => fin p np⟩⟩
        · exact ⟨.ref d4, rfl, rfl, _, rfl, iteF fin⟩
    · rintro σ H1 ⟨y4, y5, y6, y7, tr, Rs, rfl, s1, hR1, hO1, us1, len1, ci⟩
      rw [List.length_map, hll, List.take_length] at us1
      rw [List.length_map] at len1
      exact ⟨.ref o, rfl, q _ o Rs s1 no hO1 us1 (.inl (by omega)) ci.1 fun R' hR' => (ci.2 R' hR').2⟩
end
end Lo
namespace Lo
open PySem L2
/-- the outer walk of a comprehension with two -/
theorem lc2_list {K : PySem.W.Frag} {a : Addr} {xs : List V} {g g1 : TG} {tt tt1 : TT} {wi1 : TI} {te : TE} {vs vs1 : List Nat} {σ : St} {H1 : Hp} {D : Addr} {Qd : Hp → Prop} (Pv : Nat → Hp → Prop) (h0 : Pv 0 (upd H1 D (.lst []))) (hl : ∀ i H, i ≤ xs.length → Pv i H → SqL K H a xs)
    (hs : ∀ i x H, xs[i]? = some x → Pv i H → g x (wipe σ vs) H fun σ2 H2 => wipe σ2 vs = wipe σ vs ∧ tt σ2 H2 fun b H3 =>
      if b = true then wi1 σ2 H3 fun J1 H4 => ∃ W1 : Nat → Nat → Hp → Prop, (∃ m, W1 0 m H4) ∧ ∀ j k H, W1 j k H →
        (J1.stop j H ∧ Pv (i + 1) H) ∨ (J1.go j H ∧ ∃ Nx1 : Hp → Prop, (∀ H', Nx1 H' → ∃ k', k' < k ∧ W1 (j + 1) k' H') ∧ ∀ x H', J1.yld j H x H' → g1 x (wipe σ2 vs1) H' fun σ3 H5 => wipe σ3 vs1 = wipe σ2 vs1 ∧ tt1 σ3 H5 fun b H6 =>
          if b = true then te σ3 H6 fun y H7 => ∃ acc, H7 D = some (.lst acc) ∧ acc.length < sizeLine ∧ Nx1 (upd H7 D (.lst (acc ++ [y]))) else Nx1 H6)
      else Pv (i + 1) H3) (hd : ∀ H, Pv xs.length H → Qd H) :
    ∃ W : Nat → Nat → Hp → Prop, (∃ m, W 0 m (upd H1 D (.lst []))) ∧ ∀ i m H, W i m H →
      ((Itl K a).stop i H ∧ Qd H) ∨ ((Itl K a).go i H ∧ ∃ Nx : Hp → Prop, (∀ H', Nx H' → ∃ m', m' < m ∧ W (i + 1) m' H') ∧ ∀ x H', (Itl K a).yld i H x H' → g x (wipe σ vs) H' fun σ2 H2 => wipe σ2 vs = wipe σ vs ∧ tt σ2 H2 fun b H3 =>
        if b = true then wi1 σ2 H3 fun J1 H4 => ∃ W1 : Nat → Nat → Hp → Prop, (∃ m, W1 0 m H4) ∧ ∀ j k H, W1 j k H →
          (J1.stop j H ∧ Nx H) ∨ (J1.go j H ∧ ∃ Nx1 : Hp → Prop, (∀ H', Nx1 H' → ∃ k', k' < k ∧ W1 (j + 1) k' H') ∧ ∀ x H', J1.yld j H x H' → g1 x (wipe σ2 vs1) H' fun σ3 H5 => wipe σ3 vs1 = wipe σ2 vs1 ∧ tt1 σ3 H5 fun b H6 =>
            if b = true then te σ3 H6 fun y H7 => ∃ acc, H7 D = some (.lst acc) ∧ acc.length < sizeLine ∧ Nx1 (upd H7 D (.lst (acc ++ [y]))) else Nx1 H6)
        else Nx H3) := by
  refine ⟨fun i m H => m = xs.length - i ∧ i ≤ xs.length ∧ Pv i H, ⟨xs.length, by simp, Nat.zero_le _, h0⟩, ?_⟩
  rintro i m H ⟨rfl, hi, p⟩
  have q := hl i H hi p
  by_cases hlt : i < xs.length
  · refine .inr ⟨⟨xs, xs[i], q, by simp [hlt]⟩, Pv (i + 1), fun H' p' => ⟨xs.length - (i + 1), by omega, rfl, hlt, p'⟩, fun x H' y => ?_⟩
    obtain ⟨e, y⟩ := y
    subst e
    exact hs i x _ (y xs q) p
  · have e : i = xs.length := by omega
    subst e
    exact .inl ⟨⟨xs, q, Nat.le_refl _⟩, hd H p⟩
/-- the inner one -/
theorem lci_list {K : PySem.W.Frag} {a : Addr} {xs : List V} {g : TG} {tt : TT} {te : TE} {vs : List Nat} {σ : St} {H1 : Hp} {D : Addr} {Qd : Hp → Prop} (Pv : Nat → Hp → Prop) (h0 : Pv 0 H1) (hl : ∀ i H, i ≤ xs.length → Pv i H → SqL K H a xs)
    (hs : ∀ i x H, xs[i]? = some x → Pv i H → g x (wipe σ vs) H fun σ2 H2 => wipe σ2 vs = wipe σ vs ∧ tt σ2 H2 fun b H3 =>
      if b = true then te σ2 H3 fun y H4 => ∃ acc, H4 D = some (.lst acc) ∧ acc.length < sizeLine ∧ Pv (i + 1) (upd H4 D (.lst (acc ++ [y]))) else Pv (i + 1) H3) (hd : ∀ H, Pv xs.length H → Qd H) :
    ∃ W : Nat → Nat → Hp → Prop, (∃ m, W 0 m H1) ∧ ∀ i m H, W i m H →
      ((Itl K a).stop i H ∧ Qd H) ∨ ((Itl K a).go i H ∧ ∃ Nx : Hp → Prop, (∀ H', Nx H' → ∃ m', m' < m ∧ W (i + 1) m' H') ∧ ∀ x H', (Itl K a).yld i H x H' → g x (wipe σ vs) H' fun σ2 H2 => wipe σ2 vs = wipe σ vs ∧ tt σ2 H2 fun b H3 =>
        if b = true then te σ2 H3 fun y H4 => ∃ acc, H4 D = some (.lst acc) ∧ acc.length < sizeLine ∧ Nx (upd H4 D (.lst (acc ++ [y]))) else Nx H3) := by
  refine ⟨fun i m H => m = xs.length - i ∧ i ≤ xs.length ∧ Pv i H, ⟨xs.length, by simp, Nat.zero_le _, h0⟩, ?_⟩
  rintro i m H ⟨rfl, hi, p⟩
  have q := hl i H hi p
  by_cases hlt : i < xs.length
  · refine .inr ⟨⟨xs, xs[i], q, by simp [hlt]⟩, Pv (i + 1), fun H' p' => ⟨xs.length - (i + 1), by omega, rfl, hlt, p'⟩, fun x H' y => ?_⟩
    obtain ⟨e, y⟩ := y
    subst e
    exact hs i x _ (y xs q) p
  · have e : i = xs.length := by omega
    subst e
    exact .inl ⟨⟨xs, q, Nat.le_refl _⟩, hd H p⟩
theorem Sys.offL {H : Hp} {o l : Addr} {xs ys : List V} {R : List SRow} (ho : H o = some (.lst xs)) (ne : l ≠ o) (h : Sys RowT H l R) : Sys RowT (upd H o (.lst ys)) l R := by
  obtain ⟨ps, h1, h2, h3⟩ := h
  refine ⟨ps, by rw [upd_ne ne]; exact h1, h2, fun i q r a b => ?_⟩
  have z := h3 i q r a b
  show upd H o _ q = _
  rw [upd_ne (ne_of z ho (by intro z; cases z))]
  exact z
theorem refs_inj : ∀ {a b : List Addr}, a.map V.ref = b.map V.ref → a = b
  | [], [], _ => rfl
  | [], _ :: _, h => nomatch h
  | _ :: _, [], h => nomatch h
  | x :: a, y :: b, h => by
    injection h with h1 h2
    injection h1 with h1
    rw [h1, refs_inj h2]
theorem Tabs.past {H : Hp} {L p : Addr} {Rs : List (List SRow)} {zs : List Str} {xs : List V} {o : HO} (h : Tabs H p Rs zs) (hL : H L = some (.lst xs)) (ne : p ≠ L) : Tabs (upd H L o) p Rs zs := by
  obtain ⟨ts, a, b, c⟩ := h
  exact ⟨ts, by rw [upd_ne ne]; exact a, b, fun i t R e f => (c i t R e f).past hL⟩
section
variable {P : Program} {w : World} {K : PySem.W.Frag} {mg : Str → Option Value} {base : Heap}
/-! ### subtracted -/
/-- the fewest rows of the tables of a list -/
structure FewOf (H : Hp) (fs : List Addr) (fo : Addr → List SRow) (Os : List (List SRow)) (zs : List Str) : Prop where
  len : fs.length = Os.length
  sys : ∀ a ∈ fs, Sys RowT H a (fo a) ∧ RowsIn zs (fo a) ∧ (fo a).length ≤ zs.length * zs.length
  same : ∀ (i : Nat) (a : Addr) (O : List SRow), fs[i]? = some a → Os[i]? = some O → SameS (fo a) O
theorem FewOf.us {H : Hp} {fs : List Addr} {fo : Addr → List SRow} {Os : List (List SRow)} {zs : List Str} (h : FewOf H fs fo Os zs) {u : Str → Int} : US Os u ↔ ∃ a ∈ fs, Sat (fo a) u := by
  constructor
  · rintro ⟨O, hO, hu⟩
    obtain ⟨i, hi, rfl⟩ := List.getElem_of_mem hO
    have hf : i < fs.length := by rw [h.len]; exact hi
    exact ⟨fs[i], List.getElem_mem hf, (h.same i _ _ (List.getElem?_eq_getElem hf) (List.getElem?_eq_getElem hi) u).mpr hu⟩
  · rintro ⟨a, ha, hu⟩
    obtain ⟨i, hi, rfl⟩ := List.getElem_of_mem ha
    have ho : i < Os.length := by rw [← h.len]; exact hi
    exact ⟨Os[i], List.getElem_mem ho, (h.same i _ _ (List.getElem?_eq_getElem hi) (List.getElem?_eq_getElem ho) u).mp hu⟩
def spSubtracted : Sp := fun vs H Q _ => ∃ (tl ol : Addr) (Rs Os : List (List SRow)) (zs : List Str), vs = [.ref tl, .ref ol] ∧ Tabs H tl Rs zs ∧ Tabs H ol Os zs ∧ zs.length ≤ 20 ∧ 1 ≤ zs.length ∧ Os.length < sizeLine ∧ Rs.length * (zs.length * zs.length) ^ Os.length < sizeLine ∧
  ∀ (H' : Hp) (p : Addr) (Rs' : List (List SRow)), Same H H' → Tabs H' p Rs' zs → (∀ u, US Rs' u ↔ US Rs u ∧ ¬ US Os u) → Rs'.length ≤ Rs.length * (zs.length * zs.length) ^ Os.length → Q (.ref p) H'
abbrev nSubtracted : List Str := ["tables", "others", "rest", "differences", "other", "table", "part"]
theorem scSubtracted : FnScope nSubtracted ["tables", "others"] (defScope sSubtracted) := ⟨rfl, rfl, rfl, by decide +kernel, rfl, by decide +kernel, by decide +kernel⟩
theorem ok_subtracted {f fF fC : Addr} {fd fdF fdC : FuncData} (F : Fun K "subtracted" "subtracted" sSubtracted f fd) (T : Blt mg) (hsort : mg "sorted" = none)
    (GF : FnOk P w K mg base CX0 3 fF fdF ["table"] spFewR) (kF : PySem.W.keepIn K (.ref fF) = true) (bF : Binds K fdF ["table"] []) (gF : mg "fewest_of" = some (.ref fF))
    (GC : FnOk P w K mg base CX0 4 fC fdC ["table", "differences"] spCutOff) (kC : PySem.W.keepIn K (.ref fC) = true) (bC : Binds K fdC ["table", "differences"] []) (gC : mg "cut_off" = some (.ref fC)) :
    FnOk P w K mg base CX0 5 f fd ["tables", "others"] spSubtracted := by
  refine F.ok scSubtracted (fun vs H Q E h => ?_) (fun cdv A outer s H vs Q E hr h => ?_)
  · obtain ⟨tl, ol, Rs, Os, zs, rfl, _⟩ := h
    rfl
  · obtain ⟨tl, ol, Rs, Os, zs, rfl, hT, hO, few, pos, fewO, bound, q⟩ := h
    have nd := scSubtracted.nd
    have r3 := hr.mono (show 3 ≤ 4 by decide)
    refine ⟨_, pss_cons (ps_set (i := 2) nd rfl (.inl rfl) (pv 0))
      (pss_cons (ps_for PassesOwn.never rfl (pi_list (KyS.pe_sortLen (x := "other") (y := "other") (by rfl) hsort (by rfl) T.len (pa_cons (pe_lc (own := [("other", 4)]) (g := gName 4) (tt := tYes) rfl nd (pi_list (pv 1)) (blkOk_by (N := nSubtracted) (sc := defScope sSubtracted) (by decide +kernel))
            (fun _ _ _ _ _ => pg_name (i := 4) nd rfl (.inl rfl)) (fun _ _ _ _ _ => pts_nil) (fun _ _ _ _ _ => pe_call GF r3 (by rfl) gF kF bF .nil pass0 (pa_cons (pv 4) pa_nil))) pa_nil))) (pg_name (i := 3) nd rfl (.inr rfl))
        (pss_cons (ps_setLc2 (i := 2) (own := [("table", 5), ("part", 6)]) (vs1 := [6]) (g := gName 5) (g1 := gName 6) (tt := tYes) (tt1 := tYes) rfl nd rfl rfl (sw_true rfl rfl rfl (by decide +kernel)) (pi_list (pv 2)) (blkOk_by (N := nSubtracted) (sc := defScope sSubtracted) (by decide +kernel)) (by decide)
            (fun _ _ _ _ _ => pg_name (i := 5) nd rfl (.inl rfl)) (fun _ _ _ _ _ => pts_nil)
            (fun _ _ _ _ _ => (show PI _ _ _ (iList K _) from pi_list (pe_call GC hr (by rfl) gC kC bC .nil pass0 (pa_cons (pv 5) (pa_cons (pv 3) pa_nil)))))
            (fun _ _ _ _ _ => pg_name (i := 6) nd rfl (.inl rfl)) (fun _ _ _ _ _ => pts_nil) (fun _ _ _ _ _ => pv 6))
        (pss_one (ps_if (pt_not (pt_truth (pv 2) (by intro _; rfl))) (pss_one (ps_ret (pe_lst pa_nil))) pss_nil))))
      (pss_one (ps_ret (pv 2)))), ?_⟩
    have B1 : 1 ≤ zs.length * zs.length := Nat.mul_pos pos pos
    obtain ⟨os, o1, o2, o3⟩ := id hO
    refine ⟨.ref tl, rfl, ?_⟩
    refine ⟨.ref ol, rfl, ol, rfl, ⟨_, SqL.of o1⟩, fun D0 nD0 => ?_⟩
    refine lc_list (K := K) (a := ol) (xs := os.map V.ref) (fun j H' => Same H H' ∧ ∃ (fs : List Addr) (fo : Addr → List SRow), H' D0 = some (.lst (fs.map V.ref)) ∧ fs.Nodup ∧ (∀ a ∈ fs, a ≠ D0) ∧ FewOf H' fs fo (Os.take j) zs)
      ⟨same_upd nD0, [], fun _ => [], upd_same, List.nodup_nil, fun a h => absurd h List.not_mem_nil, ⟨rfl, fun a h => absurd h List.not_mem_nil, fun i a O e => nomatch e⟩⟩ (fun j H' _ h => SqL.of (h.1 _ _ o1)) ?_ ?_
    · rintro j v Hc hj ⟨sc, fs, fo, hc, nodup, nD, FO⟩
      obtain ⟨a, rfl, ha, hai⟩ := pick_ref hj
      have hjO : j < Os.length := by omega
      obtain ⟨O, hO'⟩ : ∃ O, Os[j]? = some O := ⟨_, List.getElem?_eq_getElem hjO⟩
      have etake : Os.take (j + 1) = Os.take j ++ [O] := by rw [List.take_add_one, hO']; rfl
      refine ⟨rfl, ?_⟩
      unfold tYes
      refine iteT ?_
      refine ⟨.ref a, rfl, a, O, zs, rfl, (o3 j a O ha hO').same sc, few, fun H2 p Fr s2 np hFr sameF rin lenF _ => ?_⟩
      have hc2 := s2 _ _ hc
      have pD : p ≠ D0 := (ne_of_none hc np).symm
      have pfs : p ∉ fs := fun m => by
        obtain ⟨⟨ps, g, _⟩, _⟩ := FO.sys p m
        rw [np] at g
        cases g
      have flen : fs.length = j := by
        rw [FO.len, List.length_take]
        omega
      refine ⟨_, hc2, by rw [List.length_map, flen]; omega, (sc.trans s2).later nD0, fs ++ [p], Lo.put fo p Fr, by rw [upd_same, List.map_append]; rfl, ?_, ?_, ?_⟩
      · exact List.nodup_append.mpr ⟨nodup, List.nodup_cons.mpr ⟨List.not_mem_nil, List.nodup_nil⟩, fun x hx y hy e => pfs (by rw [List.mem_singleton.mp hy] at e; exact e ▸ hx)⟩
      · intro x hx
        rcases List.mem_append.mp hx with m | m
        · exact nD x m
        · exact List.mem_singleton.mp m ▸ pD
      · refine ⟨by rw [etake, List.length_append, List.length_append, FO.len]; rfl, fun x hx => ?_, fun i x X hx hX => ?_⟩
        · by_cases e : x = p
          · subst e
            rw [put_at]
            exact ⟨hFr.offL hc2 pD, rin, lenF⟩
          · rw [put_off e]
            have m : x ∈ fs := (List.mem_append.mp hx).elim id fun m => absurd (List.mem_singleton.mp m) e
            obtain ⟨g1, g2, g3⟩ := FO.sys x m
            exact ⟨(g1.sameT s2).offL hc2 (nD x m), g2, g3⟩
        · rw [etake] at hX
          by_cases k : i < fs.length
          · rw [List.getElem?_append_left k] at hx
            rw [List.getElem?_append_left (by rw [← FO.len]; exact k)] at hX
            have xp : x ≠ p := fun e => pfs (e ▸ List.mem_of_getElem? hx)
            rw [put_off xp]
            exact FO.same i x X hx hX
          · have hi2 : i = fs.length := by
              have := (List.getElem?_eq_some_iff.mp hx).1
              rw [List.length_append, List.length_singleton] at this
              omega
            subst hi2
            rw [List.getElem?_append_right (Nat.le_refl _), Nat.sub_self] at hx
            rw [FO.len, List.getElem?_append_right (Nat.le_refl _), Nat.sub_self] at hX
            have e1 : p = x := Option.some.inj hx
            have e2 : O = X := Option.some.inj hX
            subst e1 e2
            rw [put_at]
            exact sameF
    rintro Hc ⟨sc, fs, fo, hc, nodup, nD, FO⟩
    rw [List.length_map, o2, List.take_length] at FO
    refine ⟨D0, fs, fs.map (fun a => (((fo a).length : Nat) : Int)), rfl, SqL.of hc, by rw [List.length_map], fun i a k ha hk => ?_, fun ps D1 so nD1 => ?_⟩
    · obtain ⟨⟨qs, g1, g2, _⟩, _⟩ := FO.sys a (List.mem_of_getElem? ha)
      rw [List.getElem?_map, ha] at hk
      have hk : (((fo a).length : Nat) : Int) = k := Option.some.inj hk
      exact ⟨_, SqL.of g1, by rw [← hk, List.length_map, g2]⟩
    have hperm : (ps.map Prod.snd).Perm fs := by
      have := so.1.map Prod.snd
      rwa [List.map_snd_zip (by rw [List.length_map]; exact Nat.le_refl _)] at this
    have emap : (ps.map fun p => V.ref p.2) = (ps.map Prod.snd).map V.ref := by rw [List.map_map]; rfl
    rw [emap]
    generalize ps.map Prod.snd = as at hperm
    have sD1 := same_upd (o := HO.lst (as.map V.ref)) nD1
    have hD1 := upd_same (H := Hc) (a := D1) (o := HO.lst (as.map V.ref))
    have FO1 : ∀ a ∈ as, Sys RowT (upd Hc D1 (.lst (as.map V.ref))) a (fo a) ∧ RowsIn zs (fo a) ∧ (fo a).length ≤ zs.length * zs.length := fun a ha => by
      obtain ⟨g1, g2, g3⟩ := FO.sys a (hperm.mem_iff.mp ha)
      exact ⟨g1.sameT sD1, g2, g3⟩
    have lenA : as.length = Os.length := hperm.length_eq.trans FO.len
    have s1 : Same H (upd Hc D1 (.lst (as.map V.ref))) := sc.trans sD1
    generalize upd Hc D1 (.lst (as.map V.ref)) = H1 at *
    have usO : ∀ u, US Os u ↔ ∃ a ∈ as, Sat (fo a) u := fun u => FO.us.trans ⟨fun ⟨a, ha, h⟩ => ⟨a, hperm.mem_iff.mpr ha, h⟩, fun ⟨a, ha, h⟩ => ⟨a, hperm.mem_iff.mp ha, h⟩⟩
    have pow : ∀ i, i ≤ Os.length → Rs.length * (zs.length * zs.length) ^ i ≤ Rs.length * (zs.length * zs.length) ^ Os.length := fun i hi => Nat.mul_le_mul_left _ (Nat.pow_le_pow_right B1 hi)
    refine ⟨D1, rfl, ⟨_, SqL.of hD1⟩, for_list (K := K) (a := D1) (xs := as.map V.ref) (fun i σ H' => ∃ (y3 : Option V) (rl : Addr) (Rz : List (List SRow)), σ = [some (.ref tl), some (.ref ol), some (.ref rl), y3, none, none, none] ∧ Same H1 H' ∧ Tabs H' rl Rz zs ∧ (∀ u, US Rz u ↔ US Rs u ∧ ∀ a ∈ as.take i, ¬ Sat (fo a) u) ∧ Rz.length ≤ Rs.length * (zs.length * zs.length) ^ i)
      ⟨_, tl, Rs, rfl, Same.refl _, hT.same s1, fun u => ⟨fun h => ⟨h, fun a h => absurd h List.not_mem_nil⟩, fun h => h.1⟩, by rw [Nat.pow_zero, Nat.mul_one]; exact Nat.le_refl _⟩ (fun i σ H' _ ⟨_, _, _, _, sm, _⟩ => SqL.of (sm _ _ hD1)) ?_ ?_⟩
    · rintro i x σ H2 hi ⟨y3, rl, Rz, rfl, s2, hRz, usz, lenz⟩
      obtain ⟨a, rfl, ha, hai⟩ := pick_ref hi
      have hiO : i < Os.length := by omega
      have hma := List.mem_of_getElem? ha
      obtain ⟨hSys, rin, lenF⟩ := FO1 a hma
      have etake : as.take (i + 1) = as.take i ++ [a] := by rw [List.take_add_one, ha]; rfl
      obtain ⟨rs, r1', r2', r3'⟩ := id hRz
      have lenN : Rz.length * (zs.length * zs.length) ≤ Rs.length * (zs.length * zs.length) ^ (i + 1) := by
        rw [Nat.pow_succ, ← Nat.mul_assoc Rs.length]
        exact Nat.mul_le_mul_right _ lenz
      have lenN2 := Nat.le_trans lenN (pow (i + 1) (by omega))
      refine ⟨.ref rl, rfl, rl, rfl, ⟨_, SqL.of r1'⟩, fun Dm nDm => ?_⟩
      refine lc2_list (K := K) (a := rl) (xs := rs.map V.ref) (fun k H' => Same H2 H' ∧ ∃ Rp : List (List SRow), Tabs H' Dm Rp zs ∧ (∀ u, US Rp u ↔ US (Rz.take k) u ∧ ¬ Sat (fo a) u) ∧ Rp.length ≤ k * (zs.length * zs.length))
        ⟨same_upd nDm, [], ⟨[], upd_same, rfl, fun i t R e => nomatch e⟩, fun u => ⟨fun h => absurd h us_nil, fun h => absurd h.1 us_nil⟩, Nat.zero_le _⟩ (fun k H' _ h => SqL.of (h.1 _ _ r1')) ?_ ?_
      · rintro k x Hk hk ⟨sk, Rp, hRp, usp, lenp⟩
        obtain ⟨t, rfl, ht, hti⟩ := pick_ref hk
        have hkz : k < Rz.length := by omega
        obtain ⟨R, hR⟩ : ∃ R, Rz[k]? = some R := ⟨_, List.getElem?_eq_getElem hkz⟩
        have etk : Rz.take (k + 1) = Rz.take k ++ [R] := by rw [List.take_add_one, hR]; rfl
        refine ⟨rfl, ?_⟩
        unfold tYes
        refine iteT ?_
        refine ⟨.ref t, rfl, .ref a, rfl, t, a, R, fo a, zs, rfl, (r3' k t R ht hR).same sk, (hSys.sameT s2).sameT sk, rin, few, by have := Nat.mul_le_mul few few; omega, fun H3 p Rq s3 np hRq usq lenq _ _ => ?_⟩
        obtain ⟨qs, q1, q2, q3⟩ := id hRq
        obtain ⟨ds, d1, d2, d3⟩ := id (hRp.same s3)
        have pD : p ≠ Dm := by
          obtain ⟨ds', d1', _⟩ := id hRp
          exact (ne_of_none d1' np).symm
        have lenq' : Rq.length ≤ zs.length * zs.length := by omega
        refine ⟨p, rfl, ⟨_, SqL.of q1⟩, ?_⟩
        refine lci_list (K := K) (a := p) (xs := qs.map V.ref) (g := gName 6) (tt := tYes) (te := tVar 6) (vs := [6]) (D := Dm) (fun m H' => Same H2 H' ∧ Tabs H' p Rq zs ∧ Tabs H' Dm (Rp ++ Rq.take m) zs ∧ H' p = some (.lst (qs.map V.ref))) ⟨sk.trans s3, hRq, by
          rw [List.take_zero, List.append_nil]
          exact hRp.same s3, q1⟩ (fun m H' _ ⟨_, _, _, h⟩ => SqL.of h) ?_ ?_
        · rintro m y H4 hm ⟨s4, hq4, hD4, hp4⟩
          obtain ⟨tq, rfl, htq, htl⟩ := pick_ref hm
          have hmq : m < Rq.length := by omega
          obtain ⟨Rm, hRm⟩ : ∃ Rm, Rq[m]? = some Rm := ⟨_, List.getElem?_eq_getElem hmq⟩
          have etm : Rq.take (m + 1) = Rq.take m ++ [Rm] := by rw [List.take_add_one, hRm]; rfl
          obtain ⟨qs', e1, e2, e3⟩ := id hq4
          have eqs : qs' = qs := by
            rw [hp4] at e1
            have e1 : HO.lst (qs.map V.ref) = HO.lst (qs'.map V.ref) := Option.some.inj e1
            injection e1 with e1
            exact (refs_inj e1).symm
          rw [eqs] at e3
          have hTm := e3 m tq Rm htq hRm
          obtain ⟨es, g1, g2, g3⟩ := hD4.push hTm
          refine ⟨rfl, ?_⟩
          unfold tYes
          refine iteT ?_
          refine ⟨.ref tq, rfl, _, g1, ?_, s4.later nDm, hq4.past g1 pD, by rw [etm, ← List.append_assoc]; exact g3, by rw [upd_ne pD]; exact hp4⟩
          rw [List.length_map, g2, List.length_append, List.length_take]
          have h1 : Rp.length + Rq.length ≤ (k + 1) * (zs.length * zs.length) := by
            rw [Nat.succ_mul]
            omega
          have h2 : (k + 1) * (zs.length * zs.length) ≤ Rz.length * (zs.length * zs.length) := Nat.mul_le_mul_right _ hkz
          omega
        · rintro H4 ⟨s4, hq4, hD4, hp4⟩
          rw [List.length_map, q2, List.take_length] at hD4
          refine ⟨s4, Rp ++ Rq, hD4, fun u => ?_, ?_⟩
          · rw [us_app, usp u, usq u, etk, us_snoc]
            constructor
            · rintro (⟨h1, h2⟩ | ⟨h1, h2⟩)
              · exact ⟨.inl h1, h2⟩
              · exact ⟨.inr h1, h2⟩
            · rintro ⟨h1 | h1, h2⟩
              · exact .inl ⟨h1, h2⟩
              · exact .inr ⟨h1, h2⟩
          · rw [List.length_append, Nat.succ_mul]
            omega
      · rintro Hk ⟨sk, Rp, hRp, usp, lenp⟩
        rw [List.length_map, r2'] at usp lenp
        rw [List.take_length] at usp
        have us2 : ∀ u, US Rp u ↔ US Rs u ∧ ∀ a ∈ as.take (i + 1), ¬ Sat (fo a) u := fun u => by
          rw [usp u, usz u, etake]
          constructor
          · rintro ⟨⟨h1, h2⟩, h3⟩
            refine ⟨h1, fun x hx => ?_⟩
            rcases List.mem_append.mp hx with m | m
            · exact h2 x m
            · exact List.mem_singleton.mp m ▸ h3
          · rintro ⟨h1, h2⟩
            exact ⟨⟨h1, fun x hx => h2 x (List.mem_append_left _ hx)⟩, h2 a (List.mem_append_right _ (List.mem_singleton.mpr rfl))⟩
        have len2 : Rp.length ≤ Rs.length * (zs.length * zs.length) ^ (i + 1) := Nat.le_trans lenp lenN
        obtain ⟨es, e1, e2, e3⟩ := id hRp
        refine ⟨.ref Dm, rfl, !(es.map V.ref).isEmpty, .inl ⟨_, SqL.of e1, rfl⟩, ?_⟩
        cases es with
        | nil =>
          refine iteT ⟨Nat.zero_le _, fun pz npz => ?_⟩
          have hz : Rp = [] := List.length_eq_zero_iff.mp e2.symm
          have s3 := (s1.trans s2).trans sk
          refine q _ pz [] (s3.trans (same_upd npz)) ⟨[], upd_same, rfl, fun i t R e => nomatch e⟩ (fun u => ⟨fun h => absurd h us_nil, fun h => ?_⟩) (Nat.zero_le _)
          exfalso
          have := (us2 u).mpr ⟨h.1, fun x hx hs => h.2 ((usO u).mpr ⟨x, List.mem_of_mem_take hx, hs⟩)⟩
          rw [hz] at this
          exact us_nil this
        | cons e0 er =>
          refine iteF ?_
          exact ⟨_, Dm, Rp, rfl, s2.trans sk, hRp, us2, len2⟩
    · rintro σ H2 ⟨y3, rl, Rz, rfl, s2, hRz, usz, lenz⟩
      rw [List.length_map, List.take_length] at usz
      rw [List.length_map, lenA] at lenz
      refine ⟨.ref rl, rfl, q _ rl Rz (s1.trans s2) hRz (fun u => ?_) lenz⟩
      rw [usz u, usO u]
      exact ⟨fun ⟨h1, h2⟩ => ⟨h1, fun ⟨a, ha, hs⟩ => h2 a ha hs⟩, fun ⟨h1, h2⟩ => ⟨h1, fun a ha hs => h2 ⟨a, ha, hs⟩⟩⟩
end
end Lo
namespace Lo
open PySem L2
/-! Things that are locked while a def runs: what it makes is none of them. -/
/-- things with their contents -/
structure LockOk (ds : List (Addr × HO)) (H : Hp) : Prop where
  nd : (ds.map (·.1)).Nodup
  at_ : ∀ p ∈ ds, H p.1 = some p.2
  mu : ∀ p ∈ ds, Mut (some p.2)
structure LockOf (ds : List (Addr × HO)) (H HL : Hp) : Prop where
  on : ∀ p ∈ ds, ∃ o, HL p.1 = some (.frz o p.2)
  off : ∀ b, b ∉ ds.map (·.1) → HL b = H b
structure UnlockOf (ds : List (Addr × HO)) (H' H'' : Hp) : Prop where
  on : ∀ p ∈ ds, H'' p.1 = some p.2
  off : ∀ b, b ∉ ds.map (·.1) → H'' b = H' b
section
variable {X : Cx} {pins : List (Addr × Obj)} {σ : L2.St} {s : Shared}
theorem locks : ∀ {ds : List (Addr × HO)} {H : Hp}, Inv X pins σ H s → LockOk ds H → ∃ HL, LockOf ds H HL ∧ Inv X pins σ HL s
  | [], H, I, _ => ⟨H, ⟨fun p h => (nomatch h), fun b _ => rfl⟩, I⟩
  | (d, u) :: ds, H, I, k => by
    obtain ⟨h1, h2⟩ := List.nodup_cons.mp k.nd
    obtain ⟨HL, hl, IL⟩ := locks (ds := ds) I ⟨h2, fun p hp => k.at_ p (List.mem_cons_of_mem _ hp), fun p hp => k.mu p (List.mem_cons_of_mem _ hp)⟩
    have hd : HL d = some u := by
      rw [hl.off d h1]
      exact k.at_ (d, u) List.mem_cons_self
    obtain ⟨od, I2⟩ := IL.lock hd (k.mu (d, u) List.mem_cons_self)
    refine ⟨_, ⟨fun p hp => ?_, fun b hb => ?_⟩, I2⟩
    · rcases List.mem_cons.mp hp with e | e
      · rw [e]
        exact ⟨od, upd_same⟩
      · have ne : p.1 ≠ d := fun z => h1 (by rw [← z]; exact List.mem_map.mpr ⟨p, e, rfl⟩)
        obtain ⟨o, ho⟩ := hl.on p e
        exact ⟨o, by rw [upd_ne ne]; exact ho⟩
    · have ne : b ≠ d := fun z => hb (by rw [z]; exact List.mem_cons_self)
      rw [upd_ne ne]
      exact hl.off b fun z => hb (List.mem_cons_of_mem _ z)
theorem unlocks : ∀ {ds : List (Addr × HO)} {H : Hp}, Inv X pins σ H s → (ds.map (·.1)).Nodup → (∀ p ∈ ds, ∃ o, H p.1 = some (.frz o p.2)) → (∀ p ∈ ds, ∀ o' u', X.H_0 p.1 ≠ some (.frz o' u')) → ∃ HU, UnlockOf ds H HU ∧ Inv X pins σ HU s
  | [], H, I, _, _, _ => ⟨H, ⟨fun p h => (nomatch h), fun b _ => rfl⟩, I⟩
  | (d, u) :: ds, H, I, nd, on, nf => by
    obtain ⟨h1, h2⟩ := List.nodup_cons.mp nd
    obtain ⟨HU, hu, IU⟩ := unlocks (ds := ds) I h2 (fun p hp => on p (List.mem_cons_of_mem _ hp)) (fun p hp => nf p (List.mem_cons_of_mem _ hp))
    obtain ⟨o, ho⟩ := on (d, u) List.mem_cons_self
    have hd : HU d = some (.frz o u) := by
      rw [hu.off d h1]
      exact ho
    have I2 := IU.unlock hd (nf (d, u) List.mem_cons_self)
    refine ⟨_, ⟨fun p hp => ?_, fun b hb => ?_⟩, I2⟩
    · rcases List.mem_cons.mp hp with e | e
      · rw [e]
        exact upd_same
      · have ne : p.1 ≠ d := fun z => h1 (by rw [← z]; exact List.mem_map.mpr ⟨p, e, rfl⟩)
        rw [upd_ne ne]
        exact hu.on p e
    · have ne : b ≠ d := fun z => hb (by rw [z]; exact List.mem_cons_self)
      rw [upd_ne ne]
      exact hu.off b fun z => hb (List.mem_cons_of_mem _ z)
/-- an expression, with things locked -/
def tLocks (t : TE) : TE := fun σ H Q => ∃ ds, LockOk ds H ∧ ∀ HL, LockOf ds H HL → t σ HL fun v H' => (∀ p ∈ ds, ∀ o, HL p.1 = some (.frz o p.2) → H' p.1 = some (.frz o p.2)) ∧ ∀ H'', UnlockOf ds H' H'' → Q v H''
theorem pe_locks {e : Expr} {t : TE} (h : PE X e t) : PE X e (tLocks t) := by
  refine ⟨fun pins s σ H Q I ⟨ds, k, hw⟩ => ?_⟩
  obtain ⟨HL, hl, IL⟩ := locks I k
  refine thn (h.run pins s σ _ _ IL (hw HL hl)) fun v s1 ⟨x, H', I', r, on, q⟩ => ?_
  obtain ⟨HU, hu, IU⟩ := unlocks I' k.nd (fun p hp => by
    obtain ⟨o, ho⟩ := hl.on p hp
    exact ⟨o, on p hp o ho⟩) (fun p hp => I.nofrz (k.at_ p hp) (k.mu p hp))
  exact ⟨x, HU, IU, r, q HU hu⟩
end
section
variable {X : Cx} {CX : CXT} {k : Nat} {f : Addr} {fd : FuncData} {ps : List Str} {sp : Sp} {dvs : List V} {ds : List Value} {E : XK} {x : Str} {p pos : Pos} {e : Expr} {es : List Expr} {ta : TA}
/-- a call, with things locked behind the arguments -/
def tCallL (sp : Sp) (dvs : List V) (E : XK) (t : TA) : TE := fun σ H Q => t σ H fun vs H1 => ∃ ds, LockOk ds H1 ∧ ∀ HL, LockOf ds H1 HL → sp (vs ++ dvs) HL (fun v H' => (∀ p ∈ ds, ∀ o, HL p.1 = some (.frz o p.2) → H' p.1 = some (.frz o p.2)) ∧ ∀ H'', UnlockOf ds H' H'' → Q v H'') E
theorem pe_callL2 (F : FnOk X.prog X.w X.K X.mg X.base CX k f fd ps sp) (hr : Room k X.A) (hg : Gl X x) (hm : X.mg x = some (.ref f)) (hk : PySem.W.keepIn X.K (.ref f) = true) (hb : Binds X.K fd ps ds) (hd : Vals dvs ds) (hx : Passes CX X E)
    (ha : PA X (e :: es) ta) (hdb : (x == ("__debug__" : Str)) = false := by decide) (he : starEach (e :: es) X.env = (false, eval e X.env) :: starEach es X.env := by rfl) (hpl : (backTo pos (starEach es X.env)).any (·.1) = false := by rfl) :
    PE X (.Call (.Name x p) (e :: es) [] pos) (tCallL sp dvs E ta) := by
  refine ⟨fun pins s σ H Q I h => ?_⟩
  refine wpAny_Call_Name_kw (ld_glob I hg hm ?_ hdb)
  refine PySem.W.callWith_K (h₀ := X.base) I.ok.mod.kin hk (thn (ha.run pos pins s σ H _ I h) fun us s1 ⟨vs, H1, I1, r, ds, kk, q⟩ => ⟨I1.kIn, ?_⟩) he hpl
  obtain ⟨HL, hl, IL⟩ := locks I1 kk
  refine thn (run_fn F hr hb hd hx IL r (q HL hl)) fun v s2 ⟨y, H', I', r', on, q'⟩ => ?_
  obtain ⟨HU, hu, IU⟩ := unlocks I' kk.nd (fun p hp => by
    obtain ⟨o, ho⟩ := hl.on p hp
    exact ⟨o, on p hp o ho⟩) (fun p hp => I1.nofrz (kk.at_ p hp) (kk.mu p hp))
  exact ⟨y, HU, IU, r', q' HU hu⟩
end
end Lo
namespace Lo
open PySem L2
/-- the things of a table -/
def ObT (H : Hp) (t a : Addr) : Prop := a = t ∨ ∃ kvs k, H t = some (.dK kvs) ∧ (k, V.ref a) ∈ kvs
def AvT (A : Addr → Prop) (H : Hp) (t : Addr) : Prop := ∀ a, ObT H t a → ¬ A a
def AvL (A : Addr → Prop) (H : Hp) (L : Addr) : Prop := ∀ ts : List Addr, H L = some (.lst (ts.map V.ref)) → ∀ t ∈ ts, AvT A H t
def inD (ds : List (Addr × HO)) (a : Addr) : Prop := a ∈ ds.map (·.1)
def Dks (ds : List (Addr × HO)) : Prop := ∀ p ∈ ds, ∃ kvs, p.2 = HO.dK kvs
theorem inD_at {ds : List (Addr × HO)} {a : Addr} (h : inD ds a) : ∃ u, (a, u) ∈ ds := by
  obtain ⟨p, hp, rfl⟩ := List.mem_map.mp h
  exact ⟨p.2, hp⟩
theorem LockOk.same {ds : List (Addr × HO)} {H H' : Hp} (k : LockOk ds H) (s : Same H H') : LockOk ds H' := ⟨k.nd, fun p hp => s _ _ (k.at_ p hp), k.mu⟩
theorem TabG.obj {H : Hp} {t : Addr} {ns : List Str} {ra : Str → Addr} {rk : Str → List Str} {rv : Str → Str → Int} (G : TabG H t ns ra rk rv) {a : Addr} : ObT H t a ↔ a = t ∨ ∃ x ∈ ns, a = ra x := by
  constructor
  · rintro (e | ⟨kvs, k, h, m⟩)
    · exact .inl e
    · rw [G.dict] at h
      have h := Option.some.inj h
      injection h with h
      rw [← h] at m
      obtain ⟨x, hx, e⟩ := List.mem_map.mp m
      injection e with _ e
      injection e with e
      exact .inr ⟨x, hx, e.symm⟩
  · rintro (e | ⟨x, hx, e⟩)
    · exact .inl e
    · exact .inr ⟨_, Sum.inr x, G.dict, List.mem_map.mpr ⟨x, hx, by rw [e]⟩⟩
theorem TabR.dict {H : Hp} {t : Addr} {R : List SRow} {zs : List Str} (h : TabR H t R zs) : ∃ kvs, H t = some (.dK kvs) := by
  obtain ⟨ns, ra, rk, rv, G, _⟩ := h
  exact ⟨_, G.dict⟩
theorem ObT.back {H H' : Hp} {t a : Addr} (s : ∀ o, H t = some o → H' t = some o) (k : ∃ kvs, H t = some (.dK kvs)) (h : ObT H' t a) : ObT H t a := by
  rcases h with e | ⟨kvs, x, e, m⟩
  · exact .inl e
  · obtain ⟨kvs', e'⟩ := k
    have := s _ e'
    rw [e] at this
    have := Option.some.inj this
    injection this with this
    exact .inr ⟨kvs', x, e', this ▸ m⟩
theorem AvT.same {A : Addr → Prop} {H H' : Hp} {t : Addr} {R : List SRow} {zs : List Str} (s : Same H H') (h : TabR H t R zs) (a : AvT A H t) : AvT A H' t := fun b hb => a b (hb.back (fun o => s _ _) h.dict)
theorem AvL.same {A : Addr → Prop} {H H' : Hp} {L : Addr} {Rs : List (List SRow)} {zs : List Str} (s : Same H H') (h : Tabs H L Rs zs) (a : AvL A H L) : AvL A H' L := by
  obtain ⟨ts, h1, h2, h3⟩ := h
  intro ts' e t ht
  rw [s _ _ h1] at e
  have e := Option.some.inj e
  injection e with e
  have e := refs_inj e
  subst e
  obtain ⟨i, hi, rfl⟩ := List.getElem_of_mem ht
  exact (a ts h1 _ ht).same s (h3 i _ _ (List.getElem?_eq_getElem hi) (List.getElem?_eq_getElem (by omega)))
theorem AvL.nil {A : Addr → Prop} {H : Hp} {L : Addr} (h : H L = some (.lst [])) : AvL A H L := fun ts e t ht => by
  rw [h] at e
  have e := Option.some.inj e
  injection e with e
  have : ts = [] := List.map_eq_nil_iff.mp e.symm
  rw [this] at ht
  exact nomatch ht
theorem upd_keep {H : Hp} {L t : Addr} {xs : List V} {o u : HO} (hL : H L = some (.lst xs)) (h : H t = some u) (hu : ∀ ys, u ≠ .lst ys) : upd H L o t = some u := by
  rw [upd_ne (ne_of h hL fun z => hu _ z)]
  exact h
theorem AvT.past {A : Addr → Prop} {H : Hp} {L t : Addr} {R : List SRow} {zs : List Str} {xs : List V} {o : HO} (hL : H L = some (.lst xs)) (h : TabR H t R zs) (a : AvT A H t) : AvT A (upd H L o) t := fun b hb => by
  obtain ⟨kvs, e⟩ := h.dict
  refine a b (hb.back (fun u hu => ?_) ⟨kvs, e⟩)
  rw [e] at hu
  rw [← Option.some.inj hu]
  exact upd_keep hL e fun ys z => nomatch z
theorem AvL.past {A : Addr → Prop} {H : Hp} {L p : Addr} {Rs : List (List SRow)} {zs : List Str} {xs : List V} {o : HO} (h : Tabs H p Rs zs) (hL : H L = some (.lst xs)) (ne : p ≠ L) (a : AvL A H p) : AvL A (upd H L o) p := by
  obtain ⟨ts, h1, h2, h3⟩ := h
  intro ts' e t ht
  rw [upd_ne ne, h1] at e
  have e := Option.some.inj e
  injection e with e
  have e := refs_inj e
  subst e
  obtain ⟨i, hi, rfl⟩ := List.getElem_of_mem ht
  exact (a ts h1 _ ht).past hL (h3 i _ _ (List.getElem?_eq_getElem hi) (List.getElem?_eq_getElem (by omega)))
theorem AvL.push {A : Addr → Prop} {H : Hp} {L t : Addr} {Rs : List (List SRow)} {R : List SRow} {zs : List Str} {ts : List Addr} (hL : H L = some (.lst (ts.map V.ref))) (h : Tabs H L Rs zs) (hT : TabR H t R zs) (a : AvL A H L) (at_ : AvT A H t) : AvL A (upd H L (.lst (ts.map V.ref ++ [.ref t]))) L := by
  obtain ⟨ts0, h1, h2, h3⟩ := h
  have e0 : ts0 = ts := by
    rw [hL] at h1
    have e := Option.some.inj h1
    injection e with e
    exact (refs_inj e).symm
  subst e0
  intro ts' e x hx
  rw [upd_same] at e
  have e := Option.some.inj e
  injection e with e
  have e : ts0 ++ [t] = ts' := refs_inj (by rw [List.map_append]; exact e)
  subst e
  rcases List.mem_append.mp hx with m | m
  · obtain ⟨i, hi, rfl⟩ := List.getElem_of_mem m
    exact (a ts0 hL _ m).past hL (h3 i _ _ (List.getElem?_eq_getElem hi) (List.getElem?_eq_getElem (by omega)))
  · rw [List.mem_singleton.mp m]
    exact at_.past hL hT
/-! ### through a lock -/
section
variable {ds : List (Addr × HO)} {H HL H' HU : Hp}
theorem LockOf.free {b : Addr} (l : LockOf ds H HL) (h : HL b = none) : H b = none := by
  by_cases k : b ∈ ds.map (·.1)
  · obtain ⟨p, hp, rfl⟩ := List.mem_map.mp k
    obtain ⟨o, e⟩ := l.on p hp
    rw [h] at e
    cases e
  · rw [← l.off b k]
    exact h
theorem lock_same (k : LockOk ds H) (l : LockOf ds H HL) (s : Same HL H') (u : UnlockOf ds H' HU) : Same H HU := fun b o e => by
  by_cases m : b ∈ ds.map (·.1)
  · obtain ⟨p, hp, rfl⟩ := List.mem_map.mp m
    rw [k.at_ p hp] at e
    rw [u.on p hp]
    exact e
  · rw [u.off b m]
    refine s b o ?_
    rw [l.off b m]
    exact e
theorem lock_keeps (l : LockOf ds H HL) (s : Same HL H') : ∀ p ∈ ds, ∀ o, HL p.1 = some (.frz o p.2) → H' p.1 = some (.frz o p.2) := fun p _ o e => s _ _ e
theorem lock_out (l : LockOf ds H HL) (s : Same HL H') {b : Addr} {o : HO} (h : H' b = some o) (no : ∀ a u, o ≠ .frz a u) : b ∉ ds.map (·.1) := fun m => by
  obtain ⟨p, hp, rfl⟩ := List.mem_map.mp m
  obtain ⟨a, e⟩ := l.on p hp
  rw [s _ _ e] at h
  exact no _ _ (Option.some.inj h).symm
theorem lock_in (k : LockOk ds H) (dk : Dks ds) (l : LockOf ds H HL) {b : Addr} {o : HO} (h : H b = some o) (no : ∀ kvs, o ≠ .dK kvs) : HL b = some o := by
  rw [l.off b fun m => ?_]
  · exact h
  · obtain ⟨p, hp, rfl⟩ := List.mem_map.mp m
    obtain ⟨kvs, e⟩ := dk p hp
    rw [k.at_ p hp, e] at h
    exact no _ (Option.some.inj h).symm
theorem lock_tab {t : Addr} {R : List SRow} {zs : List Str} (l : LockOf ds H HL) (h : TabR H t R zs) (a : AvT (inD ds) H t) : TabR HL t R zs := by
  obtain ⟨ns, ra, rk, rv, G, h2, h3, h4, h5⟩ := h
  exact ⟨ns, ra, rk, rv, ⟨by rw [l.off _ (a _ (G.obj.mpr (.inl rfl)))]; exact G.dict, G.nd, fun x hx => by rw [l.off _ (a _ (G.obj.mpr (.inr ⟨x, hx, rfl⟩)))]; exact G.row x hx, G.off, G.rnd⟩, h2, h3, h4, h5⟩
theorem lock_sys {L : Addr} {F : List SRow} (k : LockOk ds H) (dk : Dks ds) (l : LockOf ds H HL) (h : Sys RowT H L F) : Sys RowT HL L F := by
  obtain ⟨ps, h1, h2, h3⟩ := h
  exact ⟨ps, lock_in k dk l h1 (fun _ z => nomatch z), h2, fun i p r a b => lock_in k dk l (h3 i p r a b) (fun _ z => nomatch z)⟩
theorem unlock_tab {t : Addr} {R : List SRow} {zs : List Str} (l : LockOf ds H HL) (s : Same HL H') (u : UnlockOf ds H' HU) (h : TabR H' t R zs) : TabR HU t R zs ∧ AvT (inD ds) HU t := by
  obtain ⟨ns, ra, rk, rv, G, h2, h3, h4, h5⟩ := h
  have o1 := lock_out l s G.dict (fun _ _ z => nomatch z)
  have o2 : ∀ x ∈ ns, ra x ∉ ds.map (·.1) := fun x hx => lock_out l s (G.row x hx) (fun _ _ z => nomatch z)
  have G' : TabG HU t ns ra rk rv := ⟨by rw [u.off _ o1]; exact G.dict, G.nd, fun x hx => by rw [u.off _ (o2 x hx)]; exact G.row x hx, G.off, G.rnd⟩
  refine ⟨⟨ns, ra, rk, rv, G', h2, h3, h4, h5⟩, fun a ha => ?_⟩
  rcases G'.obj.mp ha with e | ⟨x, hx, e⟩
  · rw [e]; exact o1
  · rw [e]; exact o2 x hx
theorem unlock_tabs {L : Addr} {Rs : List (List SRow)} {zs : List Str} (l : LockOf ds H HL) (s : Same HL H') (u : UnlockOf ds H' HU) (h : Tabs H' L Rs zs) : Tabs HU L Rs zs ∧ AvL (inD ds) HU L := by
  obtain ⟨ts, h1, h2, h3⟩ := h
  have hL : HU L = some (.lst (ts.map V.ref)) := by
    rw [u.off _ (lock_out l s h1 (fun _ _ z => nomatch z))]
    exact h1
  refine ⟨⟨ts, hL, h2, fun i t R a b => (unlock_tab l s u (h3 i t R a b)).1⟩, fun ts' e t ht => ?_⟩
  rw [hL] at e
  have e := Option.some.inj e
  injection e with e
  have e := refs_inj e
  subst e
  obtain ⟨i, hi, rfl⟩ := List.getElem_of_mem ht
  exact (unlock_tab l s u (h3 i _ _ (List.getElem?_eq_getElem hi) (List.getElem?_eq_getElem (by omega)))).2
theorem lock_tabs {L : Addr} {Rs : List (List SRow)} {zs : List Str} (k : LockOk ds H) (dk : Dks ds) (l : LockOf ds H HL) (h : Tabs H L Rs zs) (a : AvL (inD ds) H L) : Tabs HL L Rs zs := by
  obtain ⟨ts, h1, h2, h3⟩ := h
  exact ⟨ts, lock_in k dk l h1 (fun _ z => nomatch z), h2, fun i t R x y => lock_tab l (h3 i t R x y) (a ts h1 t (List.mem_of_getElem? x))⟩
end
end Lo
namespace Lo
open PySem L2
/-- the fewest rows of some systems, all together -/
def LitsOf (zs : List Str) (Os : List (List SRow)) (G : List SRow) : Prop := ∃ fs : List (List SRow), fs.length = Os.length ∧ G = fs.flatten ∧ ∀ F ∈ fs, RowsIn zs F ∧ ∃ O ∈ Os, Few O F
/-- each row is one of the systems, one of G, or one of G denied -/
def RowsG (Rs : List (List SRow)) (G R' : List SRow) : Prop := ∀ q ∈ R', (∃ R ∈ Rs, q ∈ R) ∨ q ∈ G ∨ ∃ g ∈ G, q = cutRow g
structure FewOf2 (H : Hp) (fs : List Addr) (fo : Addr → List SRow) (Os : List (List SRow)) (zs : List Str) : Prop extends FewOf H fs fo Os zs where
  least : ∀ (i : Nat) (a : Addr) (O : List SRow), fs[i]? = some a → Os[i]? = some O → Few O (fo a)
theorem Tabs.each {H : Hp} {L : Addr} {Rs : List (List SRow)} {zs : List Str} (h : Tabs H L Rs zs) : ∀ R ∈ Rs, ∃ v, Sat R v := fun R hR => by
  obtain ⟨ts, a, b, c⟩ := h
  obtain ⟨i, hi, rfl⟩ := List.getElem_of_mem hR
  exact (c i ts[i] _ (List.getElem?_eq_getElem (by omega)) (List.getElem?_eq_getElem hi)).sat
section
variable {P : Program} {w : World} {K : PySem.W.Frag} {mg : Str → Option Value} {base : Heap}
def spSub2 : Sp := fun vs H Q _ => ∃ (tl ol : Addr) (Rs Os : List (List SRow)) (zs : List Str) (E : List SRow) (d : Nat) (ds : List (Addr × HO)), vs = [.ref tl, .ref ol] ∧ LockOk ds H ∧ Dks ds ∧ AvL (inD ds) H tl ∧ Tabs H tl Rs zs ∧ Tabs H ol Os zs ∧ zs.length ≤ 20 ∧ 1 ≤ zs.length ∧ Os.length < sizeLine ∧
  (∀ O ∈ Os, ∀ q : SRow, q.1 ≠ q.2.1 → q.1 ∈ zs → q.2.1 ∈ zs → D O q.1 q.2.1 = some q.2.2 → q ∈ E) ∧ (∀ e ∈ E, e.1 ∈ zs ∧ e.2.1 ∈ zs) ∧ zs.length ≤ d + 1 ∧ phi E.length d < sizeLine ∧ Rs.Pairwise (Sep E) ∧
  ∀ (H' : Hp) (p : Addr) (Rs' : List (List SRow)) (G : List SRow), Same H H' → Tabs H' p Rs' zs → (∀ u, US Rs' u ↔ US Rs u ∧ ¬ US Os u) → Rs'.length ≤ phi E.length d → LitsOf zs Os G → (∀ R' ∈ Rs', RowsG Rs G R') → AvL (inD ds) H' p → Q (.ref p) H'
theorem ok_sub2 {f fF fC : Addr} {fd fdF fdC : FuncData} (F : Fun K "subtracted" "subtracted" sSubtracted f fd) (T : Blt mg) (hsort : mg "sorted" = none)
    (GF : FnOk P w K mg base CX0 3 fF fdF ["table"] spFewR) (kF : PySem.W.keepIn K (.ref fF) = true) (bF : Binds K fdF ["table"] []) (gF : mg "fewest_of" = some (.ref fF))
    (GC : FnOk P w K mg base CX0 4 fC fdC ["table", "differences"] spCutOff) (kC : PySem.W.keepIn K (.ref fC) = true) (bC : Binds K fdC ["table", "differences"] []) (gC : mg "cut_off" = some (.ref fC)) :
    FnOk P w K mg base CX0 5 f fd ["tables", "others"] spSub2 := by
  refine F.ok scSubtracted (fun vs H Q E h => ?_) (fun cdv A outer s H vs Q E hr h => ?_)
  · obtain ⟨tl, ol, Rs, Os, zs, E0, d0, lds, rfl, _⟩ := h
    rfl
  · obtain ⟨tl, ol, Rs, Os, zs, E0, d0, lds, rfl, lk, dk, av, hT, hO, few, pos, fewO, entE, inE, dim, bound, sepR, q⟩ := h
    have nd := scSubtracted.nd
    have r3 := hr.mono (show 3 ≤ 4 by decide)
    refine ⟨_, pss_cons (ps_set (i := 2) nd rfl (.inl rfl) (pv 0))
      (pss_cons (ps_for PassesOwn.never rfl (pi_list (KyS.pe_sortLen (x := "other") (y := "other") (by rfl) hsort (by rfl) T.len (pa_cons (pe_lc (own := [("other", 4)]) (g := gName 4) (tt := tYes) rfl nd (pi_list (pv 1)) (blkOk_by (N := nSubtracted) (sc := defScope sSubtracted) (by decide +kernel))
            (fun _ _ _ _ _ => pg_name (i := 4) nd rfl (.inl rfl)) (fun _ _ _ _ _ => pts_nil) (fun _ _ _ _ _ => pe_call GF r3 (by rfl) gF kF bF .nil pass0 (pa_cons (pv 4) pa_nil))) pa_nil))) (pg_name (i := 3) nd rfl (.inr rfl))
        (pss_cons (ps_setLc2 (i := 2) (own := [("table", 5), ("part", 6)]) (vs1 := [6]) (g := gName 5) (g1 := gName 6) (tt := tYes) (tt1 := tYes) rfl nd rfl rfl (sw_true rfl rfl rfl (by decide +kernel)) (pi_list (pv 2)) (blkOk_by (N := nSubtracted) (sc := defScope sSubtracted) (by decide +kernel)) (by decide)
            (fun _ _ _ _ _ => pg_name (i := 5) nd rfl (.inl rfl)) (fun _ _ _ _ _ => pts_nil)
            (fun _ _ _ _ _ => (show PI _ _ _ (iList K _) from pi_list (pe_callL2 GC hr (by rfl) gC kC bC .nil pass0 (pa_cons (pv 5) (pa_cons (pv 3) pa_nil)))))
            (fun _ _ _ _ _ => pg_name (i := 6) nd rfl (.inl rfl)) (fun _ _ _ _ _ => pts_nil) (fun _ _ _ _ _ => pv 6))
        (pss_one (ps_if (pt_not (pt_truth (pv 2) (by intro _; rfl))) (pss_one (ps_ret (pe_lst pa_nil))) pss_nil))))
      (pss_one (ps_ret (pv 2)))), ?_⟩
    have B1 : 1 ≤ zs.length * zs.length := Nat.mul_pos pos pos
    obtain ⟨os, o1, o2, o3⟩ := id hO
    refine ⟨.ref tl, rfl, ?_⟩
    refine ⟨.ref ol, rfl, ol, rfl, ⟨_, SqL.of o1⟩, fun D0 nD0 => ?_⟩
    refine lc_list (K := K) (a := ol) (xs := os.map V.ref) (fun j H' => Same H H' ∧ ∃ (fs : List Addr) (fo : Addr → List SRow), H' D0 = some (.lst (fs.map V.ref)) ∧ fs.Nodup ∧ (∀ a ∈ fs, a ≠ D0) ∧ FewOf2 H' fs fo (Os.take j) zs)
      ⟨same_upd nD0, [], fun _ => [], upd_same, List.nodup_nil, fun a h => absurd h List.not_mem_nil, ⟨⟨rfl, fun a h => absurd h List.not_mem_nil, fun i a O e => nomatch e⟩, fun i a O e => nomatch e⟩⟩ (fun j H' _ h => SqL.of (h.1 _ _ o1)) ?_ ?_
    · rintro j v Hc hj ⟨sc, fs, fo, hc, nodup, nD, FO⟩
      obtain ⟨a, rfl, ha, hai⟩ := pick_ref hj
      have hjO : j < Os.length := by omega
      obtain ⟨O, hO'⟩ : ∃ O, Os[j]? = some O := ⟨_, List.getElem?_eq_getElem hjO⟩
      have etake : Os.take (j + 1) = Os.take j ++ [O] := by rw [List.take_add_one, hO']; rfl
      refine ⟨rfl, ?_⟩
      unfold tYes
      refine iteT ?_
      refine ⟨.ref a, rfl, a, O, zs, rfl, (o3 j a O ha hO').same sc, few, fun H2 p Fr s2 np hFr sameF rin lenF fewF => ?_⟩
      have hc2 := s2 _ _ hc
      have pD : p ≠ D0 := (ne_of_none hc np).symm
      have pfs : p ∉ fs := fun m => by
        obtain ⟨⟨ps, g, _⟩, _⟩ := FO.sys p m
        rw [np] at g
        cases g
      have flen : fs.length = j := by
        rw [FO.len, List.length_take]
        omega
      refine ⟨_, hc2, by rw [List.length_map, flen]; omega, (sc.trans s2).later nD0, fs ++ [p], Lo.put fo p Fr, by rw [upd_same, List.map_append]; rfl, ?_, ?_, ?_⟩
      · exact List.nodup_append.mpr ⟨nodup, List.nodup_cons.mpr ⟨List.not_mem_nil, List.nodup_nil⟩, fun x hx y hy e => pfs (by rw [List.mem_singleton.mp hy] at e; exact e ▸ hx)⟩
      · intro x hx
        rcases List.mem_append.mp hx with m | m
        · exact nD x m
        · exact List.mem_singleton.mp m ▸ pD
      · refine ⟨⟨by rw [etake, List.length_append, List.length_append, FO.len]; rfl, fun x hx => ?_, fun i x X hx hX => ?_⟩, fun i x X hx hX => ?_⟩
        · by_cases e : x = p
          · subst e
            rw [put_at]
            exact ⟨hFr.offL hc2 pD, rin, lenF⟩
          · rw [put_off e]
            have m : x ∈ fs := (List.mem_append.mp hx).elim id fun m => absurd (List.mem_singleton.mp m) e
            obtain ⟨g1, g2, g3⟩ := FO.sys x m
            exact ⟨(g1.sameT s2).offL hc2 (nD x m), g2, g3⟩
        · rw [etake] at hX
          by_cases k : i < fs.length
          · rw [List.getElem?_append_left k] at hx
            rw [List.getElem?_append_left (by rw [← FO.len]; exact k)] at hX
            have xp : x ≠ p := fun e => pfs (e ▸ List.mem_of_getElem? hx)
            rw [put_off xp]
            exact FO.same i x X hx hX
          · have hi2 : i = fs.length := by
              have := (List.getElem?_eq_some_iff.mp hx).1
              rw [List.length_append, List.length_singleton] at this
              omega
            subst hi2
            rw [List.getElem?_append_right (Nat.le_refl _), Nat.sub_self] at hx
            rw [FO.len, List.getElem?_append_right (Nat.le_refl _), Nat.sub_self] at hX
            have e1 : p = x := Option.some.inj hx
            have e2 : O = X := Option.some.inj hX
            subst e1 e2
            rw [put_at]
            exact sameF
        · rw [etake] at hX
          by_cases k : i < fs.length
          · rw [List.getElem?_append_left k] at hx
            rw [List.getElem?_append_left (by rw [← FO.len]; exact k)] at hX
            have xp : x ≠ p := fun e => pfs (e ▸ List.mem_of_getElem? hx)
            rw [put_off xp]
            exact FO.least i x X hx hX
          · have hi2 : i = fs.length := by
              have := (List.getElem?_eq_some_iff.mp hx).1
              rw [List.length_append, List.length_singleton] at this
              omega
            subst hi2
            rw [List.getElem?_append_right (Nat.le_refl _), Nat.sub_self] at hx
            rw [FO.len, List.getElem?_append_right (Nat.le_refl _), Nat.sub_self] at hX
            have e1 : p = x := Option.some.inj hx
            have e2 : O = X := Option.some.inj hX
            subst e1 e2
            rw [put_at]
            exact fewF
    rintro Hc ⟨sc, fs, fo, hc, nodup, nD, FO⟩
    rw [List.length_map, o2, List.take_length] at FO
    refine ⟨D0, fs, fs.map (fun a => (((fo a).length : Nat) : Int)), rfl, SqL.of hc, by rw [List.length_map], fun i a k ha hk => ?_, fun ps D1 so nD1 => ?_⟩
    · obtain ⟨⟨qs, g1, g2, _⟩, _⟩ := FO.sys a (List.mem_of_getElem? ha)
      rw [List.getElem?_map, ha] at hk
      have hk : (((fo a).length : Nat) : Int) = k := Option.some.inj hk
      exact ⟨_, SqL.of g1, by rw [← hk, List.length_map, g2]⟩
    have hperm : (ps.map Prod.snd).Perm fs := by
      have := so.1.map Prod.snd
      rwa [List.map_snd_zip (by rw [List.length_map]; exact Nat.le_refl _)] at this
    have emap : (ps.map fun p => V.ref p.2) = (ps.map Prod.snd).map V.ref := by rw [List.map_map]; rfl
    rw [emap]
    generalize ps.map Prod.snd = as at hperm
    have sD1 := same_upd (o := HO.lst (as.map V.ref)) nD1
    have hD1 := upd_same (H := Hc) (a := D1) (o := HO.lst (as.map V.ref))
    have FO1 : ∀ a ∈ as, Sys RowT (upd Hc D1 (.lst (as.map V.ref))) a (fo a) ∧ RowsIn zs (fo a) ∧ (fo a).length ≤ zs.length * zs.length := fun a ha => by
      obtain ⟨g1, g2, g3⟩ := FO.sys a (hperm.mem_iff.mp ha)
      exact ⟨g1.sameT sD1, g2, g3⟩
    have fewA : ∀ a ∈ as, ∃ O ∈ Os, Few O (fo a) := fun a ha => by
      obtain ⟨i, hi, rfl⟩ := List.getElem_of_mem (hperm.mem_iff.mp ha)
      have ho : i < Os.length := by rw [← FO.len]; exact hi
      exact ⟨Os[i], List.getElem_mem ho, FO.least i _ _ (List.getElem?_eq_getElem hi) (List.getElem?_eq_getElem ho)⟩
    have lenA : as.length = Os.length := hperm.length_eq.trans FO.len
    have s1 : Same H (upd Hc D1 (.lst (as.map V.ref))) := sc.trans sD1
    generalize upd Hc D1 (.lst (as.map V.ref)) = H1 at *
    have usO : ∀ u, US Os u ↔ ∃ a ∈ as, Sat (fo a) u := fun u => FO.us.trans ⟨fun ⟨a, ha, h⟩ => ⟨a, hperm.mem_iff.mpr ha, h⟩, fun ⟨a, ha, h⟩ => ⟨a, hperm.mem_iff.mp ha, h⟩⟩
    have FE : ∀ a ∈ as, ∀ q ∈ fo a, q ∈ E0 := fun a ha q hq => by
      obtain ⟨O, hO', fw⟩ := fewA a ha
      obtain ⟨o1, o2⟩ := fw.own q hq
      obtain ⟨_, i1, i2⟩ := (FO1 a ha).2.1 q hq
      exact entE O hO' q o1 i1 i2 o2
    have FG : ∀ a ∈ as, ∀ q ∈ fo a, q ∈ (as.map fo).flatten := fun a ha q hq => List.mem_flatten.mpr ⟨fo a, List.mem_map.mpr ⟨a, ha, rfl⟩, hq⟩
    have lits : LitsOf zs Os (as.map fo).flatten := ⟨as.map fo, by rw [List.length_map, lenA], rfl, fun F hF => by
      obtain ⟨a, ha, rfl⟩ := List.mem_map.mp hF
      exact ⟨(FO1 a ha).2.1, fewA a ha⟩⟩
    generalize (as.map fo).flatten = G0 at FG lits
    refine ⟨D1, rfl, ⟨_, SqL.of hD1⟩, for_list (K := K) (a := D1) (xs := as.map V.ref) (fun i σ H' => ∃ (y3 : Option V) (rl : Addr) (Rz : List (List SRow)), σ = [some (.ref tl), some (.ref ol), some (.ref rl), y3, none, none, none] ∧ Same H1 H' ∧ Tabs H' rl Rz zs ∧ (∀ u, US Rz u ↔ US Rs u ∧ ∀ a ∈ as.take i, ¬ Sat (fo a) u) ∧ Rz.Pairwise (Sep E0) ∧ (∀ R' ∈ Rz, RowsG Rs G0 R') ∧ AvL (inD lds) H' rl)
      ⟨_, tl, Rs, rfl, Same.refl _, hT.same s1, fun u => ⟨fun h => ⟨h, fun a h => absurd h List.not_mem_nil⟩, fun h => h.1⟩, sepR, (fun R' hR' q hq => .inl ⟨R', hR', hq⟩), av.same s1 hT⟩ (fun i σ H' _ ⟨_, _, _, _, sm, _⟩ => SqL.of (sm _ _ hD1)) ?_ ?_⟩
    · rintro i x σ H2 hi ⟨y3, rl, Rz, rfl, s2, hRz, usz, sepz, rowz, avz⟩
      obtain ⟨a, rfl, ha, hai⟩ := pick_ref hi
      have hiO : i < Os.length := by omega
      have hma := List.mem_of_getElem? ha
      obtain ⟨hSys, rin, lenF⟩ := FO1 a hma
      have etake : as.take (i + 1) = as.take i ++ [a] := by rw [List.take_add_one, ha]; rfl
      obtain ⟨rs, r1', r2', r3'⟩ := id hRz
      refine ⟨.ref rl, rfl, rl, rfl, ⟨_, SqL.of r1'⟩, fun Dm nDm => ?_⟩
      refine lc2_list (K := K) (a := rl) (xs := rs.map V.ref) (fun k H' => Same H2 H' ∧ ∃ Rp : List (List SRow), Tabs H' Dm Rp zs ∧ (∀ u, US Rp u ↔ US (Rz.take k) u ∧ ¬ Sat (fo a) u) ∧ Rp.Pairwise (Sep E0) ∧ (∀ R' ∈ Rp, RowsG Rs G0 R') ∧ (∀ R' ∈ Rp, ∃ R ∈ Rz.take k, ∀ u, Sat R' u → Sat R u) ∧ AvL (inD lds) H' Dm)
        ⟨same_upd nDm, [], ⟨[], upd_same, rfl, fun i t R e => nomatch e⟩, fun u => ⟨fun h => absurd h us_nil, fun h => absurd h.1 us_nil⟩, .nil, (fun R' h => nomatch h), (fun R' h => nomatch h), AvL.nil upd_same⟩ (fun k H' _ h => SqL.of (h.1 _ _ r1')) ?_ ?_
      · rintro k x Hk hk ⟨sk, Rp, hRp, usp, sepp, rowp, inp, avp⟩
        obtain ⟨t, rfl, ht, hti⟩ := pick_ref hk
        have hkz : k < Rz.length := by omega
        obtain ⟨R, hR⟩ : ∃ R, Rz[k]? = some R := ⟨_, List.getElem?_eq_getElem hkz⟩
        have etk : Rz.take (k + 1) = Rz.take k ++ [R] := by rw [List.take_add_one, hR]; rfl
        refine ⟨rfl, ?_⟩
        unfold tYes
        refine iteT ?_
        have lkk := lk.same (s1.trans (s2.trans sk))
        have avt : AvT (inD lds) Hk t := (avz rs r1' t (List.mem_of_getElem? ht)).same sk (r3' k t R ht hR)
        refine ⟨.ref t, rfl, .ref a, rfl, lds, lkk, fun HL hl => ⟨t, a, R, fo a, zs, rfl, lock_tab hl ((r3' k t R ht hR).same sk) avt, lock_sys lkk dk hl ((hSys.sameT s2).sameT sk), rin, few, by have := Nat.mul_le_mul few few; omega, fun H3' p Rq s3' np' hRq' usq lenq sepq rowq => ⟨lock_keeps hl s3', fun H3 hul => ?_⟩⟩⟩
        have s3 := lock_same lkk hl s3' hul
        obtain ⟨hRq, avq⟩ := unlock_tabs hl s3' hul hRq'
        have np := hl.free np'
        obtain ⟨qs, q1, q2, q3⟩ := id hRq
        obtain ⟨ds, d1, d2, d3⟩ := id (hRp.same s3)
        have pD : p ≠ Dm := by
          obtain ⟨ds', d1', _⟩ := id hRp
          exact (ne_of_none d1' np).symm
        have inq : ∀ R' ∈ Rq, ∀ u, Sat R' u → Sat R u := fun R' hR' u hu => ((usq u).mp ⟨R', hR', hu⟩).1
        have memR : R ∈ Rz := List.mem_of_getElem? hR
        have sepN : (Rp ++ Rq).Pairwise (Sep E0) := List.pairwise_append.mpr ⟨sepp, sepq.imp fun h => h.mono (FE a hma) (fun _ z => z) (fun _ z => z), fun R' hR' R'' hR'' => by
          obtain ⟨R0, h0, h1⟩ := inp R' hR'
          refine Sep.mono (R := R0) (S := R) ?_ (fun q hq => hq) h1 (inq R'' hR'')
          rw [← List.take_append_drop k Rz] at sepz
          refine (List.pairwise_append.mp sepz).2.2 R0 h0 R ?_
          rw [List.drop_eq_getElem_cons hkz]
          have : Rz[k] = R := by
            rw [List.getElem?_eq_getElem hkz] at hR
            exact Option.some.inj hR
          rw [this]
          exact List.mem_cons_self⟩
        have rowN : ∀ R' ∈ Rq, RowsG Rs G0 R' := fun R' hR' q hq => by
          rcases rowq R' hR' q hq with z | z | ⟨f, hf, z⟩
          · exact rowz R memR q z
          · exact .inr (.inl (FG a hma q z))
          · exact .inr (.inr ⟨f, FG a hma f hf, z⟩)
        have lenN : (Rp ++ Rq).length < sizeLine := Nat.lt_of_le_of_lt (cells_few dim inE (fun R' hR' => by
          rcases List.mem_append.mp hR' with z | z
          · exact hRp.each R' z
          · exact hRq.each R' z) sepN) bound
        refine ⟨p, rfl, ⟨_, SqL.of q1⟩, ?_⟩
        refine lci_list (K := K) (a := p) (xs := qs.map V.ref) (g := gName 6) (tt := tYes) (te := tVar 6) (vs := [6]) (D := Dm) (fun m H' => Same H2 H' ∧ Tabs H' p Rq zs ∧ Tabs H' Dm (Rp ++ Rq.take m) zs ∧ H' p = some (.lst (qs.map V.ref)) ∧ AvL (inD lds) H' p ∧ AvL (inD lds) H' Dm) ⟨sk.trans s3, hRq, by
          rw [List.take_zero, List.append_nil]
          exact hRp.same s3, q1, avq, avp.same s3 hRp⟩ (fun m H' _ ⟨_, _, _, h, _, _⟩ => SqL.of h) ?_ ?_
        · rintro m y H4 hm ⟨s4, hq4, hD4, hp4, aq4, aD4⟩
          obtain ⟨tq, rfl, htq, htl⟩ := pick_ref hm
          have hmq : m < Rq.length := by omega
          obtain ⟨Rm, hRm⟩ : ∃ Rm, Rq[m]? = some Rm := ⟨_, List.getElem?_eq_getElem hmq⟩
          have etm : Rq.take (m + 1) = Rq.take m ++ [Rm] := by rw [List.take_add_one, hRm]; rfl
          obtain ⟨qs', e1, e2, e3⟩ := id hq4
          have eqs : qs' = qs := by
            rw [hp4] at e1
            have e1 : HO.lst (qs.map V.ref) = HO.lst (qs'.map V.ref) := Option.some.inj e1
            injection e1 with e1
            exact (refs_inj e1).symm
          rw [eqs] at e3
          have hTm := e3 m tq Rm htq hRm
          obtain ⟨es, g1, g2, g3⟩ := hD4.push hTm
          refine ⟨rfl, ?_⟩
          unfold tYes
          refine iteT ?_
          refine ⟨.ref tq, rfl, _, g1, ?_, s4.later nDm, hq4.past g1 pD, by rw [etm, ← List.append_assoc]; exact g3, by rw [upd_ne pD]; exact hp4, aq4.past hq4 g1 pD, aD4.push g1 hD4 hTm (aq4 qs hp4 tq (List.mem_of_getElem? htq))⟩
          rw [List.length_map, g2, List.length_append, List.length_take]
          rw [List.length_append] at lenN
          omega
        · rintro H4 ⟨s4, hq4, hD4, hp4, _, aD4⟩
          rw [List.length_map, q2, List.take_length] at hD4
          refine ⟨s4, Rp ++ Rq, hD4, fun u => ?_, sepN, fun R' hR' => ?_, fun R' hR' => ?_, aD4⟩
          · rw [us_app, usp u, usq u, etk, us_snoc]
            constructor
            · rintro (⟨h1, h2⟩ | ⟨h1, h2⟩)
              · exact ⟨.inl h1, h2⟩
              · exact ⟨.inr h1, h2⟩
            · rintro ⟨h1 | h1, h2⟩
              · exact .inl ⟨h1, h2⟩
              · exact .inr ⟨h1, h2⟩
          · rcases List.mem_append.mp hR' with z | z
            · exact rowp R' z
            · exact rowN R' z
          · rw [etk]
            rcases List.mem_append.mp hR' with z | z
            · obtain ⟨R0, h0, h1⟩ := inp R' z
              exact ⟨R0, List.mem_append_left _ h0, h1⟩
            · exact ⟨R, List.mem_append_right _ (List.mem_singleton.mpr rfl), inq R' z⟩
      · rintro Hk ⟨sk, Rp, hRp, usp, sepp, rowp, inp, avp⟩
        rw [List.length_map, r2'] at usp
        rw [List.take_length] at usp
        have us2 : ∀ u, US Rp u ↔ US Rs u ∧ ∀ a ∈ as.take (i + 1), ¬ Sat (fo a) u := fun u => by
          rw [usp u, usz u, etake]
          constructor
          · rintro ⟨⟨h1, h2⟩, h3⟩
            refine ⟨h1, fun x hx => ?_⟩
            rcases List.mem_append.mp hx with m | m
            · exact h2 x m
            · exact List.mem_singleton.mp m ▸ h3
          · rintro ⟨h1, h2⟩
            exact ⟨⟨h1, fun x hx => h2 x (List.mem_append_left _ hx)⟩, h2 a (List.mem_append_right _ (List.mem_singleton.mpr rfl))⟩
        obtain ⟨es, e1, e2, e3⟩ := id hRp
        refine ⟨.ref Dm, rfl, !(es.map V.ref).isEmpty, .inl ⟨_, SqL.of e1, rfl⟩, ?_⟩
        cases es with
        | nil =>
          refine iteT ⟨Nat.zero_le _, fun pz npz => ?_⟩
          have hz : Rp = [] := List.length_eq_zero_iff.mp e2.symm
          have s3 := (s1.trans s2).trans sk
          refine q _ pz [] G0 (s3.trans (same_upd npz)) ⟨[], upd_same, rfl, fun i t R e => nomatch e⟩ (fun u => ⟨fun h => absurd h us_nil, fun h => ?_⟩) (Nat.zero_le _) lits (fun R' h => nomatch h) (AvL.nil upd_same)
          exfalso
          have := (us2 u).mpr ⟨h.1, fun x hx hs => h.2 ((usO u).mpr ⟨x, List.mem_of_mem_take hx, hs⟩)⟩
          rw [hz] at this
          exact us_nil this
        | cons e0 er =>
          refine iteF ?_
          exact ⟨_, Dm, Rp, rfl, s2.trans sk, hRp, us2, sepp, rowp, avp⟩
    · rintro σ H2 ⟨y3, rl, Rz, rfl, s2, hRz, usz, sepz, rowz, avz⟩
      rw [List.length_map, List.take_length] at usz
      refine ⟨.ref rl, rfl, q _ rl Rz G0 (s1.trans s2) hRz (fun u => ?_) (cells_few dim inE hRz.each sepz) lits rowz avz⟩
      rw [usz u, usO u]
      exact ⟨fun ⟨h1, h2⟩ => ⟨h1, fun ⟨a, ha, hs⟩ => h2 a ha hs⟩, fun ⟨h1, h2⟩ => ⟨h1, fun a ha hs => h2 ⟨a, ha, hs⟩⟩⟩
end
end Lo
namespace Lo
open PySem L2
abbrev sHullOf : Stmt := top 21
/-- a dict comprehension over any walk -/
theorem dc_it {J : It} {n : Nat} {G : Hp → Prop} {Y : Nat → Hp → V → Hp → Prop} (w : Walk J n G Y) {g : TG} {tt : TT} {tk tv : TE} {vs : List Nat} {σ : St} {H1 : Hp} {D : Addr} {Qd : Hp → Prop} (Pv : Nat → Hp → Prop) (h0 : Pv 0 (upd H1 D (.dK []))) (hG : ∀ i H, i ≤ n → Pv i H → G H)
    (hs : ∀ i x H H', i < n → Pv i H → Y i H x H' → g x (wipe σ vs) H' fun σ2 H2 => wipe σ2 vs = wipe σ vs ∧ tt σ2 H2 fun b H3 =>
      if b = true then tk σ2 H3 fun y H4 => tv σ2 H4 fun z H5 => ∃ kvs k, y = kV k ∧ H5 D = some (.dK kvs) ∧ kvs.length < sizeLine ∧ Pv (i + 1) (upd H5 D (.dK (putK kvs k z))) else Pv (i + 1) H3) (hd : ∀ H, Pv n H → Qd H) :
    ∃ W : Nat → Nat → Hp → Prop, (∃ m, W 0 m (upd H1 D (.dK []))) ∧ ∀ i m H, W i m H →
      (J.stop i H ∧ Qd H) ∨ (J.go i H ∧ ∃ Nx : Hp → Prop, (∀ H', Nx H' → ∃ m', m' < m ∧ W (i + 1) m' H') ∧ ∀ x H', J.yld i H x H' → g x (wipe σ vs) H' fun σ2 H2 => wipe σ2 vs = wipe σ vs ∧ tt σ2 H2 fun b H3 =>
        if b = true then tk σ2 H3 fun y H4 => tv σ2 H4 fun z H5 => ∃ kvs k, y = kV k ∧ H5 D = some (.dK kvs) ∧ kvs.length < sizeLine ∧ Nx (upd H5 D (.dK (putK kvs k z))) else Nx H3) := by
  refine ⟨fun i m H => m = n - i ∧ i ≤ n ∧ Pv i H, ⟨n, by simp, Nat.zero_le _, h0⟩, ?_⟩
  rintro i m H ⟨rfl, hi, p⟩
  have q := hG i H hi p
  by_cases hlt : i < n
  · exact .inr ⟨w.goes i H hlt q, Pv (i + 1), fun H' p' => ⟨n - (i + 1), by omega, rfl, hlt, p'⟩, fun x H' y => hs i x H H' hlt p (w.yields i H x H' hlt q y)⟩
  · have e : i = n := by omega
    subst e
    exact .inl ⟨w.stops H q, hd H p⟩
section
variable {P : Program} {w : World} {K : PySem.W.Frag} {mg : Str → Option Value} {base : Heap}
/-! ### hull_of -/
abbrev nHullOf : List Str := ["one", "other", "left", "row", "right", "limit"]
theorem scHullOf : FnScope nHullOf ["one", "other"] (defScope sHullOf) := ⟨rfl, rfl, rfl, by decide +kernel, rfl, by decide +kernel, by decide +kernel⟩
def spHullOf : Sp := fun vs H Q _ => ∃ (t o : Addr) (R O : List SRow) (zs : List Str), vs = [.ref t, .ref o] ∧ TabR H t R zs ∧ TabR H o O zs ∧ zs.length ≤ 20 ∧
  ∀ (H' : Hp) (p : Addr) (U : List SRow), Same H H' → H p = none → TabR H' p U zs → (∀ u, Sat R u → Sat U u) → (∀ u, Sat O u → Sat U u) → (∀ a b k, a ≠ b → D U a b = some k → D R a b = some k ∨ D O a b = some k) → Q (.ref p) H'
theorem ok_hullof {f : Addr} {fd : FuncData} (F : Fun K "hull_of" "hull_of" sHullOf f fd) (hmax : mg "max" = none) : FnOk P w K mg base CX0 1 f fd ["one", "other"] spHullOf := by
  refine F.ok scHullOf (fun vs H Q E h => ?_) (fun cdv A outer s H vs Q E hr h => ?_)
  · obtain ⟨t, o, R, O, zs, rfl, _⟩ := h
    rfl
  · obtain ⟨t, o, R, O, zs, rfl, hT, hO, few, q⟩ := h
    have nd := scHullOf.nd
    have hu := hu_of hr
    refine ⟨_, pss_one (ps_ret (pe_lock (pe_dc (own := [("left", 2), ("row", 3)]) (g := gTup K 2 (gCons (gName 2) (gCons (gName 3) gNil))) rfl nd (pi_items (pv 0)) (blkOk_by (N := nHullOf) (sc := defScope sHullOf) (by decide +kernel))
      (fun _ _ _ _ _ => pg_tup rfl (pgs_cons (pg_name (i := 2) nd rfl (.inr rfl)) (pgs_cons (pg_name (i := 3) nd rfl (.inl rfl)) pgs_nil)))
      (fun _ _ _ _ _ => pts_one (pt_cmp (pc_din hu (pv 2) (pv 1))))
      (fun _ _ _ _ _ => pv 2)
      (fun _ _ _ _ _ => pe_lock (pe_dc (own := [("right", 4), ("limit", 5)]) (g := gTup K 2 (gCons (gName 4) (gCons (gName 5) gNil))) rfl nd (pi_items (pv 3)) (blkOk_by (by rfl))
        (fun _ _ _ _ _ => pg_tup rfl (pgs_cons (pg_name (i := 4) nd rfl (.inl rfl)) (pgs_cons (pg_name (i := 5) nd rfl (.inl rfl)) pgs_nil)))
        (fun _ _ _ _ _ => pts_one (pt_cmp (pc_din hu (pv 4) (pe_dget hu (pv 1) (pv 2) (fun _ _ => rfl)))))
        (fun _ _ _ _ _ => pv 4)
        (fun _ _ _ _ _ => pe_callB (call_max2 rfl) (by rfl) hmax PyProof.Rows.boot_max (pa_cons (pv 5) (pa_cons (pe_dget hu (pe_dget hu (pv 1) (pv 2) (fun _ _ => rfl)) (pv 4) (fun _ _ => rfl)) pa_nil)))))))), ?_⟩
    obtain ⟨ns, ra, rk, rv, T⟩ := hT.opened
    obtain ⟨os, ro, ko, vo, S⟩ := hO.opened
    have fewN := T.few
    refine ⟨t, _, T.G.dict, trivial, fun od => ?_⟩
    have back : ∀ {H' : Hp}, SameX t H H' → Same H (upd H' t (.dK (dS ns fun x => .ref (ra x)))) := fun sx => sameX_back T.G.dict sx
    refine ⟨.ref t, rfl, t, od, _, rfl, upd_same, fun D nD => ?_⟩
    have Dt : D ≠ t := fun e => by
      rw [e, upd_same] at nD
      cases nD
    have nD0 : H D = none := by
      rw [upd_ne Dt] at nD
      exact nD
    have sx0 : SameX t H (upd (upd H t (.frz od (.dK (dS ns fun x => .ref (ra x))))) D (.dK [])) := fun b u hb e => by
      have bD : b ≠ D := fun z => by
        rw [z, nD0] at e
        cases e
      rw [upd_ne bD, upd_ne hb]
      exact e
    refine dc_it walk_items (fun i H' => SameX t H H' ∧ H' t = some (.frz od (.dK (dS ns fun x => .ref (ra x)))) ∧ ∃ rb : Str → Addr, H' D = some (.dK (dS (hulN (ns.take i) os) fun x => .ref (rb x))) ∧
        ∀ x ∈ hulN (ns.take i) os, H' (rb x) = some (.dK (dS (hulK rk ko x) fun y => .int (hulV rv vo x y))) ∧ rb x ≠ D)
      ⟨sx0, by rw [upd_ne Dt.symm, upd_same], fun _ => t, by rw [upd_same]; rfl, fun x hx => absurd (mem_hulN.mp hx).1 List.not_mem_nil⟩ (fun i H' _ h => h.2.1) ?_ ?_
    · rintro i z H1 H2 hi ⟨s1, ht1, rb, hD1, hrows⟩ ⟨tp, x1, x2, rfl, ntp, rfl, e1, e2⟩
      have hi' : i < ns.length := by
        rw [dS_len] at hi
        exact hi
      dsimp only at e1 e2
      rw [dS_at hi'] at e1 e2
      obtain rfl := Option.some.inj e1
      obtain rfl := Option.some.inj e2
      have sT := same_upd (o := HO.tup [kV (Sum.inr ns[i]), V.ref (ra ns[i])]) ntp
      have etake : ns.take (i + 1) = ns.take i ++ [ns[i]] := by rw [List.take_add_one, List.getElem?_eq_getElem hi']; rfl
      have hx : ns[i] ∈ ns := List.getElem_mem hi'
      have hout : ns[i] ∉ ns.take i := fun m => by
        obtain ⟨j, hj, e⟩ := List.getElem_of_mem m
        rw [List.length_take] at hj
        rw [List.getElem_take] at e
        have := (List.getElem_inj T.G.nd).mp e
        omega
      have s2 := s1.trans (same_x sT)
      have ht2 := sT _ _ ht1
      have hD2 := sT _ _ hD1
      have hrows2 : ∀ x ∈ hulN (ns.take i) os, upd H1 tp (.tup [kV (Sum.inr ns[i]), V.ref (ra ns[i])]) (rb x) = some (.dK (dS (hulK rk ko x) fun y => .int (hulV rv vo x y))) ∧ rb x ≠ D := fun x m => ⟨sT _ _ (hrows x m).1, (hrows x m).2⟩
      refine ⟨tp, _, rfl, SqT.of upd_same, rfl, _, _, rfl, _, _, rfl, rfl, ?_⟩
      refine ⟨rfl, ?_⟩
      have el : (hulN (ns.take (i + 1)) os).length ≤ 20 := Nat.le_trans (List.length_filter_le _ _) (by rw [List.length_take]; omega)
      rw [etake] at el ⊢
      generalize upd H1 tp (.tup [kV (Sum.inr ns[i]), V.ref (ra ns[i])]) = H2 at *
      generalize ns[i] = x at *
      have rdo : Rd H2 o (.dK (dS os fun x => .ref (ro x))) := rdX s2 T.G.dict ht2 S.G.dict
      have hrow := s2 _ _ (T.G.off x hx) (T.G.row x hx)
      refine ⟨.str x, rfl, .ref o, rfl, o, _, rfl, rgetI x rdo, _, rfl, ?_⟩
      by_cases mo : x ∈ os
      · rw [if_pos mo]
        refine iteT ?_
        have eh : hulN (ns.take i ++ [x]) os = hulN (ns.take i) os ++ [x] := by
          unfold hulN
          rw [List.filter_append, List.filter_cons, if_pos (decide_eq_true mo), List.filter_nil]
        rw [eh] at el ⊢
        refine ⟨.str x, rfl, ?_⟩
        refine ⟨ra x, _, hrow, trivial, fun od2 => ?_⟩
        refine ⟨.ref (ra x), rfl, ra x, od2, _, rfl, upd_same, fun D2 nD2 => ?_⟩
        have D2r : D2 ≠ ra x := fun e => by
          rw [e, upd_same] at nD2
          cases nD2
        have nD20 : H2 D2 = none := by
          rw [upd_ne D2r] at nD2
          exact nD2
        have D2D : D2 ≠ D := fun e => by
          rw [e, hD2] at nD20
          cases nD20
        have sx2 : SameX (ra x) H2 (upd (upd H2 (ra x) (.frz od2 (.dK (dS (rk x) fun y => .int (rv x y))))) D2 (.dK [])) := fun b u hb e => by
          have bD : b ≠ D2 := fun z => by
            rw [z, nD20] at e
            cases e
          rw [upd_ne bD, upd_ne hb]
          exact e
        have keys := T.keys hx
        have rdrow : Rd H2 (ro x) (.dK (dS (ko x) fun y => .int (vo x y))) := rdX s2 T.G.dict ht2 (S.G.row x mo)
        refine dc_it walk_items (fun j H' => SameX (ra x) H2 H' ∧ H' (ra x) = some (.frz od2 (.dK (dS (rk x) fun y => .int (rv x y)))) ∧ H' D2 = some (.dK (dS (((rk x).take j).filter fun y => decide (y ∈ ko x)) fun y => .int (hulV rv vo x y))))
          ⟨sx2, by rw [upd_ne D2r.symm, upd_same], by rw [upd_same]; rfl⟩ (fun j H' _ h => h.2.1) ?_ ?_
        · rintro j z H3 H4 hj ⟨s3, hr3, hD3⟩ ⟨tq, w1, w2, rfl, ntq, rfl, d1, d2⟩
          have hj' : j < (rk x).length := by
            rw [dS_len] at hj
            exact hj
          dsimp only at d1 d2
          rw [dS_at hj'] at d1 d2
          obtain rfl := Option.some.inj d1
          obtain rfl := Option.some.inj d2
          have sT2 := same_upd (o := HO.tup [kV (Sum.inr (rk x)[j]), V.int (rv x (rk x)[j])]) ntq
          have etake2 : (rk x).take (j + 1) = (rk x).take j ++ [(rk x)[j]] := by rw [List.take_add_one, List.getElem?_eq_getElem hj']; rfl
          have yout : (rk x)[j] ∉ (rk x).take j := fun m => by
            obtain ⟨j', hj2, e⟩ := List.getElem_of_mem m
            rw [List.length_take] at hj2
            rw [List.getElem_take] at e
            have := (List.getElem_inj (T.G.rnd x hx)).mp e
            omega
          have s4 := s3.trans (same_x sT2)
          have hr4 := sT2 _ _ hr3
          have hD4 := sT2 _ _ hD3
          refine ⟨tq, _, rfl, SqT.of upd_same, rfl, _, _, rfl, _, _, rfl, rfl, ?_⟩
          refine ⟨rfl, ?_⟩
          rw [etake2, List.filter_append, List.filter_cons, List.filter_nil]
          generalize upd H3 tq (.tup [kV (Sum.inr (rk x)[j]), V.int (rv x (rk x)[j])]) = H4 at *
          generalize (rk x)[j] = y at *
          have rdo4 : Rd H4 o (.dK (dS os fun x => .ref (ro x))) := rdX2 s4 hrow hr4 rdo
          have rdr4 : Rd H4 (ro x) (.dK (dS (ko x) fun y => .int (vo x y))) := rdX2 s4 hrow hr4 rdrow
          refine ⟨.str y, rfl, .ref o, rfl, .str x, rfl, o, _, rfl, rget rdo4 mo, ro x, _, rfl, rgetI y rdr4, _, rfl, ?_⟩
          by_cases my : y ∈ ko x
          · rw [if_pos my, if_pos (decide_eq_true my)]
            refine iteT ?_
            refine ⟨.str y, rfl, .int (rv x y), rfl, .ref o, rfl, .str x, rfl, o, _, rfl, rget rdo4 mo, .str y, rfl, ro x, _, rfl, rget rdr4 my, _, _, rfl, _, Sum.inr y, rfl, hD4, ?_, fun b u hb e => ?_, ?_, ?_⟩
            · rw [dS_len]
              exact small1000 (by have := List.length_filter_le (fun y => decide (y ∈ ko x)) ((rk x).take j); rw [List.length_take] at this; omega)
            · have bD : b ≠ D2 := fun z => by
                rw [z, nD20] at e
                cases e
              rw [upd_ne bD]
              exact s4 b u hb e
            · rw [upd_ne D2r.symm]
              exact hr4
            · rw [upd_same, dS_put]
              have out2 : y ∉ ((rk x).take j).filter fun y => decide (y ∈ ko x) := fun m => yout (List.mem_filter.mp m).1
              have e1 : addN (((rk x).take j).filter fun y => decide (y ∈ ko x)) y = (((rk x).take j).filter fun y => decide (y ∈ ko x)) ++ [y] := if_neg out2
              rw [e1]
              congr 2
              refine dS_congr fun w hw => ?_
              by_cases e : w = y
              · subst e
                rw [put_at]
                rfl
              · rw [put_off e]
          · rw [if_neg my, if_neg (fun z => my (of_decide_eq_true z)), List.append_nil]
            exact iteF ⟨s4, hr4, hD4⟩
        · rintro H3 ⟨s3, hr3, hD3⟩
          rw [dS_len, List.take_length] at hD3
          have b2 : Same H2 (upd H3 (ra x) (.dK (dS (rk x) fun y => .int (rv x y)))) := sameX_back hrow s3
          refine ⟨hr3, _, Sum.inr x, rfl, b2 _ _ hD2, by rw [dS_len]; exact small1000 (by rw [List.length_append] at el; have : (hulN (ns.take i) os).length + 1 ≤ 20 := el; omega), fun b u hb e => ?_, ?_, Lo.put rb x D2, ?_, fun w hw => ?_⟩
          · have bD : b ≠ D := fun z => by
              rw [z, nD0] at e
              cases e
            rw [upd_ne bD]
            exact b2 _ _ (s2 b u hb e)
          · rw [upd_ne Dt.symm]
            exact b2 _ _ ht2
          · rw [upd_same, dS_put]
            have out2 : x ∉ hulN (ns.take i) os := fun m => hout (mem_hulN.mp m).1
            have e1 : addN (hulN (ns.take i) os) x = hulN (ns.take i) os ++ [x] := if_neg out2
            rw [e1]
            congr 2
            refine dS_congr fun w hw => ?_
            by_cases e : w = x
            · subst e
              rw [put_at, put_at]
            · rw [put_off e, put_off e]
          · by_cases e : w = x
            · subst e
              rw [put_at]
              refine ⟨?_, D2D⟩
              rw [upd_ne D2D, upd_ne D2r]
              exact hD3
            · rw [put_off e]
              have m : w ∈ hulN (ns.take i) os := (List.mem_append.mp hw).elim id fun m => absurd (List.mem_singleton.mp m) e
              obtain ⟨h1, h2⟩ := hrows2 w m
              exact ⟨by rw [upd_ne h2]; exact b2 _ _ h1, h2⟩
      · rw [if_neg mo]
        have eh : hulN (ns.take i ++ [x]) os = hulN (ns.take i) os := by
          unfold hulN
          rw [List.filter_append, List.filter_cons, if_neg (fun z => mo (of_decide_eq_true z)), List.filter_nil, List.append_nil]
        rw [eh]
        exact iteF ⟨s2, ht2, rb, hD2, hrows2⟩
    · rintro H1 ⟨s1, ht1, rb, hD1, hrows⟩
      rw [dS_len, List.take_length] at hD1 hrows
      obtain ⟨v, hv⟩ := T.sat
      have hv' := (T.eq v).mp hv
      have off : ∀ {b : Addr} {kvs : List (Key × V)}, H1 b = some (.dK kvs) → upd H1 t (.dK (dS ns fun x => .ref (ra x))) b = some (.dK kvs) := fun {b kvs} e => by
        rw [upd_ne (ne_of e ht1 (by intro z; cases z))]
        exact e
      refine ⟨ht1, q _ D _ (back s1) nD0 (TabR.shut (ra := rb) (ns := hulN ns os) (rk := hulK rk ko) (rv := hulV rv vo) ⟨off hD1, T.G.nd.filter _, fun x hx => off (hrows x hx).1, fun x hx => (hrows x hx).2, fun x hx => (T.G.rnd x (mem_hulN.mp hx).1).filter _⟩ (T.S.hull S.S) ⟨v, hull_left hv'⟩ fun x hx => T.sub x (mem_hulN.mp hx).1) (fun u hu => hull_left ((T.eq u).mp hu)) (fun u hu => hull_right ((S.eq u).mp hu)) fun a b k ne h => hul_ent T.S S.S (hull_left hv') T.val S.val ne h⟩
end
end Lo
namespace Lo
open PySem L2
abbrev sAbsorbed : Stmt := top 35
abbrev sLiesInOne : Stmt := top 36
theorem within_us {Rs : List (List SRow)} {R O : List SRow} {u : Str → Int} (hO : O ∈ Rs) (h : Within R O) (hu : Sat R u) : US Rs u := ⟨O, hO, h u hu⟩
section
variable {P : Program} {w : World} {K : PySem.W.Frag} {mg : Str → Option Value} {base : Heap}
/-! ### _lies_in_one -/
abbrev nLiesInOne : List Str := ["table", "others", "outer"]
theorem scLiesInOne : FnScope nLiesInOne ["table", "others"] (defScope sLiesInOne) := ⟨rfl, rfl, rfl, by decide +kernel, rfl, by decide +kernel, by decide +kernel⟩
def spLiesInOne : Sp := fun vs H Q _ => ∃ (t L : Addr) (R : List SRow) (Os : List (List SRow)) (zs : List Str), vs = [.ref t, .ref L] ∧ TabR H t R zs ∧ Tabs H L Os zs ∧ ∀ (H' : Hp) (b : Bool), Same H H' → (b = true ↔ ∃ O ∈ Os, Within R O) → Q (.bl b) H'
theorem ok_liesinone {f fL : Addr} {fd fdL : FuncData} (F : Fun K "_lies_in_one" "_lies_in_one" sLiesInOne f fd)
    (GL : FnOk P w K mg base CX0 1 fL fdL ["table", "outer"] spLiesIn) (kL : PySem.W.keepIn K (.ref fL) = true) (bL : Binds K fdL ["table", "outer"] []) (gL : mg "lies_in" = some (.ref fL)) :
    FnOk P w K mg base CX0 2 f fd ["table", "others"] spLiesInOne := by
  refine F.ok scLiesInOne (fun vs H Q E h => ?_) (fun cdv A outer s H vs Q E hr h => ?_)
  · obtain ⟨t, L, R, Os, zs, rfl, _⟩ := h
    rfl
  · obtain ⟨t, L, R, Os, zs, rfl, hT, ⟨os, o1, o2, o3⟩, q⟩ := h
    have nd := scLiesInOne.nd
    refine ⟨_, pss_cons (ps_for PassesOwn.never rfl (pi_list (pv 1)) (pg_name (i := 2) nd rfl (.inl rfl))
        (pss_one (ps_if (pt_val (pe_call GL hr (by rfl) gL kL bL .nil pass0 (pa_cons (pv 0) (pa_cons (pv 2) pa_nil)))) (pss_one (ps_ret pe_bl)) pss_nil)))
      (pss_one (ps_ret pe_bl)), ?_⟩
    refine ⟨.ref L, rfl, L, rfl, ⟨_, SqL.of o1⟩, for_list (K := K) (a := L) (xs := os.map V.ref) (fun i σ H' => ∃ y2 : Option V, σ = [some (.ref t), some (.ref L), y2] ∧ Same H H' ∧ ∀ O ∈ Os.take i, ¬ Within R O)
      ⟨none, rfl, Same.refl _, fun O h => absurd h List.not_mem_nil⟩ (fun i σ H' _ ⟨_, _, sm, _⟩ => SqL.of (sm _ _ o1)) ?_ ?_⟩
    · rintro i x σ H1 hi ⟨y2, rfl, s1, prev⟩
      obtain ⟨a, rfl, ha, hai⟩ := pick_ref hi
      obtain ⟨O, hO⟩ : ∃ O, Os[i]? = some O := ⟨_, List.getElem?_eq_getElem (by omega)⟩
      refine ⟨.ref t, rfl, .ref a, rfl, t, a, R, O, zs, zs, rfl, hT.same s1, (o3 i a O ha hO).same s1, fun H2 b s2 hb => ⟨b, rfl, ite2 (fun e => ?_) (fun e => ?_)⟩⟩
      · exact q _ true (s1.trans s2) ⟨fun _ => ⟨O, List.mem_of_getElem? hO, hb.mp e⟩, fun _ => rfl⟩
      · refine ⟨_, rfl, s1.trans s2, fun X hX => ?_⟩
        rw [List.take_add_one, hO] at hX
        rcases List.mem_append.mp hX with m | m
        · exact prev X m
        · rw [List.mem_singleton.mp m]
          exact fun z => e (hb.mpr z)
    · rintro σ H1 ⟨y2, rfl, s1, prev⟩
      rw [List.length_map, o2, List.take_length] at prev
      exact q _ false s1 ⟨(fun z => nomatch z), fun ⟨O, hO, h⟩ => absurd h (prev O hO)⟩
/-! ### absorbed -/
abbrev nAbsorbed : List Str := ["tables", "found", "table", "other"]
theorem scAbsorbed : FnScope nAbsorbed ["tables"] (defScope sAbsorbed) := ⟨rfl, rfl, rfl, by decide +kernel, rfl, by decide +kernel, by decide +kernel⟩
def spAbsorbed : Sp := fun vs H Q _ => ∃ (tl : Addr) (Rs : List (List SRow)) (zs : List Str), vs = [.ref tl] ∧ Tabs H tl Rs zs ∧ Rs.length < sizeLine ∧ ∀ (H' : Hp) (p : Addr) (Rs' : List (List SRow)), Same H H' → Tabs H' p Rs' zs → (∀ u, US Rs' u ↔ US Rs u) → Rs'.length ≤ Rs.length → (∀ R' ∈ Rs', R' ∈ Rs) → Q (.ref p) H'
theorem ok_absorbed {f fL fO : Addr} {fd fdL fdO : FuncData} (F : Fun K "absorbed" "absorbed" sAbsorbed f fd) (T : Blt mg) {tc : Nat} (hcr : mg "CROWD" = some (.int 400 tc))
    (GL : FnOk P w K mg base CX0 1 fL fdL ["table", "outer"] spLiesIn) (kL : PySem.W.keepIn K (.ref fL) = true) (bL : Binds K fdL ["table", "outer"] []) (gL : mg "lies_in" = some (.ref fL))
    (GO : FnOk P w K mg base CX0 2 fO fdO ["table", "others"] spLiesInOne) (kO : PySem.W.keepIn K (.ref fO) = true) (bO : Binds K fdO ["table", "others"] []) (gO : mg "_lies_in_one" = some (.ref fO)) :
    FnOk P w K mg base CX0 3 f fd ["tables"] spAbsorbed := by
  refine F.ok scAbsorbed (fun vs H Q E h => ?_) (fun cdv A outer s H vs Q E hr h => ?_)
  · obtain ⟨tl, Rs, zs, rfl, _⟩ := h
    rfl
  · obtain ⟨tl, Rs, zs, rfl, ⟨rs, r1', r2', r3'⟩, few, q⟩ := h
    have nd := scAbsorbed.nd
    have r1 := hr.mono (show 1 ≤ 2 by decide)
    refine ⟨_, pss_cons (ps_set (i := 1) nd rfl (.inl rfl) (pe_lst pa_nil))
      (pss_cons (ps_for PassesOwn.never rfl (pi_list (pv 0)) (pg_name (i := 2) nd rfl (.inr rfl))
        (pss_one (ps_if (pt_cmpR op_gt (pe_callB call_len_seq (by rfl) T.len PySem.boot_len (pa_cons (pv 1) pa_nil)) (pe_glob (v := .int 400) (by rfl) hcr ⟨_, rfl⟩) (nomark _))
          (pss_one (ps_expr (pe_bm PySem.F.plainAttrs_list PySem.F.slot_list_append PySem.F.type_list_append mt_append (pv 1) (pa_cons (pv 2) pa_nil))))
          (pss_one (ps_if (pt_not (pt_val (pe_call GO hr (by rfl) gO kO bO .nil pass0 (pa_cons (pv 2) (pa_cons (pv 1) pa_nil)))))
            (pss_one (ps_set (i := 1) nd rfl (.inl rfl) (pe_lst (StX.pa_star (pe_lc (own := [("other", 3)]) (g := gName 3) rfl nd (pi_list (pv 1)) (blkOk_by (N := nAbsorbed) (sc := defScope sAbsorbed) (by decide +kernel))
              (fun _ _ _ _ _ => pg_name (i := 3) nd rfl (.inl rfl)) (fun _ _ _ _ _ => pts_one (pt_not (pt_val (pe_call GL r1 (by rfl) gL kL bL .nil pass0 (pa_cons (pv 3) (pa_cons (pv 2) pa_nil)))))) (fun _ _ _ _ _ => pv 3)) (pa_cons (pv 2) pa_nil))))) pss_nil)))))
      (pss_one (ps_ret (pv 1)))), ?_⟩
    refine ⟨Nat.zero_le _, fun o no => ?_⟩
    have sO := same_upd (o := HO.lst []) no
    refine ⟨.ref tl, rfl, tl, rfl, ⟨_, SqL.of (sO _ _ r1')⟩, for_list (K := K) (a := tl) (xs := rs.map V.ref) (fun i σ H' => ∃ (y2 : Option V) (fl : Addr) (Fs : List (List SRow)), σ = [some (.ref tl), some (.ref fl), y2, none] ∧ Same H H' ∧ H fl = none ∧ Tabs H' fl Fs zs ∧ (∀ u, US Fs u ↔ US (Rs.take i) u) ∧ Fs.length ≤ i ∧ ∀ R' ∈ Fs, R' ∈ Rs)
      ⟨none, o, [], rfl, sO, no, ⟨[], upd_same, rfl, fun i t R e => nomatch e⟩, fun u => Iff.rfl, Nat.zero_le _, fun R' h => nomatch h⟩ (fun i σ H' _ ⟨_, _, _, _, sm, _⟩ => SqL.of (sm _ _ r1')) ?_ ?_⟩
    · rintro i x σ H1 hi ⟨y2, fl, Fs, rfl, s1, nfl, hF, usF, lenF, memF⟩
      have hRm : ∀ R, Rs[i]? = some R → R ∈ Rs := fun R h => List.mem_of_getElem? h
      obtain ⟨t, rfl, ht, hti⟩ := pick_ref hi
      have hiR : i < Rs.length := by omega
      obtain ⟨R, hR⟩ : ∃ R, Rs[i]? = some R := ⟨_, List.getElem?_eq_getElem hiR⟩
      have etake : Rs.take (i + 1) = Rs.take i ++ [R] := by rw [List.take_add_one, hR]; rfl
      have hT := (r3' i t R ht hR).same s1
      obtain ⟨fs, f1, f2, f3⟩ := id hF
      refine ⟨.ref fl, rfl, fl, _, rfl, .inl (SqL.of f1), _, _, rfl, rfl, _, rfl, ite2 (fun c => ?_) (fun c => ?_)⟩
      · refine ⟨.ref fl, rfl, .inl ⟨rfl, _, SqL.of f1⟩, .ref t, rfl, fl, _, _, rfl, rfl, f1, by rw [List.length_map, f2]; omega, ?_⟩
        refine ⟨_, fl, Fs ++ [R], rfl, s1.later nfl, nfl, Tabs.snoc f1 f2 f3 hT, fun u => ?_, by rw [List.length_append]; show Fs.length + 1 ≤ i + 1; omega, fun R' h => (List.mem_append.mp h).elim (memF R') fun z => List.mem_singleton.mp z ▸ hRm R hR⟩
        rw [us_snoc, etake, us_snoc, usF u]
      · refine ⟨.ref t, rfl, .ref fl, rfl, t, fl, R, Fs, zs, rfl, hT, hF, fun H2 b s2 hb => ⟨b, rfl, ?_⟩⟩
        cases b with
        | true =>
          refine iteF ⟨_, fl, Fs, rfl, s1.trans s2, nfl, hF.same s2, fun u => ?_, by omega, memF⟩
          obtain ⟨O, hO, hW⟩ := hb.mp rfl
          rw [etake, us_snoc, ← usF u]
          exact ⟨.inl, fun z => z.elim id fun z => within_us hO hW z⟩
        | false =>
          refine iteT ?_
          have f1' := s2 _ _ f1
          refine ⟨.ref fl, rfl, fl, rfl, ⟨_, SqL.of f1'⟩, fun D nD => ?_⟩
          refine lc_list (K := K) (a := fl) (xs := fs.map V.ref) (fun k H' => Same H2 H' ∧ ∃ Gs : List (List SRow), Tabs H' D Gs zs ∧ (∀ u, US Gs u ∨ Sat R u ↔ US (Fs.take k) u ∨ Sat R u) ∧ Gs.length ≤ k ∧ ∀ R' ∈ Gs, R' ∈ Rs)
            ⟨same_upd nD, [], ⟨[], upd_same, rfl, fun i t R e => nomatch e⟩, fun u => Iff.rfl, Nat.zero_le _, fun R' h => nomatch h⟩ (fun k H' _ h => SqL.of (h.1 _ _ f1')) ?_ ?_
          · rintro k y Hk hk ⟨sk, Gs, hG, usG, lenG, memG⟩
            obtain ⟨a, rfl, ha, hai⟩ := pick_ref hk
            have hkF : k < Fs.length := by omega
            obtain ⟨O, hO⟩ : ∃ O, Fs[k]? = some O := ⟨_, List.getElem?_eq_getElem hkF⟩
            have etk : Fs.take (k + 1) = Fs.take k ++ [O] := by rw [List.take_add_one, hO]; rfl
            have s2k := s2.trans sk
            have hA := (f3 k a O ha hO).same s2k
            refine ⟨rfl, .ref a, rfl, .ref t, rfl, a, t, O, R, zs, zs, rfl, hA, hT.same s2k, fun H3 b s3 hb => ⟨b, rfl, ?_⟩⟩
            cases b with
            | true =>
              refine iteF ⟨sk.trans s3, Gs, hG.same s3, fun u => ?_, by omega, memG⟩
              rw [usG u, etk, us_snoc]
              have w := hb.mp rfl u
              constructor
              · rintro (z | z)
                · exact .inl (.inl z)
                · exact .inr z
              · rintro ((z | z) | z)
                · exact .inl z
                · exact .inr (w z)
                · exact .inr z
            | false =>
              obtain ⟨gs, g1, g2, g3⟩ := (hG.same s3).push (hA.same s3)
              refine iteT ⟨.ref a, rfl, _, g1, by rw [List.length_map, g2]; omega, (sk.trans s3).later nD, Gs ++ [O], g3, fun u => ?_, by rw [List.length_append]; show Gs.length + 1 ≤ k + 1; omega, fun R' h => (List.mem_append.mp h).elim (memG R') fun z => List.mem_singleton.mp z ▸ memF O (List.mem_of_getElem? hO)⟩
              rw [etk, us_snoc, us_snoc]
              have g := usG u
              constructor
              · rintro ((z | z) | z)
                · rcases g.mp (.inl z) with z | z
                  · exact .inl (.inl z)
                  · exact .inr z
                · exact .inl (.inr z)
                · exact .inr z
              · rintro ((z | z) | z)
                · rcases g.mpr (.inl z) with z | z
                  · exact .inl (.inl z)
                  · exact .inr z
                · exact .inl (.inr z)
                · exact .inr z
          · rintro Hk ⟨sk, Gs, hG, usG, lenG, memG⟩
            rw [List.length_map, f2] at usG lenG
            rw [List.take_length] at usG
            obtain ⟨gs, g1, g2, g3⟩ := id hG
            have s2k := s2.trans sk
            refine ⟨D, _, rfl, .inr (SqL.of g1), .ref t, rfl, ?_, fun p np => ?_⟩
            · rw [List.length_append, List.length_map, g2]
              show Gs.length + 1 ≤ sizeLine
              omega
            · have sp := same_upd (o := HO.lst (gs.map V.ref ++ [V.ref t])) np
              have s1p := (s1.trans s2k).trans sp
              refine ⟨_, p, Gs ++ [R], rfl, s1p, (s1.trans s2k).free np, ⟨gs ++ [t], by rw [upd_same, List.map_append]; rfl, by rw [List.length_append, List.length_append, g2]; rfl, fun j t' R' a1 a2 => ?_⟩, fun u => ?_, by rw [List.length_append]; show Gs.length + 1 ≤ i + 1; omega, fun R' h => (List.mem_append.mp h).elim (memG R') fun z => List.mem_singleton.mp z ▸ hRm R hR⟩
              · by_cases kk : j < gs.length
                · rw [List.getElem?_append_left kk] at a1
                  rw [List.getElem?_append_left (by omega)] at a2
                  exact (g3 j t' R' a1 a2).same sp
                · have hj : j = gs.length := by
                    have := (List.getElem?_eq_some_iff.mp a1).1
                    rw [List.length_append, List.length_singleton] at this
                    omega
                  subst hj
                  rw [List.getElem?_append_right (Nat.le_refl _), Nat.sub_self] at a1
                  rw [g2, List.getElem?_append_right (Nat.le_refl _), Nat.sub_self] at a2
                  have e1 : t = t' := Option.some.inj a1
                  have e2 : R = R' := Option.some.inj a2
                  subst e1 e2
                  exact (hT.same s2k).same sp
              · rw [us_snoc, usG u, etake, us_snoc, usF u]
    · rintro σ H1 ⟨y2, fl, Fs, rfl, s1, nfl, hF, usF, lenF, memF⟩
      rw [List.length_map, r2'] at usF lenF
      rw [List.take_length] at usF
      exact ⟨.ref fl, rfl, q _ fl Fs s1 hF usF lenF memF⟩
end
end Lo
namespace Lo
open PySem L2
abbrev sOneOf : Stmt := top 39
abbrev sPartner : Stmt := top 38
abbrev sUnited : Stmt := top 37
abbrev sSimplified : Stmt := top 40
abbrev sOutside : Stmt := top 33
section
variable {P : Program} {w : World} {K : PySem.W.Frag} {mg : Str → Option Value} {base : Heap}
/-! ### one_of -/
abbrev nOneOf : List Str := ["table", "differences", "other", "both", "left", "right", "limit", "part"]
theorem scOneOf : FnScope nOneOf ["table", "differences", "other"] (defScope sOneOf) := ⟨rfl, rfl, rfl, by decide +kernel, rfl, by decide +kernel, by decide +kernel⟩
def spOneOf : Sp := fun vs H Q _ => ∃ (t L o : Addr) (R F O : List SRow) (zs : List Str), vs = [.ref t, .ref L, .ref o] ∧ TabR H t R zs ∧ Sys RowT H L F ∧ SameS F R ∧ RowsIn zs F ∧ TabR H o O zs ∧ zs.length ≤ 20 ∧
  ∀ (H' : Hp) (x : V), Same H H' → (x = .non ∨ ∃ d U, x = .ref d ∧ TabR H' d U zs ∧ (∀ u, Sat U u ↔ Sat R u ∨ Sat O u) ∧ ∀ a b k, a ≠ b → D U a b = some k → D R a b = some k ∨ D O a b = some k) → Q x H'
theorem ok_oneof {f fH fT fL : Addr} {fd fdH fdT fdL : FuncData} (F : Fun K "one_of" "one_of" sOneOf f fd)
    (GH : FnOk P w K mg base CX0 1 fH fdH ["one", "other"] spHullOf) (kH : PySem.W.keepIn K (.ref fH) = true) (bH : Binds K fdH ["one", "other"] []) (gH : mg "hull_of" = some (.ref fH))
    (GT : FnOk P w K mg base CX0 3 fT fdT ["table", "left", "right", "limit"] spTightR) (kT : PySem.W.keepIn K (.ref fT) = true) (bT : Binds K fdT ["table", "left", "right", "limit"] []) (gT : mg "tightened" = some (.ref fT))
    (GL : FnOk P w K mg base CX0 1 fL fdL ["table", "outer"] spLiesIn) (kL : PySem.W.keepIn K (.ref fL) = true) (bL : Binds K fdL ["table", "outer"] []) (gL : mg "lies_in" = some (.ref fL)) :
    FnOk P w K mg base CX0 4 f fd ["table", "differences", "other"] spOneOf := by
  refine F.ok scOneOf (fun vs H Q E h => ?_) (fun cdv A outer s H vs Q E hr h => ?_)
  · obtain ⟨t, L, o, R, F, O, zs, rfl, _⟩ := h
    rfl
  · obtain ⟨t, L, o, R, Fs, O, zs, rfl, hT, ⟨ps, hL, hll, hat⟩, sameF, hF, hO, few, q⟩ := h
    have nd := scOneOf.nd
    have r1 := hr.mono (show 1 ≤ 3 by decide)
    refine ⟨_, pss_cons (ps_set (i := 3) nd rfl (.inl rfl) (pe_call GH r1 (by rfl) gH kH bH .nil pass0 (pa_cons (pv 0) (pa_cons (pv 2) pa_nil))))
      (pss_cons (ps_for PassesOwn.never rfl (pi_list (pv 1)) (pg_tup rfl (pgs_cons (pg_name (i := 4) nd rfl (.inl rfl)) (pgs_cons (pg_name (i := 5) nd rfl (.inl rfl)) (pgs_cons (pg_name (i := 6) nd rfl (.inl rfl)) pgs_nil))))
        (pss_cons (ps_set (i := 7) nd rfl (.inl rfl) (pe_call GT hr (by rfl) gT kT bT .nil pass0 (pa_cons (pv 3) (pa_cons (pv 5) (pa_cons (pv 4) (pa_cons (pe_op op_sub (pe_un un_neg (pv 6)) pe_int) pa_nil))))))
        (pss_one (ps_if (PW.pt (pw_and (pt_cmpR op_notN (pv 7) pe_non (nomark _)) (pw_and1 (pt_not (pt_val (pe_call GL r1 (by rfl) gL kL bL .nil pass0 (pa_cons (pv 7) (pa_cons (pv 2) pa_nil)))))))) (pss_one (ps_ret pe_non)) pss_nil))))
      (pss_one (ps_ret (pv 3)))), ?_⟩
    refine ⟨.ref t, rfl, .ref o, rfl, t, o, R, O, zs, rfl, hT, hO, few, fun H1 d U s1 nd1 hU hUR hUO hul => ?_⟩
    refine ⟨.ref L, rfl, L, rfl, ⟨_, SqL.of (s1 _ _ hL)⟩, for_list (K := K) (a := L) (xs := ps.map V.ref) (fun i σ H' => ∃ (y4 y5 y6 y7 : Option V), σ = [some (.ref t), some (.ref L), some (.ref o), some (.ref d), y4, y5, y6, y7] ∧ Same H1 H' ∧ ∀ u, Sat U u → (∃ q ∈ Fs.take i, ¬ u q.1 - u q.2.1 ≤ q.2.2) → Sat O u)
      ⟨none, none, none, none, rfl, Same.refl _, fun u _ ⟨q', hq', _⟩ => absurd hq' List.not_mem_nil⟩ (fun i σ H' _ ⟨_, _, _, _, _, sm, _⟩ => SqL.of (sm _ _ (s1 _ _ hL))) ?_ ?_⟩
    · rintro i x σ H2 hi ⟨y4, y5, y6, y7, rfl, s2, prev⟩
      obtain ⟨a, rfl, ha, hai⟩ := pick_ref hi
      obtain ⟨q', hq'⟩ : ∃ q', Fs[i]? = some q' := ⟨_, List.getElem?_eq_getElem (by omega)⟩
      have hrow : H a = some (.tup (rowV q')) := hat i a q' ha hq'
      obtain ⟨ne, in1, in2⟩ := hF q' (List.mem_of_getElem? hq')
      have etake : Fs.take (i + 1) = Fs.take i ++ [q'] := by rw [List.take_add_one, hq']; rfl
      obtain ⟨l, r, c⟩ := q'
      dsimp only at ne in1 in2
      have s12 := s1.trans s2
      refine ⟨a, _, rfl, SqT.of (s12 _ _ hrow), rfl, _, _, rfl, _, _, rfl, _, _, rfl, rfl, ?_⟩
      refine ⟨.ref d, rfl, .str r, rfl, .str l, rfl, .int c, rfl, _, rfl, _, _, rfl, rfl, d, r, l, _, U, zs, rfl, hU.same s2, ne.symm, in2, in1, few, fun H3 x3 s3 hx => ?_⟩
      have next : (∀ u, Sat (U ++ [(r, l, -c - 1)]) u → Sat O u) → ∀ u, Sat U u → (∃ q ∈ Fs.take (i + 1), ¬ u q.1 - u q.2.1 ≤ q.2.2) → Sat O u := fun k u hu ⟨p, hp, h⟩ => by
        rw [etake] at hp
        rcases List.mem_append.mp hp with m | m
        · exact prev u hu ⟨p, m, h⟩
        · rw [List.mem_singleton.mp m] at h
          exact k u (sat_app.mpr ⟨hu, denied.mpr h⟩)
      rcases hx with ⟨rfl, no⟩ | ⟨e, rfl, he⟩
      · refine ⟨.non, rfl, rfl, _, rfl, iteF (iteF ?_)⟩
        exact ⟨_, _, _, _, rfl, s2.trans s3, next fun u hu => absurd hu (no u)⟩
      · refine ⟨.ref e, rfl, rfl, _, rfl, iteT ?_⟩
        refine ⟨.ref e, rfl, .ref o, rfl, e, o, _, O, zs, zs, rfl, he, (hO.same s12).same s3, fun H4 b s4 hb => ⟨b, rfl, ?_⟩⟩
        cases b with
        | true => exact iteF ⟨_, _, _, _, rfl, (s2.trans s3).trans s4, next (hb.mp rfl)⟩
        | false => exact iteT (q _ _ ((s12.trans s3).trans s4) (.inl rfl))
    · rintro σ H2 ⟨y4, y5, y6, y7, rfl, s2, prev⟩
      rw [List.length_map, hll, List.take_length] at prev
      refine ⟨.ref d, rfl, q _ _ (s1.trans s2) (.inr ⟨d, U, rfl, hU.same s2, fun u => ⟨fun hu => ?_, fun z => z.elim (hUR u) (hUO u)⟩, hul⟩)⟩
      by_cases k : Sat Fs u
      · exact .inl ((sameF u).mp k)
      · refine .inr (prev u hu ?_)
        refine Classical.byContradiction fun z => k fun p hp => ?_
        refine Classical.byContradiction fun w => z ⟨p, hp, w⟩
/-! ### _partner -/
abbrev nPartner : List Str := ["table", "others", "differences", "at", "other", "both"]
theorem scPartner : FnScope nPartner ["table", "others"] (defScope sPartner) := ⟨rfl, rfl, rfl, by decide +kernel, rfl, by decide +kernel, by decide +kernel⟩
def spPartner : Sp := fun vs H Q _ => ∃ (t L : Addr) (R : List SRow) (Os : List (List SRow)) (zs : List Str), vs = [.ref t, .ref L] ∧ TabR H t R zs ∧ Tabs H L Os zs ∧ zs.length ≤ 20 ∧
  (∀ (H' : Hp) (p : Addr), Same H H' → H' p = some (.tup [.non, .non]) → Q (.ref p) H') ∧
  ∀ (H' : Hp) (p d : Addr) (i : Nat) (O U : List SRow), Same H H' → Os[i]? = some O → H' p = some (.tup [.int i, .ref d]) → TabR H' d U zs → (∀ u, Sat U u ↔ Sat R u ∨ Sat O u) → (∀ a b k, a ≠ b → D U a b = some k → D R a b = some k ∨ D O a b = some k) → Q (.ref p) H'
theorem ok_partner {f fF fO : Addr} {fd fdF fdO : FuncData} (F : Fun K "_partner" "_partner" sPartner f fd) (T : Blt mg)
    (GF : FnOk P w K mg base CX0 3 fF fdF ["table"] spFewR) (kF : PySem.W.keepIn K (.ref fF) = true) (bF : Binds K fdF ["table"] []) (gF : mg "fewest_of" = some (.ref fF))
    (GO : FnOk P w K mg base CX0 4 fO fdO ["table", "differences", "other"] spOneOf) (kO : PySem.W.keepIn K (.ref fO) = true) (bO : Binds K fdO ["table", "differences", "other"] []) (gO : mg "one_of" = some (.ref fO)) :
    FnOk P w K mg base CX0 5 f fd ["table", "others"] spPartner := by
  refine F.ok scPartner (fun vs H Q E h => ?_) (fun cdv A outer s H vs Q E hr h => ?_)
  · obtain ⟨t, L, R, Os, zs, rfl, _⟩ := h
    rfl
  · obtain ⟨t, L, R, Os, zs, rfl, hT, ⟨os, o1, o2, o3⟩, few, q0, q1⟩ := h
    have nd := scPartner.nd
    have r3 := hr.mono (show 3 ≤ 4 by decide)
    refine ⟨_, pss_cons (ps_set (i := 2) nd rfl (.inl rfl) (pe_call GF r3 (by rfl) gF kF bF .nil pass0 (pa_cons (pv 0) pa_nil)))
      (pss_cons (ps_for PassesOwn.never rfl (pi_enum (by rfl) T.enum (pa_cons (pv 1) pa_nil)) (pg_tup rfl (pgs_cons (pg_name (i := 3) nd rfl (.inl rfl)) (pgs_cons (pg_name (i := 4) nd rfl (.inl rfl)) pgs_nil)))
        (pss_cons (ps_set (i := 5) nd rfl (.inl rfl) (pe_call GO hr (by rfl) gO kO bO .nil pass0 (pa_cons (pv 0) (pa_cons (pv 2) (pa_cons (pv 4) pa_nil)))))
        (pss_one (ps_if (pt_cmpR op_notN (pv 5) pe_non (nomark _)) (pss_one (ps_ret (pe_tup (pa_cons (pv 3) (pa_cons (pv 5) pa_nil))))) pss_nil))))
      (pss_one (ps_ret (pe_tup (pa_cons pe_non (pa_cons pe_non pa_nil)))))), ?_⟩
    have sz2 : 2 ≤ sizeLine := by decide
    refine ⟨.ref t, rfl, t, R, zs, rfl, hT, few, fun H1 p Fs s1 np hF sameF rin lenF _ => ?_⟩
    refine ⟨.ref L, rfl, L, _, rfl, SqL.of (s1 _ _ o1), for_it walk_enum (fun i σ H' => ∃ (y3 y4 y5 : Option V), σ = [some (.ref t), some (.ref L), some (.ref p), y3, y4, y5] ∧ Same H1 H')
      ⟨none, none, none, rfl, Same.refl _⟩ (fun i σ H' _ ⟨_, _, _, _, sm⟩ => SqL.of (sm _ _ (s1 _ _ o1))) ?_ ?_⟩
    · rintro i x σ H2 H3 hi ⟨y3, y4, y5, rfl, s2⟩ ⟨tp, x1, x2, rfl, ntp, rfl, e1, e2⟩
      obtain ⟨a, rfl, ha, hai⟩ := pick_ref e2
      cases e1
      obtain ⟨O, hO⟩ : ∃ O, Os[i]? = some O := ⟨_, List.getElem?_eq_getElem (by omega)⟩
      have sT := same_upd (o := HO.tup [V.int (i : Nat), V.ref a]) ntp
      have s3 := (s1.trans s2).trans sT
      refine ⟨tp, _, rfl, SqT.of upd_same, rfl, _, _, rfl, _, _, rfl, rfl, ?_⟩
      refine ⟨.ref t, rfl, .ref p, rfl, .ref a, rfl, t, p, a, R, Fs, O, zs, rfl, hT.same s3, (hF.sameT s2).sameT sT, sameF, rin, (o3 i a O ha hO).same s3, few, fun H4 x4 s4 hx => ?_⟩
      rcases hx with rfl | ⟨d, U, rfl, hU, hus, hul⟩
      · exact ⟨.non, rfl, rfl, _, rfl, iteF ⟨_, _, _, rfl, (s2.trans sT).trans s4⟩⟩
      · refine ⟨.ref d, rfl, rfl, _, rfl, iteT ⟨_, rfl, _, rfl, sz2, fun tq ntq => ?_⟩⟩
        have sQ := same_upd (o := HO.tup [V.int (i : Nat), V.ref d]) ntq
        exact q1 _ tq d i O U ((s3.trans s4).trans sQ) hO upd_same (hU.same sQ) hus hul
    · rintro σ H2 ⟨y3, y4, y5, rfl, s2⟩
      exact ⟨sz2, fun tq ntq => q0 _ tq ((s1.trans s2).trans (same_upd ntq)) upd_same⟩
end
end Lo
namespace Lo
open PySem L2
theorem seqIx_nat {i n : Nat} (h : i < n) : PySem.seqIndex? ((i : Nat) : Int) n = some i := by
  unfold PySem.seqIndex?
  simp
  omega
theorem Tabs.popped {H : Hp} {L : Addr} {Ws : List (List SRow)} {zs : List Str} (h : Tabs H L Ws zs) (ne : Ws ≠ []) :
    ∃ (ws : List Addr) (t : Addr) (Ws' : List (List SRow)) (R : List SRow), Ws = Ws' ++ [R] ∧ H L = some (.lst (ws.map V.ref ++ [.ref t])) ∧ ws.length = Ws'.length ∧ TabR H t R zs ∧ Tabs (upd H L (.lst (ws.map V.ref))) L Ws' zs := by
  obtain ⟨ts, h1, h2, h3⟩ := h
  have e1 : Ws = Ws.dropLast ++ [Ws.getLast ne] := (List.dropLast_concat_getLast ne).symm
  have ne2 : ts ≠ [] := fun z => ne (List.length_eq_zero_iff.mp (by rw [← h2, z]; rfl))
  have e2 : ts = ts.dropLast ++ [ts.getLast ne2] := (List.dropLast_concat_getLast ne2).symm
  generalize Ws.dropLast = Ws' at e1
  generalize Ws.getLast ne = R at e1
  generalize ts.dropLast = ws at e2
  generalize ts.getLast ne2 = t at e2
  subst e1 e2
  have hl : ws.length = Ws'.length := by
    rw [List.length_append, List.length_append] at h2
    have h2 : ws.length + 1 = Ws'.length + 1 := h2
    omega
  refine ⟨ws, t, Ws', R, rfl, by rw [h1, List.map_append]; rfl, hl, h3 ws.length t R (by rw [List.getElem?_append_right (Nat.le_refl _), Nat.sub_self]; rfl) (by rw [hl, List.getElem?_append_right (Nat.le_refl _), Nat.sub_self]; rfl), ws, upd_same, hl, fun i t' R' a b => ?_⟩
  have hi := (List.getElem?_eq_some_iff.mp a).1
  exact (h3 i t' R' (by rw [List.getElem?_append_left hi]; exact a) (by rw [List.getElem?_append_left (by omega)]; exact b)).past h1
theorem Tabs.erased {H : Hp} {L : Addr} {Fs : List (List SRow)} {O : List SRow} {zs : List Str} {i : Nat} (h : Tabs H L Fs zs) (hi : Fs[i]? = some O) :
    ∃ (fs : List Addr) (a : Addr), H L = some (.lst (fs.map V.ref)) ∧ fs.length = Fs.length ∧ fs[i]? = some a ∧ Tabs (upd H L (.lst ((fs.map V.ref).eraseIdx i))) L (Fs.eraseIdx i) zs := by
  obtain ⟨fs, h1, h2, h3⟩ := h
  have hlt : i < fs.length := by
    rw [h2]
    exact (List.getElem?_eq_some_iff.mp hi).1
  refine ⟨fs, fs[i], h1, h2, List.getElem?_eq_getElem hlt, fs.eraseIdx i, ?_, ?_, fun j t R a b => ?_⟩
  · rw [upd_same, List.eraseIdx_eq_take_drop_succ, List.eraseIdx_eq_take_drop_succ, List.map_append, List.map_take, List.map_drop]
  · rw [List.length_eraseIdx, List.length_eraseIdx, h2]
  · rw [List.getElem?_eraseIdx] at a b
    by_cases k : j < i
    · rw [if_pos k] at a b
      exact (h3 j t R a b).past h1
    · rw [if_neg k] at a b
      exact (h3 (j + 1) t R a b).past h1
theorem us_erase {Fs : List (List SRow)} {O : List SRow} {i : Nat} (hi : Fs[i]? = some O) {u : Str → Int} : US Fs u ↔ US (Fs.eraseIdx i) u ∨ Sat O u := by
  have hlt := (List.getElem?_eq_some_iff.mp hi).1
  have e : Fs = Fs.take i ++ O :: Fs.drop (i + 1) := by
    have := (List.getElem?_eq_some_iff.mp hi).2
    rw [← this, ← List.drop_eq_getElem_cons hlt, List.take_append_drop]
  rw [List.eraseIdx_eq_take_drop_succ]
  conv => lhs; rw [e]
  rw [us_app, us_app]
  constructor
  · rintro (h | ⟨X, hX, h⟩)
    · exact .inl (.inl h)
    · rcases List.mem_cons.mp hX with m | m
      · exact .inr (m ▸ h)
      · exact .inl (.inr ⟨X, m, h⟩)
  · rintro ((h | ⟨X, m, h⟩) | h)
    · exact .inl h
    · exact .inr ⟨X, List.mem_cons_of_mem _ m, h⟩
    · exact .inr ⟨O, List.mem_cons_self, h⟩
/-- the length of a list that stands -/
def lenAt (H : Hp) (a : Addr) : Nat := match H a with
  | some (.lst xs) => xs.length
  | _ => 0
theorem lenAt_of {H : Hp} {a : Addr} {xs : List V} (h : H a = some (.lst xs)) : lenAt H a = xs.length := by
  unfold lenAt
  rw [h]
theorem Tabs.lenAt {H : Hp} {L : Addr} {Rs : List (List SRow)} {zs : List Str} (h : Tabs H L Rs zs) : lenAt H L = Rs.length := by
  obtain ⟨ts, a, b, _⟩ := h
  rw [lenAt_of a, List.length_map, b]
section
variable {P : Program} {w : World} {K : PySem.W.Frag} {mg : Str → Option Value} {base : Heap}
/-! ### united -/
abbrev nUnited : List Str := ["tables", "found", "waiting", "table", "at", "both"]
theorem scUnited : FnScope nUnited ["tables"] (defScope sUnited) := ⟨rfl, rfl, rfl, by decide +kernel, rfl, by decide +kernel, by decide +kernel⟩
def spUnited : Sp := fun vs H Q _ => ∃ (tl : Addr) (Rs : List (List SRow)) (zs : List Str), vs = [.ref tl] ∧ Tabs H tl Rs zs ∧ zs.length ≤ 20 ∧ Rs.length < sizeLine ∧ ∀ (H' : Hp) (p : Addr) (Rs' : List (List SRow)), Same H H' → Tabs H' p Rs' zs → (∀ u, US Rs' u ↔ US Rs u) → Rs'.length ≤ Rs.length → EntIn Rs Rs' → Q (.ref p) H'
theorem ok_united {f fP : Addr} {fd fdP : FuncData} (F : Fun K "united" "united" sUnited f fd) (T : Blt mg) {tm : Nat} (hmany : mg "MANY" = some (.int 40 tm))
    (GP : FnOk P w K mg base CX0 5 fP fdP ["table", "others"] spPartner) (kP : PySem.W.keepIn K (.ref fP) = true) (bP : Binds K fdP ["table", "others"] []) (gP : mg "_partner" = some (.ref fP)) :
    FnOk P w K mg base CX0 6 f fd ["tables"] spUnited := by
  refine F.ok scUnited (fun vs H Q E h => ?_) (fun cdv A outer s H vs Q E hr h => ?_)
  · obtain ⟨tl, Rs, zs, rfl, _⟩ := h
    rfl
  · obtain ⟨tl, Rs, zs, rfl, hR, few, bound, q⟩ := h
    have nd := scUnited.nd
    refine ⟨_, pss_cons (ps_if (pt_cmpR op_gt (pe_callB call_len_seq (by rfl) T.len PySem.boot_len (pa_cons (pv 0) pa_nil)) (pe_glob (v := .int 40) (by rfl) hmany ⟨_, rfl⟩) (nomark _)) (pss_one (ps_ret (pv 0))) pss_nil)
      (pss_cons (ps_set (i := 1) nd rfl (.inl rfl) (pe_lst pa_nil))
      (pss_cons (ps_set (i := 2) nd rfl (.inl rfl) (pe_callTy call_list_of (by rfl) T.list PyProof.Rows.boot_list (pa_cons (pv 0) pa_nil)))
      (pss_cons (ps_while PassesOwn.never (pt_truth (pv 2) (by intro _; rfl))
        (pss_cons (ps_set (i := 3) nd rfl (.inl rfl) (pe_bm0 PySem.F.plainAttrs_list PySem.F.slot_list_pop PySem.F.type_list_pop mt_pop (pv 2)))
        (pss_cons (ps_asg (pe_call GP hr (by rfl) gP kP bP .nil pass0 (pa_cons (pv 3) (pa_cons (pv 1) pa_nil))) (pg_tup rfl (pgs_cons (pg_name (i := 4) nd rfl (.inl rfl)) (pgs_cons (pg_name (i := 5) nd rfl (.inl rfl)) pgs_nil))))
        (pss_one (ps_if (pt_cmpR op_isN (pv 5) pe_non (nomark _))
          (pss_one (ps_expr (pe_bm PySem.F.plainAttrs_list PySem.F.slot_list_append PySem.F.type_list_append mt_append (pv 1) (pa_cons (pv 3) pa_nil))))
          (pss_cons (ps_expr (pe_bm PySem.F.plainAttrs_list PySem.F.slot_list_pop PySem.F.type_list_pop mt_popAt (pv 1) (pa_cons (pv 4) pa_nil)))
          (pss_one (ps_expr (pe_bm PySem.F.plainAttrs_list PySem.F.slot_list_append PySem.F.type_list_append mt_append (pv 2) (pa_cons (pv 5) pa_nil))))))))))
      (pss_one (ps_ret (pv 1)))))), ?_⟩
    obtain ⟨rs, r1', r2', r3'⟩ := id hR
    refine ⟨.ref tl, rfl, tl, _, rfl, .inl (SqL.of r1'), _, _, rfl, rfl, _, rfl, ite2 (fun c => ?_) (fun c => ?_)⟩
    · exact ⟨.ref tl, rfl, q H tl Rs (Same.refl _) hR (fun u => Iff.rfl) (Nat.le_refl _) (EntIn.refl _)⟩
    refine ⟨Nat.zero_le _, fun fl nfl => ?_⟩
    have sF := same_upd (o := HO.lst []) nfl
    refine ⟨.ref tl, rfl, tl, _, rfl, .inl (SqL.of (sF _ _ r1')), fun wl nwl => ?_⟩
    have sW := same_upd (o := HO.lst (rs.map V.ref)) nwl
    have nwl0 : H wl = none := sF.free nwl
    have fw : fl ≠ wl := ne_of_none (upd_same (H := H) (a := fl) (o := HO.lst [])) nwl
    have s0 := sF.trans sW
    dsimp only [gName]
    unfold tSeq
    show tWhile _ _ _ _ _
    refine while_by (fun σ H' => ∃ (y3 y4 y5 : Option V) (Fs Ws : List (List SRow)), σ = [some (.ref tl), some (.ref fl), some (.ref wl), y3, y4, y5] ∧ Same H H' ∧ Tabs H' fl Fs zs ∧ Tabs H' wl Ws zs ∧ (∀ u, (US Fs u ∨ US Ws u) ↔ US Rs u) ∧ Fs.length + Ws.length ≤ Rs.length ∧ EntIn Rs Fs ∧ EntIn Rs Ws)
      (fun σ H' => 2 * lenAt H' wl + lenAt H' fl)
      ⟨none, none, none, [], Rs, rfl, s0, ⟨[], sW _ _ upd_same, rfl, fun i t R e => nomatch e⟩, ⟨rs, upd_same, r2', fun i t R a b => (r3' i t R a b).same s0⟩, fun u => ⟨fun z => z.elim (fun z => absurd z us_nil) id, .inr⟩, by show 0 + Rs.length ≤ Rs.length; omega, (fun _ h => nomatch h), EntIn.refl _⟩ ?_ (fun σ H Q Q' h ⟨v, e, k, t, q⟩ => ⟨v, e, k, t, h _ _ q⟩)
    rintro σ H1 ⟨y3, y4, y5, Fs, Ws, rfl, s1, hF, hW, us, len, eF, eW⟩
    have lF := hF.lenAt
    have lW := hW.lenAt
    by_cases e : Ws = []
    · subst e
      obtain ⟨ws, w1, w2, _⟩ := id hW
      have ew : ws = [] := List.length_eq_zero_iff.mp w2
      subst ew
      refine ⟨.ref wl, rfl, false, .inl ⟨_, SqL.of w1, rfl⟩, iteF ?_⟩
      exact ⟨.ref fl, rfl, q H1 fl Fs s1 hF (fun u => by rw [← us u]; exact ⟨.inl, fun z => z.elim id fun z => absurd z us_nil⟩) (by have : Fs.length + 0 ≤ Rs.length := len; omega) eF⟩
    · obtain ⟨ws, t, Ws', R, rfl, w1, w2, hT, hW'⟩ := hW.popped e
      have emp : (!(ws.map V.ref ++ [V.ref t]).isEmpty) = true := by cases ws <;> rfl
      refine ⟨.ref wl, rfl, _, .inl ⟨_, SqL.of w1, rfl⟩, ?_⟩
      rw [emp]
      refine iteT ?_
      refine ⟨.ref wl, rfl, .inl ⟨rfl, _, SqL.of w1⟩, wl, _, .ref t, rfl, rfl, w1, by rw [List.length_append, List.length_singleton, Nat.add_sub_cancel, List.getElem?_append_right (Nat.le_refl _), Nat.sub_self]; rfl, ?_⟩
      rw [List.dropLast_concat]
      have hF2 := hF.past (o := .lst (ws.map V.ref)) w1 fw
      have hT2 := hT.past (o := .lst (ws.map V.ref)) w1
      have s2 : Same H (upd H1 wl (.lst (ws.map V.ref))) := s1.later nwl0
      have lenW : (Ws' ++ [R]).length = Ws'.length + 1 := by rw [List.length_append]; rfl
      rw [lenW] at len lW
      have lf2 := hF2.lenAt
      have lw2 := hW'.lenAt
      generalize upd H1 wl (.lst (ws.map V.ref)) = H2 at *
      refine ⟨.ref t, rfl, .ref fl, rfl, t, fl, R, Fs, zs, rfl, hT2, hF2, few, fun H3 p s3 hp => ?_, fun H3 p d i O U s3 hO hp hU hus hul => ?_⟩
      · refine ⟨p, _, rfl, SqT.of hp, rfl, _, _, rfl, _, _, rfl, rfl, ?_⟩
        refine ⟨.non, rfl, rfl, _, rfl, iteT ?_⟩
        obtain ⟨fs, f1, f2, f3⟩ := (hF2.same s3).push (hT2.same s3)
        refine ⟨.ref fl, rfl, .inl ⟨rfl, _, SqL.of f1⟩, .ref t, rfl, fl, _, _, rfl, rfl, f1, by rw [List.length_map, f2]; omega, ?_⟩
        have hW4 := (hW'.same s3).past (o := .lst (fs.map V.ref ++ [.ref t])) f1 fw.symm
        refine ⟨⟨_, _, _, Fs ++ [R], Ws', rfl, (s2.trans s3).later nfl, f3, hW4, fun u => ?_, by rw [List.length_append]; show Fs.length + 1 + Ws'.length ≤ Rs.length; omega, (fun R' h => (List.mem_append.mp h).elim (eF R') fun z => eW R' (List.mem_append_right _ z)), fun R' h => eW R' (List.mem_append_left _ h)⟩, ?_⟩
        · rw [us_snoc, ← us u, us_snoc]
          constructor
          · rintro ((z | z) | z)
            · exact .inl z
            · exact .inr (.inr z)
            · exact .inr (.inl z)
          · rintro (z | z | z)
            · exact .inl (.inl z)
            · exact .inr z
            · exact .inl (.inr z)
        · show 2 * Lo.lenAt _ wl + Lo.lenAt _ fl < 2 * Lo.lenAt H1 wl + Lo.lenAt H1 fl
          rw [hW4.lenAt, f3.lenAt, lF, lW, List.length_append]
          show 2 * Ws'.length + (Fs.length + 1) < _
          omega
      · refine ⟨p, _, rfl, SqT.of hp, rfl, _, _, rfl, _, _, rfl, rfl, ?_⟩
        refine ⟨.ref d, rfl, rfl, _, rfl, iteF ?_⟩
        have hiF := (List.getElem?_eq_some_iff.mp hO).1
        obtain ⟨fs, a, f1, f2, f3, f4⟩ := (hF2.same s3).erased hO
        have szE : sizeLine = 16777216 := by decide
        refine ⟨.ref fl, rfl, .inl ⟨rfl, _, SqL.of f1⟩, .int i, rfl, fl, _, (i : Nat), i, .ref a, rfl, rfl, f1, by omega, by omega, seqIx_nat (by rw [List.length_map, f2]; exact hiF), by rw [List.getElem?_map, f3]; rfl, ?_⟩
        have hW4 := (hW'.same s3).past (o := .lst ((fs.map V.ref).eraseIdx i)) f1 fw.symm
        have hU4 := hU.past (o := .lst ((fs.map V.ref).eraseIdx i)) f1
        have s4 : Same H (upd H3 fl (.lst ((fs.map V.ref).eraseIdx i))) := (s2.trans s3).later nfl
        obtain ⟨ws4, g1, g2, g3⟩ := hW4.push hU4
        refine ⟨.ref wl, rfl, .inl ⟨rfl, _, SqL.of g1⟩, .ref d, rfl, wl, _, _, rfl, rfl, g1, by rw [List.length_map, g2]; omega, ?_⟩
        have hF5 := f4.past (o := .lst (ws4.map V.ref ++ [.ref d])) g1 fw
        have le : (Fs.eraseIdx i).length = Fs.length - 1 := by rw [List.length_eraseIdx, if_pos hiF]
        refine ⟨⟨_, _, _, Fs.eraseIdx i, Ws' ++ [U], rfl, s4.later nwl0, hF5, g3, fun u => ?_, by rw [List.length_append, le]; show Fs.length - 1 + (Ws'.length + 1) ≤ Rs.length; omega, (fun R' h => eF R' (List.mem_of_mem_eraseIdx h)), fun R' h => ?_⟩, ?_⟩
        · rw [us_snoc, hus u, ← us u, us_snoc, us_erase hO]
          constructor
          · rintro (z | z | z | z)
            · exact .inl (.inl z)
            · exact .inr (.inl z)
            · exact .inr (.inr z)
            · exact .inl (.inr z)
          · rintro ((z | z) | z | z)
            · exact .inl z
            · exact .inr (.inr (.inr z))
            · exact .inr (.inl z)
            · exact .inr (.inr (.inl z))
        · rcases List.mem_append.mp h with z | z
          · exact eW R' (List.mem_append_left _ z)
          · rw [List.mem_singleton.mp z]
            intro a b k ne e
            rcases hul a b k ne e with e | e
            · exact eW R (List.mem_append_right _ List.mem_cons_self) a b k ne e
            · exact eF O (List.mem_of_getElem? hO) a b k ne e
        · show 2 * Lo.lenAt _ wl + Lo.lenAt _ fl < 2 * Lo.lenAt H1 wl + Lo.lenAt H1 fl
          rw [g3.lenAt, hF5.lenAt, lF, lW, List.length_append, le]
          show 2 * (Ws'.length + 1) + (Fs.length - 1) < _
          omega
/-! ### simplified, outside -/
theorem scSimplified : FnScope ["tables"] ["tables"] (defScope sSimplified) := ⟨rfl, rfl, rfl, by decide +kernel, rfl, by decide +kernel, by decide +kernel⟩
theorem ok_simplified {f fA fU : Addr} {fd fdA fdU : FuncData} (F : Fun K "simplified" "simplified" sSimplified f fd)
    (GA : FnOk P w K mg base CX0 3 fA fdA ["tables"] spAbsorbed) (kA : PySem.W.keepIn K (.ref fA) = true) (bA : Binds K fdA ["tables"] []) (gA : mg "absorbed" = some (.ref fA))
    (GU : FnOk P w K mg base CX0 6 fU fdU ["tables"] spUnited) (kU : PySem.W.keepIn K (.ref fU) = true) (bU : Binds K fdU ["tables"] []) (gU : mg "united" = some (.ref fU)) :
    FnOk P w K mg base CX0 7 f fd ["tables"] spUnited := by
  refine F.ok scSimplified (fun vs H Q E h => ?_) (fun cdv A outer s H vs Q E hr h => ?_)
  · obtain ⟨tl, Rs, zs, rfl, _⟩ := h
    rfl
  · obtain ⟨tl, Rs, zs, rfl, hR, few, bound, q⟩ := h
    refine ⟨_, pss_one (ps_ret (pe_call GU hr (by rfl) gU kU bU .nil pass0 (pa_cons (pe_call GA (hr.mono (by decide)) (by rfl) gA kA bA .nil pass0 (pa_cons (pv 0) pa_nil)) pa_nil))), ?_⟩
    refine ⟨.ref tl, rfl, tl, Rs, zs, rfl, hR, bound, fun H1 p R1 s1 h1 us1 len1 mem1 => ?_⟩
    refine ⟨p, R1, zs, rfl, h1, few, by omega, fun H2 p2 R2 s2 h2 us2 len2 e2 => ?_⟩
    exact q H2 p2 R2 (s1.trans s2) h2 (fun u => (us2 u).trans (us1 u)) (Nat.le_trans len2 len1) ((EntIn.sub mem1).trans e2)
theorem scOutside : FnScope ["tables"] ["tables"] (defScope sOutside) := ⟨rfl, rfl, rfl, by decide +kernel, rfl, by decide +kernel, by decide +kernel⟩
def spOutside : Sp := fun vs H Q _ => ∃ (tl : Addr) (Rs : List (List SRow)) (zs : List Str), vs = [.ref tl] ∧ Tabs H tl Rs zs ∧ zs.length ≤ 20 ∧ 1 ≤ zs.length ∧ Rs.length < sizeLine ∧ (zs.length * zs.length) ^ Rs.length < sizeLine ∧
  ∀ (H' : Hp) (p : Addr) (Rs' : List (List SRow)), Same H H' → Tabs H' p Rs' zs → (∀ u, US Rs' u ↔ ¬ US Rs u) → Rs'.length ≤ (zs.length * zs.length) ^ Rs.length → Q (.ref p) H'
theorem tabR_empty {H : Hp} {d : Addr} {zs : List Str} (h : H d = some (.dK [])) : TabR H d [] zs :=
  ⟨[], fun _ => d, fun _ => [], fun _ _ => 0, ⟨h, List.nodup_nil, fun x hx => absurd hx List.not_mem_nil, fun x hx => absurd hx List.not_mem_nil, fun x hx => absurd hx List.not_mem_nil⟩, fun x hx => absurd hx List.not_mem_nil, ⟨fun _ => 0, fun r hr => absurd hr List.not_mem_nil⟩, fun x ⟨r, hr, _⟩ => absurd hr List.not_mem_nil, fun x hx => absurd hx List.not_mem_nil⟩
theorem ok_outside {f fA fU fS : Addr} {fd fdA fdU fdS : FuncData} (F : Fun K "outside" "outside" sOutside f fd)
    (GA : FnOk P w K mg base CX0 3 fA fdA ["tables"] spAbsorbed) (kA : PySem.W.keepIn K (.ref fA) = true) (bA : Binds K fdA ["tables"] []) (gA : mg "absorbed" = some (.ref fA))
    (GS : FnOk P w K mg base CX0 5 fS fdS ["tables", "others"] spSubtracted) (kS : PySem.W.keepIn K (.ref fS) = true) (bS : Binds K fdS ["tables", "others"] []) (gS : mg "subtracted" = some (.ref fS))
    (GU : FnOk P w K mg base CX0 6 fU fdU ["tables"] spUnited) (kU : PySem.W.keepIn K (.ref fU) = true) (bU : Binds K fdU ["tables"] []) (gU : mg "united" = some (.ref fU)) :
    FnOk P w K mg base CX0 7 f fd ["tables"] spOutside := by
  refine F.ok scOutside (fun vs H Q E h => ?_) (fun cdv A outer s H vs Q E hr h => ?_)
  · obtain ⟨tl, Rs, zs, rfl, _⟩ := h
    rfl
  · obtain ⟨tl, Rs, zs, rfl, hR, few, pos, bR, bound, q⟩ := h
    refine ⟨_, pss_one (ps_ret (pe_call GU hr (by rfl) gU kU bU .nil pass0 (pa_cons (pe_call GS (hr.mono (by decide)) (by rfl) gS kS bS .nil pass0 (pa_cons (pe_lst (pa_cons pe_dnewK pa_nil)) (pa_cons (pe_call GA (hr.mono (by decide)) (by rfl) gA kA bA .nil pass0 (pa_cons (pv 0) pa_nil)) pa_nil))) pa_nil))), ?_⟩
    have B1 : 1 ≤ zs.length * zs.length := Nat.mul_pos pos pos
    refine fun d nd' => ⟨(by show 1 ≤ sizeLine; decide), fun l nl => ?_⟩
    have sd := same_upd (o := HO.dK []) nd'
    have sl := same_upd (o := HO.lst [V.ref d]) nl
    have s0 := sd.trans sl
    have hE : Tabs (upd (upd H d (.dK [])) l (.lst [V.ref d])) l [[]] zs := ⟨[d], upd_same, rfl, fun i t R a b => by
      match i, a, b with
      | 0, a, b =>
        cases a
        cases b
        exact (tabR_empty upd_same).same sl
      | i + 1, a, b => cases a⟩
    refine ⟨.ref tl, rfl, tl, Rs, zs, rfl, hR.same s0, bR, fun H1 p R1 s1 h1 us1 len1 _ => ?_⟩
    have pw : (zs.length * zs.length) ^ R1.length ≤ (zs.length * zs.length) ^ Rs.length := Nat.pow_le_pow_right B1 len1
    refine ⟨l, p, [[]], R1, zs, rfl, hE.same s1, h1, few, pos, by omega, by show 1 * _ < _; omega, fun H2 p2 R2 s2 h2 us2 len2 => ?_⟩
    have len2' : R2.length ≤ (zs.length * zs.length) ^ Rs.length := by
      have : R2.length ≤ 1 * (zs.length * zs.length) ^ R1.length := len2
      omega
    refine ⟨p2, R2, zs, rfl, h2, few, by omega, fun H3 p3 R3 s3 h3 us3 len3 _ => ?_⟩
    refine q H3 p3 R3 (((s0.trans s1).trans s2).trans s3) h3 (fun u => ?_) (by omega)
    rw [us3 u, us2 u, us1 u]
    exact ⟨fun z => z.2, fun z => ⟨⟨[], List.mem_singleton.mpr rfl, fun r hr => absurd hr List.not_mem_nil⟩, z⟩⟩
end
end Lo
namespace Lo
open PySem L2
section
variable {P : Program} {w : World} {K : PySem.W.Frag} {mg : Str → Option Value} {base : Heap}
/-- outside, with the entries told -/
def spOutside2 : Sp := fun vs H Q _ => ∃ (tl : Addr) (Rs : List (List SRow)) (zs : List Str) (E : List SRow) (d : Nat) (ds : List (Addr × HO)), vs = [.ref tl] ∧ LockOk ds H ∧ Dks ds ∧ Tabs H tl Rs zs ∧ zs.length ≤ 20 ∧ 1 ≤ zs.length ∧ Rs.length < sizeLine ∧
  (∀ O ∈ Rs, ∀ q : SRow, q.1 ≠ q.2.1 → q.1 ∈ zs → q.2.1 ∈ zs → D O q.1 q.2.1 = some q.2.2 → q ∈ E) ∧ (∀ e ∈ E, e.1 ∈ zs ∧ e.2.1 ∈ zs) ∧ zs.length ≤ d + 1 ∧ phi E.length d < sizeLine ∧
  ∀ (H' : Hp) (p : Addr) (Rs' Ms Os : List (List SRow)) (G : List SRow), Same H H' → Tabs H' p Rs' zs → (∀ u, US Rs' u ↔ ¬ US Rs u) → Rs'.length ≤ phi E.length d → (∀ O ∈ Os, O ∈ Rs) → Os.length ≤ Rs.length → LitsOf zs Os G → (∀ R' ∈ Ms, ∀ q ∈ R', q ∈ G ∨ ∃ g ∈ G, q = cutRow g) → (∀ R' ∈ Ms, ∃ v, Sat R' v) → EntIn Ms Rs' → AvL (inD ds) H' p → Q (.ref p) H'
theorem ok_outside2 {f fA fU fS : Addr} {fd fdA fdU fdS : FuncData} (F : Fun K "outside" "outside" sOutside f fd)
    (GA : FnOk P w K mg base CX0 3 fA fdA ["tables"] spAbsorbed) (kA : PySem.W.keepIn K (.ref fA) = true) (bA : Binds K fdA ["tables"] []) (gA : mg "absorbed" = some (.ref fA))
    (GS : FnOk P w K mg base CX0 5 fS fdS ["tables", "others"] spSub2) (kS : PySem.W.keepIn K (.ref fS) = true) (bS : Binds K fdS ["tables", "others"] []) (gS : mg "subtracted" = some (.ref fS))
    (GU : FnOk P w K mg base CX0 6 fU fdU ["tables"] spUnited) (kU : PySem.W.keepIn K (.ref fU) = true) (bU : Binds K fdU ["tables"] []) (gU : mg "united" = some (.ref fU)) :
    FnOk P w K mg base CX0 7 f fd ["tables"] spOutside2 := by
  refine F.ok scOutside (fun vs H Q E h => ?_) (fun cdv A outer s H vs Q E hr h => ?_)
  · obtain ⟨tl, Rs, zs, E0, d0, ds, rfl, _⟩ := h
    rfl
  · obtain ⟨tl, Rs, zs, E0, d0, ds, rfl, lk, dk, hR, few, pos, bR, entE, inE, dim, bound, q⟩ := h
    refine ⟨_, pss_one (ps_ret (pe_callL2 GU hr (by rfl) gU kU bU .nil pass0 (pa_cons (pe_call GS (hr.mono (by decide)) (by rfl) gS kS bS .nil pass0 (pa_cons (pe_lst (pa_cons pe_dnewK pa_nil)) (pa_cons (pe_call GA (hr.mono (by decide)) (by rfl) gA kA bA .nil pass0 (pa_cons (pv 0) pa_nil)) pa_nil))) pa_nil))), ?_⟩
    refine fun d nd' => ⟨(by show 1 ≤ sizeLine; decide), fun l nl => ?_⟩
    have sd := same_upd (o := HO.dK []) nd'
    have sl := same_upd (o := HO.lst [V.ref d]) nl
    have s0 := sd.trans sl
    have hE : Tabs (upd (upd H d (.dK [])) l (.lst [V.ref d])) l [[]] zs := ⟨[d], upd_same, rfl, fun i t R a b => by
      match i, a, b with
      | 0, a, b =>
        cases a
        cases b
        exact (tabR_empty upd_same).same sl
      | i + 1, a, b => cases a⟩
    have avE : AvL (inD ds) (upd (upd H d (.dK [])) l (.lst [V.ref d])) l := fun ts e t ht => by
      rw [upd_same] at e
      have e := Option.some.inj e
      injection e with e
      have e : [d] = ts := refs_inj e
      subst e
      rw [List.mem_singleton.mp ht]
      intro a ha hin
      obtain ⟨u, hu⟩ := inD_at hin
      have hd := lk.at_ _ hu
      rcases ha with e | ⟨kvs, k, e, m⟩
      · rw [e] at hd
        rw [nd'] at hd
        cases hd
      · rw [sl _ _ (upd_same (H := H) (a := d) (o := HO.dK []))] at e
        have e := Option.some.inj e
        injection e with e
        rw [← e] at m
        exact nomatch m
    refine ⟨.ref tl, rfl, tl, Rs, zs, rfl, hR.same s0, bR, fun H1 p R1 s1 h1 us1 len1 mem1 => ?_⟩
    refine ⟨l, p, [[]], R1, zs, E0, d0, ds, rfl, lk.same (s0.trans s1), dk, avE.same s1 hE, hE.same s1, h1, few, pos, by omega, (fun O hO => entE O (mem1 O hO)), inE, dim, bound, List.pairwise_singleton _ _, fun H2 p2 R2 G s2 h2 us2 len2 lits rows av2 => ?_⟩
    have lk2 := lk.same ((s0.trans s1).trans s2)
    refine ⟨ds, lk2, fun HL hl => ⟨p2, R2, zs, rfl, lock_tabs lk2 dk hl h2 av2, few, by omega, fun H3' p3 R3 s3' h3' us3 len3 ent3 => ⟨lock_keeps hl s3', fun H3 hul => ?_⟩⟩⟩
    have s3 := lock_same lk2 hl s3' hul
    obtain ⟨h3, av3⟩ := unlock_tabs hl s3' hul h3'
    refine q H3 p3 R3 R2 R1 G (((s0.trans s1).trans s2).trans s3) h3 (fun u => ?_) (Nat.le_trans len3 len2) mem1 len1 lits (fun R' hR' q' hq' => ?_) h2.each ent3 av3
    · rw [us3 u, us2 u, us1 u]
      exact ⟨fun z => z.2, fun z => ⟨⟨[], List.mem_singleton.mpr rfl, fun r hr => absurd hr List.not_mem_nil⟩, z⟩⟩
    · rcases rows R' hR' q' hq' with ⟨R, hR0, m⟩ | z
      · rw [List.mem_singleton.mp hR0] at m
        exact nomatch m
      · exact z
end
end Lo
/-! own classes: one - other and its like, ~one, bool(one) -/
namespace Lo
open PySem PySem.Spec L2 PyProof.Rows
section
variable {prog : Program} {w : World} {A : Around} {Er : Value → Shared → Prop} {s : Shared} {K : PySem.W.Frag} {x C f : Addr} {ox : Obj} {od : Option Obj}
theorem bool_own {Qv : Value → Shared → Prop} (X : K.In s.heap) (I : PySem.W.InstAt s.heap x ox C od) (hs : PySem.W.findIn K (.ref C) "__bool__" = some (some (.ref f))) (hf : PySem.W.isFn K (.ref f) = true)
    (h : wpAny (model prog w) A.in1.in1 (call (.ref f) [.ref x]) (fun r t => ∃ b : Bool, r = Value.bool b ∧ Qv r t) Er s) : wpAny (model prog w) A (call (.type "bool") [.ref x]) Qv Er s := by
  refine callType_codes (T := "bool") (Bi := Builtin.«object.__init__») (Q₁ := fun r t => ∃ b : Bool, r = Value.bool b ∧ Qv r t) PySem.F.called_bool (PySem.F.typeCall_bool_1 _) PySem.F.entry_object_init ?_ ?_
  · refine codeAny_of_tree ?_
    show wpAny _ A.in1.in1 (do checkBuiltinCall "bool.__new__" ⟨[.type "bool", .ref x], []⟩; again (.builtin "bool.__new__" ⟨[.type "bool", .ref x], []⟩)) _ _ s
    refine wpAny_bind (wpAny_of_eq (PySem.F.newCall_bool_1 _) (wpAny_pure ⟨plainId_quiet (by decide +kernel) _, codeAny_builtin PySem.F.entry_bool_new ?_⟩))
    rw [Around.under_plainId (by decide +kernel) _]
    unfold Builtin.«bool.__new__»
    have isT : isType (.type "bool") = pure true := by first | rfl | kernel_rfl | (unfold isType; rw [isSubtype_type]; kernel_rfl)
    have one : someArgs "bool" 0 1 { pos := [Value.ref x] } = pure [Value.ref x] := by first | rfl | kernel_rfl
    refine wpAny_bind (wpAny_of_eq (a := true) isT ?_)
    refine PySem.W.KFB.if_not rfl ?_
    refine wpAny_bind (wpAny_of_eq (a := true) PySem.F.conv_sub_bool ?_)
    refine PySem.W.KFB.if_not rfl ?_
    refine wpAny_bind (wpAny_of_eq (a := [Value.ref x]) one ?_)
    refine wpAny_bind (m := truthy (.ref x)) ?_
    unfold truthy
    refine wpAny_bind (m := callSpecial? (.ref x) "__bool__") (PySem.W.special_fn X I hs (beq_iff_eq.mp hf) (wpAny_mono h (fun r t ht => ?_) fun _ _ y => y))
    obtain ⟨b, rfl, hq⟩ := ht
    exact wpAny_pure (wpAny_pure ⟨b, rfl, hq⟩)
  · rintro obj t ⟨b, rfl, hq⟩
    exact ⟨rfl, PySem.F.args_object_init_2 _ _, object_init_meets PySem.F.called_bool.init.lookup PySem.F.called_bool.made (by decide) prog w A.in1 _ t ⟨rfl, rfl, hq⟩⟩
end
section
variable {X : Cx} {CX : CXT} {k n : Nat} {f g C : Addr} {fd : FuncData} {ps : List Str} {sp : Sp} {E : XK}
/-- bool(x), x an instance of the class at C -/
def rBoolO (C : Addr) (sp : Sp) (E : XK) : List V → Hp → VK → Prop := fun xs H Q => ∃ a dx fs, xs = [V.ref a] ∧ H a = some (.ins C dx fs) ∧ sp [.ref a] H (fun z H' => ∃ b : Bool, z = .bl b ∧ Q z H') E
theorem call_boolO (hs : PySem.W.findIn X.K (.ref C) "__bool__" = some (some (.ref g))) (hf : PySem.W.isFn X.K (.ref g) = true) (F : FnR X.prog X.w X.K X.mg X.base CX n g sp) (hr : Room (n + 2) X.A) (hx : Passes CX X E) : CallR X (.type "bool") (rBoolO C sp E) := by
  rintro pins s σ H xs us Q I r ⟨a, dx, fs, rfl, ha, q⟩
  cases r with
  | cons ru rest =>
    cases rest
    cases ru
    obtain ⟨mA, O, _⟩ := ins_get I.hok ha
    obtain ⟨od, J, _⟩ := O.look
    have room := (show Room (n + 1) X.A.in1 from Room.in1 hr).in1
    refine bool_own I.kIn J hs hf (wpAny_mono (wpAny_call (SlX.run_at (us := [.ref a]) (ws := [.ref a]) F room I.env0.in1.in1 hx I (.cons rfl .nil) q)) (fun v t ht => ?_) fun _ _ z => z)
    obtain ⟨z, H', J', rz, b, rfl, qz⟩ := ht
    cases (show v = Value.bool b from rz)
    exact ⟨b, rfl, .bl b, H', J', rfl, qz⟩
/-- x op y, two instances of the class at C -/
def rBinO (C : Addr) (sp : Sp) (E : XK) : R2 := fun x y H Q => ∃ a dx fs b dy gs, x = .ref a ∧ y = .ref b ∧ H a = some (.ins C dx fs) ∧ H b = some (.ins C dy gs) ∧ sp [.ref a, .ref b] H (fun z H' => ∃ c, z = .ref c ∧ Q z H') E
theorem op_binO {op : Operator} (hc : PySem.W.selfFirst X.K C = true) (hs : PySem.W.findIn X.K (.ref C) (PySem.dunder op.info.2) = some (some (.ref g))) (hf : PySem.W.isFn X.K (.ref g) = true) (F : FnR X.prog X.w X.K X.mg X.base CX n g sp) (hr : Room n X.A) (hx : Passes CX X E) :
    OpR X (binaryOp op) (rBinO C sp E) := by
  rintro pins s σ H x y v u Q I rx ry ⟨a, dx, fs, b, dy, gs, rfl, rfl, ha, hb, q⟩
  cases rx
  cases ry
  obtain ⟨_, O, _⟩ := ins_get I.hok ha
  obtain ⟨_, J, _⟩ := O.look
  obtain ⟨_, O2, _⟩ := ins_get I.hok hb
  obtain ⟨_, J2, _⟩ := O2.look
  obtain ⟨m, fr⟩ := I.fr
  refine PySem.W.binop_K fr I.ok.mod.kin J J2.type hc hs hf (wpAny_mono (wpAny_call (SlX.run_at (us := [.ref a, .ref b]) (ws := [.ref a, .ref b]) F hr I.env0 hx I (.cons rfl (.cons rfl .nil)) q)) (fun v t ht => ?_) fun _ _ z => z)
  obtain ⟨z, H', J', rz, c, rfl, qz⟩ := ht
  cases (show v = Value.ref c from rz)
  exact ⟨.ref c, H', J', rfl, qz⟩
/-- ~x, an instance of the class at C -/
def rInvO (C : Addr) (sp : Sp) (E : XK) : V → Hp → VK → Prop := fun x H Q => ∃ a dx fs, x = .ref a ∧ H a = some (.ins C dx fs) ∧ sp [.ref a] H Q E
theorem un_invO (hs : PySem.W.findIn X.K (.ref C) "__invert__" = some (some (.ref g))) (hf : PySem.W.isFn X.K (.ref g) = true) (F : FnR X.prog X.w X.K X.mg X.base CX n g sp) (hr : Room n X.A) (hx : Passes CX X E) : UnR X (unaryOp .Invert) (rInvO C sp E) := by
  rintro pins s σ H x v Q I rx ⟨a, dx, fs, rfl, ha, q⟩
  cases rx
  obtain ⟨_, O, _⟩ := ins_get I.hok ha
  obtain ⟨_, J, _⟩ := O.look
  obtain ⟨m, fr⟩ := I.fr
  exact PySem.W.ksp_inv fr I.ok.mod.kin J hs hf (wpAny_call (SlX.run_at (us := [.ref a]) (ws := [.ref a]) F hr I.env0 hx I (.cons rfl .nil) q))
/-- x in y, y an instance of the class at C -/
def rInO (C : Addr) (sp : Sp) (E : XK) : R2 := fun x y H Q => ∃ a dx fs, y = .ref a ∧ H a = some (.ins C dx fs) ∧ sp [y, x] H (fun v H' => ∃ b, v = .bl b ∧ Q (.bl b) H') E
theorem op_inO (hs : PySem.W.findIn X.K (.ref C) "__contains__" = some (some (.ref f))) (hf : PySem.W.isFn X.K (.ref f) = true) (F : FnOk X.prog X.w X.K X.mg X.base CX k f fd ps sp) (hr : Room k X.A) (hb : Binds X.K fd ps []) (hx : Passes CX X E) :
    OpR X (compareOp .In) (rInO C sp E) := by
  rintro pins s σ H x y v u Q I rx ry ⟨a, dx, fs, rfl, ha, q⟩
  cases ry
  obtain ⟨mA, O, _⟩ := ins_get I.hok ha
  obtain ⟨od, J, _⟩ := O.look
  show wpAny _ _ (do let b ← contains (.ref a) v; pure (Value.bool b)) _ _ s
  refine wpAny_bind (contains_own I.kIn J hs hf ?_)
  refine wpAny_mono (run_fn (us := [.ref a, v]) (vs := [.ref a, x]) F hr hb .nil hx I (.cons rfl (.cons rx .nil)) (by rw [List.append_nil]; exact q)) (fun w s' hw => ?_) fun _ _ z => z
  obtain ⟨z, H', J', rz, b, ez, qz⟩ := hw
  subst ez
  cases (show w = Value.bool b from rz)
  exact wpAny_pure (wpAny_pure ⟨.bl b, H', J', rfl, qz⟩)
end
end Lo
namespace Lo
open PySem L2
abbrev sSomePoint : Stmt := top 20
abbrev sCheckAlike : Stmt := top 47
abbrev sRNames : Stmt := inClass sRegion 3
abbrev sRPieces : Stmt := inClass sRegion 4
abbrev sRBool : Stmt := inClass sRegion 10
abbrev sRWithin : Stmt := inClass sRegion 11
abbrev sRSame : Stmt := inClass sRegion 12
abbrev sRPoint : Stmt := inClass sRegion 18
theorem pickS {xs : List Str} {i : Nat} {z : V} (hi : (xs.map V.str)[i]? = some z) : ∃ (h : i < xs.length), z = .str xs[i] ∧ xs.take (i + 1) = xs.take i ++ [xs[i]] ∧ xs[i] ∈ xs := by
  have hi1 : i < xs.length := by
    have := (List.getElem?_eq_some_iff.mp hi).1
    rw [List.length_map] at this
    exact this
  refine ⟨hi1, ?_, by rw [List.take_add_one, List.getElem?_eq_getElem hi1]; rfl, List.getElem_mem hi1⟩
  rw [List.getElem?_map, List.getElem?_eq_getElem hi1] at hi
  exact (Option.some.inj hi).symm
theorem RegAt.obj {C : Addr} {H : Hp} {p np tl : Addr} {ns : List Str} {Rs : List (List SRow)} {zs : List Str} (h : RegAt C H p np tl ns Rs zs) : ∃ dx, H p = some (.ins C dx (rflds np tl)) := h.ob
section
variable {P : Program} {w : World} {K : PySem.W.Frag} {mg : Str → Option Value} {base : Heap}
/-! ### some_point -/
abbrev nSomePoint : List Str := ["table", "names", "values", "base", "name", "row"]
theorem scSomePoint : FnScope nSomePoint ["table", "names"] (defScope sSomePoint) := ⟨rfl, rfl, rfl, by decide +kernel, rfl, by decide +kernel, by decide +kernel⟩
def spSomePoint : Sp := fun vs H Q _ => ∃ (t np : Addr) (R : List SRow) (zs ns : List Str), vs = [.ref t, .ref np] ∧ TabR H t R zs ∧ zs.length ≤ 20 ∧ H np = some (.tup (ns.map V.str)) ∧ ns.Nodup ∧ ns.length ≤ 100 ∧
  ∀ (H' : Hp) (d : Addr) (u : Str → Int), Same H H' → H d = none → H' d = some (.dK (dS ns fun x => .int (u x))) → Sat R u → u "0" = 0 → Q (.ref d) H'
theorem ok_somepoint {f : Addr} {fd : FuncData} (F : Fun K "some_point" "some_point" sSomePoint f fd) (hmin : mg "min" = none) : FnOk P w K mg base CX0 1 f fd ["table", "names"] spSomePoint := by
  refine F.ok scSomePoint (fun vs H Q E h => ?_) (fun cdv A outer s H vs Q E hr h => ?_)
  · obtain ⟨t, np, R, zs, ns, rfl, _⟩ := h
    rfl
  · obtain ⟨t, np, R, zs, ns, rfl, hT, few, hN, nodup, fewN, q⟩ := h
    have nd := scSomePoint.nd
    have hu := hu_of hr
    refine ⟨_, pss_cons (ps_set (i := 2) nd rfl (.inr rfl) (pe_lock (pe_dc (own := [("name", 4), ("row", 5)]) (g := gTup K 2 (gCons (gName 4) (gCons (gName 5) gNil))) (tt := tYes) rfl nd (pi_items (pv 0)) (blkOk_by (N := nSomePoint) (sc := defScope sSomePoint) (by decide +kernel))
        (fun _ _ _ _ _ => pg_tup rfl (pgs_cons (pg_name (i := 4) nd rfl (.inl rfl)) (pgs_cons (pg_name (i := 5) nd rfl (.inl rfl)) pgs_nil))) (fun _ _ _ _ _ => pts_nil) (fun _ _ _ _ _ => pv 4)
        (fun _ _ _ _ _ => pe_minVals rfl (by rfl) hmin (pv 5)))))
      (pss_cons (ps_set (i := 3) nd rfl (.inr rfl) (pe_dget2 hu (pv 2) pe_str pe_int ⟨rfl, rfl, rfl, rfl⟩))
      (pss_one (ps_ret (pe_dc (own := [("name", 4)]) (g := gName 4) (tt := tYes) rfl nd (pi_tup (pv 1)) (blkOk_by (N := nSomePoint) (sc := defScope sSomePoint) (by decide +kernel))
        (fun _ _ _ _ _ => pg_name (i := 4) nd rfl (.inl rfl)) (fun _ _ _ _ _ => pts_nil) (fun _ _ _ _ _ => pv 4)
        (fun _ _ _ _ _ => pe_op op_sub (pe_dget2 hu (pv 2) (pv 4) (pv 3) ⟨rfl, rfl, rfl, rfl⟩) (pv 3)))))), ?_⟩
    obtain ⟨ts, ra, rk, rv, T⟩ := hT.opened
    have fewT := T.few
    refine ⟨t, _, T.G.dict, trivial, fun od => ?_⟩
    have back : ∀ {H' : Hp}, SameX t H H' → Same H (upd H' t (.dK (dS ts fun x => .ref (ra x)))) := fun sx => sameX_back T.G.dict sx
    refine ⟨.ref t, rfl, t, od, _, rfl, upd_same, fun D nD => ?_⟩
    have Dt : D ≠ t := fun e => by
      rw [e, upd_same] at nD
      cases nD
    have nD0 : H D = none := by
      rw [upd_ne Dt] at nD
      exact nD
    have sx0 : SameX t H (upd (upd H t (.frz od (.dK (dS ts fun x => .ref (ra x))))) D (.dK [])) := fun b u hb e => by
      have bD : b ≠ D := fun z => by
        rw [z, nD0] at e
        cases e
      rw [upd_ne bD, upd_ne hb]
      exact e
    refine dc_it walk_items (fun i H' => SameX t H H' ∧ H' t = some (.frz od (.dK (dS ts fun x => .ref (ra x)))) ∧ ∃ val : Str → Int, H' D = some (.dK (dS (ts.take i) fun x => .int (val x))) ∧
        ∀ x ∈ ts.take i, (∃ y ∈ rk x, rv x y = val x) ∧ ∀ y ∈ rk x, val x ≤ rv x y)
      ⟨sx0, by rw [upd_ne Dt.symm, upd_same], fun _ => 0, by rw [upd_same]; rfl, fun x hx => absurd hx List.not_mem_nil⟩ (fun i H' _ h => h.2.1) ?_ ?_
    · rintro i z H1 H2 hi ⟨s1, ht1, val, hD1, hmin1⟩ ⟨tp, x1, x2, rfl, ntp, rfl, e1, e2⟩
      have hi' : i < ts.length := by
        rw [dS_len] at hi
        exact hi
      dsimp only at e1 e2
      rw [dS_at hi'] at e1 e2
      obtain rfl := Option.some.inj e1
      obtain rfl := Option.some.inj e2
      have sT := same_upd (o := HO.tup [kV (Sum.inr ts[i]), V.ref (ra ts[i])]) ntp
      have etake : ts.take (i + 1) = ts.take i ++ [ts[i]] := by rw [List.take_add_one, List.getElem?_eq_getElem hi']; rfl
      have hx : ts[i] ∈ ts := List.getElem_mem hi'
      have hout : ts[i] ∉ ts.take i := fun m => by
        obtain ⟨j, hj, e⟩ := List.getElem_of_mem m
        rw [List.length_take] at hj
        rw [List.getElem_take] at e
        have := (List.getElem_inj T.G.nd).mp e
        omega
      have s2 := s1.trans (same_x sT)
      have ht2 := sT _ _ ht1
      have hD2 := sT _ _ hD1
      refine ⟨tp, _, rfl, SqT.of upd_same, rfl, _, _, rfl, _, _, rfl, rfl, ?_⟩
      refine ⟨rfl, ?_⟩
      unfold tYes
      refine iteT ?_
      have el : (ts.take i).length ≤ 20 := by rw [List.length_take]; omega
      rw [etake]
      generalize upd H1 tp (.tup [kV (Sum.inr ts[i]), V.ref (ra ts[i])]) = H2 at *
      generalize ts[i] = x at *
      have hrow := s2 _ _ (T.G.off x hx) (T.G.row x hx)
      refine ⟨.str x, rfl, .ref (ra x), rfl, ra x, _, (rk x).map (rv x), rfl, hrow, ?_, fun e => ?_, fun m hm hle => ?_⟩
      · unfold dS
        rw [List.map_map, List.map_map]
        rfl
      · have := (T.S.self x hx).1
        rw [List.map_eq_nil_iff.mp e] at this
        cases this
      · refine ⟨_, Sum.inr x, rfl, hD2, by rw [dS_len]; exact small1000 (by omega), fun b u hb e => ?_, ?_, Lo.put val x m, ?_, fun w hw => ?_⟩
        · have bD : b ≠ D := fun z => by
            rw [z, nD0] at e
            cases e
          rw [upd_ne bD]
          exact s2 b u hb e
        · rw [upd_ne Dt.symm]
          exact ht2
        · rw [upd_same, dS_put]
          have ea : addN (ts.take i) x = ts.take i ++ [x] := if_neg hout
          rw [ea]
          congr 2
          refine dS_congr fun w hw => ?_
          by_cases e : w = x
          · subst e
            rw [put_at, put_at]
          · rw [put_off e, put_off e]
        · by_cases e : w = x
          · subst e
            rw [put_at]
            obtain ⟨y, hy, ey⟩ := List.mem_map.mp hm
            exact ⟨⟨y, hy, ey⟩, fun y hy => hle _ (List.mem_map.mpr ⟨y, hy, rfl⟩)⟩
          · rw [put_off e]
            have m' : w ∈ ts.take i := (List.mem_append.mp hw).elim id fun m => absurd (List.mem_singleton.mp m) e
            exact hmin1 w m'
    · rintro H1 ⟨s1, ht1, val, hD1, hmin1⟩
      rw [dS_len, List.take_length] at hD1 hmin1
      have b1 := back s1
      refine ⟨ht1, ?_⟩
      have hD2 : upd H1 t (.dK (dS ts fun x => .ref (ra x))) D = some (.dK (dS ts fun x => .int (val x))) := by
        rw [upd_ne Dt]
        exact hD1
      generalize upd H1 t (.dK (dS ts fun x => .ref (ra x))) = H2 at *
      have rdD : Rd H2 D (.dK (dS ts fun x => .int (val x))) := Rd.of hD2
      let b : Int := if ("0" : Str) ∈ ts then val "0" else 0
      have getV : ∀ (x : Str) (d : Int), ((if x ∈ ts then some (V.int (val x)) else none).getD (.int d)) = .int (if x ∈ ts then val x else d) := fun x d => by
        by_cases m : x ∈ ts
        · rw [if_pos m, if_pos m]
          rfl
        · rw [if_neg m, if_neg m]
          rfl
      refine ⟨.ref D, rfl, D, rfl, .inl ⟨_, rdD⟩, _, rgetI "0" rdD, ?_⟩
      rw [getV]
      refine ⟨.ref np, rfl, np, rfl, ⟨_, SqT.of (b1 _ _ hN)⟩, fun D2 nD2 => ?_⟩
      have sat : Sat R fun x => (if x ∈ ts then val x else b) - b := by
        refine (T.eq _).mpr fun q' hq' => ?_
        obtain ⟨x, y, c⟩ := q'
        obtain ⟨hx, hy, hc⟩ := mem_entr.mp hq'
        dsimp only at hx hy hc ⊢
        have hy' := T.S.sub x hx y hy
        rw [if_pos hx, if_pos hy', hc]
        obtain ⟨⟨z, hz, ez⟩, _⟩ := hmin1 y hy'
        obtain ⟨t1, t2⟩ := T.S.tri x hx y hy z hz
        have := (hmin1 x hx).2 z t1
        omega
      have zero : (if ("0" : Str) ∈ ts then val "0" else b) - b = 0 := by
        show (if ("0" : Str) ∈ ts then val "0" else (if ("0" : Str) ∈ ts then val "0" else 0)) - (if ("0" : Str) ∈ ts then val "0" else 0) = 0
        split <;> omega
      refine dc_tup (K := K) (a := np) (xs := ns.map V.str) (fun i H' => Same H2 H' ∧ H' D2 = some (.dK (dS (ns.take i) fun x => .int ((if x ∈ ts then val x else b) - b)))) ⟨same_upd nD2, by rw [upd_same]; rfl⟩ (fun i H' _ h => SqT.of (h.1 _ _ (b1 _ _ hN))) ?_ ?_
      · rintro i v H3 hi ⟨s3, hD3⟩
        obtain ⟨hiN, rfl, etake, memX⟩ := pickS hi
        have hout : ns[i] ∉ ns.take i := fun m => by
          obtain ⟨j, hj, e⟩ := List.getElem_of_mem m
          rw [List.length_take] at hj
          rw [List.getElem_take] at e
          have := (List.getElem_inj nodup).mp e
          omega
        refine ⟨rfl, ?_⟩
        unfold tYes
        refine iteT ?_
        rw [etake]
        generalize ns[i] = x at *
        have rd3 : Rd H3 D (.dK (dS ts fun x => .int (val x))) := Rd.of (s3 _ _ hD2)
        refine ⟨.str x, rfl, .ref D, rfl, D, rfl, .inl ⟨_, rd3⟩, .str x, rfl, .int b, rfl, _, rgetI x rd3, ?_⟩
        rw [getV]
        refine ⟨.int b, rfl, _, _, rfl, rfl, _, Sum.inr x, rfl, hD3, by rw [dS_len]; exact small1000 (by rw [List.length_take]; omega), s3.later nD2, ?_⟩
        rw [upd_same, dS_put]
        have ea : addN (ns.take i) x = ns.take i ++ [x] := if_neg hout
        rw [ea]
        congr 2
        refine dS_congr fun w hw => ?_
        by_cases e : w = x
        · subst e
          rw [put_at]
        · rw [put_off e]
      · rintro H3 ⟨s3, hD3⟩
        rw [List.length_map, List.take_length] at hD3
        exact q H3 D2 (fun x => (if x ∈ ts then val x else b) - b) (b1.trans s3) (b1.free nD2) hD3 sat zero
/-! ### names, _check_alike -/
def spRNames (C : Addr) : Sp := fun vs H Q _ => ∃ (p np tl : Addr) (ns : List Str) (Rs : List (List SRow)) (zs : List Str), vs = [.ref p] ∧ RegAt C H p np tl ns Rs zs ∧ Q (.ref np) H
theorem scRNames : FnScope ["self"] ["self"] (defScope sRNames) := ⟨rfl, rfl, rfl, by decide +kernel, rfl, by decide +kernel, by decide +kernel⟩
theorem ok_rnames {f fI C : Addr} {fd : FuncData} (F : Fun K "names" "Region.names" sRNames f fd) (X : RTxt K mg C fI) : FnOk P w K mg base CX0 1 f fd ["self"] (spRNames C) := by
  refine F.ok scRNames (fun vs H Q E h => ?_) (fun cdv A outer s H vs Q E hr h => ?_)
  · obtain ⟨p, np, tl, ns, Rs, zs, rfl, _⟩ := h
    rfl
  · obtain ⟨p, np, tl, ns, Rs, zs, rfl, RA, q⟩ := h
    obtain ⟨dx, hp⟩ := RA.ob
    refine ⟨_, pss_one (ps_ret (pe_fld (pv 0) rfl)), ?_⟩
    exact ⟨.ref p, rfl, p, C, dx, _, _, rfl, hp, X.cl, X.nN, rflds_n _ _, q⟩
/-- a property of regions -/
def namesD (ns : List Str) : PyData := .tuple (ns.map PyData.str)
theorem shaped_names {ns : List Str} (h : ∀ z ∈ ns, PyData.strOk z = true) : SeqAt.shaped (namesD ns) = true := by
  unfold namesD
  simp [SeqAt.shaped, PyData.canLay0, PyData.depth, lay_strs ns h, deep_strs]
theorem eqv_names (ns : List Str) : PyData.eqv (namesD ns) (namesD ns) = true := by
  unfold namesD
  simp [PyData.eqv, eqv_strs]
theorem dp_names {H : Hp} {a : Addr} {ns : List Str} (h : SqT K H a (ns.map V.str)) : Dp K H (.ref a) (namesD ns) := .tup h (dp_strs ns)
def spCheckAlike (C : Addr) : Sp := fun vs H Q _ => ∃ (p np tl p2 np2 tl2 : Addr) (ns : List Str) (Rs : List (List SRow)) (zs : List Str) (Rs2 : List (List SRow)) (zs2 : List Str), vs = [.ref p, .ref p2] ∧ RegAt C H p np tl ns Rs zs ∧ RegAt C H p2 np2 tl2 ns Rs2 zs2 ∧ NamesR ns ∧ Q .non H
theorem scCheckAlike : FnScope ["one", "other"] ["one", "other"] (defScope sCheckAlike) := ⟨rfl, rfl, rfl, by decide +kernel, rfl, by decide +kernel, by decide +kernel⟩
theorem ok_checkalike {f fN C fI pN : Addr} {fd fdN : FuncData} (F : Fun K "_check_alike" "_check_alike" sCheckAlike f fd) (X : RTxt K mg C fI) (pn : PropOf K C "names" pN fN) (GN : FnOk P w K mg base CX0 1 fN fdN ["self"] (spRNames C)) (bN : Binds K fdN ["self"] []) :
    FnOk P w K mg base CX0 3 f fd ["one", "other"] (spCheckAlike C) := by
  refine F.ok scCheckAlike (fun vs H Q E h => ?_) (fun cdv A outer s H vs Q E hr h => ?_)
  · obtain ⟨p, np, tl, p2, np2, tl2, ns, Rs, zs, Rs2, zs2, rfl, _⟩ := h
    rfl
  · obtain ⟨p, np, tl, p2, np2, tl2, ns, Rs, zs, Rs2, zs2, rfl, RA, RB, N, q⟩ := h
    obtain ⟨dx, hp⟩ := RA.ob
    obtain ⟨dx2, hp2⟩ := RB.ob
    refine ⟨_, pss_one (ps_if (pt_cmpR (op_neD hr.units) (pe_prop (pv 0) X.cl pn GN hr bN .nil pass0 (by rfl)) (pe_prop (pv 1) X.cl pn GN hr bN .nil pass0 (by rfl)) (nomark _)) (pss_one ps_never) pss_nil), ?_⟩
    refine ⟨.ref p, rfl, p, dx, _, rfl, hp, p, np, tl, ns, Rs, zs, rfl, RA, ?_⟩
    refine ⟨.ref p2, rfl, p2, dx2, _, rfl, hp2, p2, np2, tl2, ns, Rs2, zs2, rfl, RB, ?_⟩
    refine ⟨_, _, dp_names (SqT.of RA.nm), dp_names (SqT.of RB.nm), shaped_names fun z hz => (N.ok z hz).2.2, shaped_names fun z hz => (N.ok z hz).2.2, ?_⟩
    rw [eqv_names]
    exact ⟨_, rfl, iteF q⟩
end
end Lo
namespace Lo
open PySem L2
abbrev sROr : Stmt := inClass sRegion 6
abbrev sRSub : Stmt := inClass sRegion 7
abbrev sRInvert : Stmt := inClass sRegion 8
theorem small_sz {n : Nat} (h : n < 1000) : n < sizeLine := Nat.lt_of_lt_of_le h (by decide)
/-- a region over its names -/
abbrev Reg (C : Addr) (H : Hp) (p : Addr) (ns : List Str) (Rs : List (List SRow)) : Prop := ∃ np tl, RegAt C H p np tl ns Rs (("0" : Str) :: ns)
theorem Reg.same {C : Addr} {H H' : Hp} {p : Addr} {ns : List Str} {Rs : List (List SRow)} (s : Same H H') (h : Reg C H p ns Rs) : Reg C H' p ns Rs := by
  obtain ⟨np, tl, h⟩ := h
  exact ⟨np, tl, h.same s⟩
theorem Tabs.sat {H : Hp} {L : Addr} {Rs : List (List SRow)} {zs : List Str} (h : Tabs H L Rs zs) : ∀ R ∈ Rs, ∃ v, Sat R v := fun R hR => by
  obtain ⟨ts, a, b, c⟩ := h
  obtain ⟨i, hi, rfl⟩ := List.getElem_of_mem hR
  exact (c i ts[i] _ (List.getElem?_eq_getElem (by omega)) (List.getElem?_eq_getElem hi)).sat
theorem Tabs.empty_iff {H : Hp} {L : Addr} {Rs : List (List SRow)} {zs : List Str} (h : Tabs H L Rs zs) : Rs = [] ↔ ∀ u, ¬ US Rs u := by
  constructor
  · rintro rfl u
    exact us_nil
  · intro no
    cases Rs with
    | nil => rfl
    | cons R Rs =>
      obtain ⟨v, hv⟩ := h.sat R List.mem_cons_self
      exact absurd ⟨R, List.mem_cons_self, hv⟩ (no v)
theorem NamesR.z5 {ns : List Str} (N : NamesR ns) : (("0" : Str) :: ns).length ≤ 5 := by
  have := N.few
  rw [List.length_cons]
  omega
section
variable {P : Program} {w : World} {K : PySem.W.Frag} {mg : Str → Option Value} {base : Heap}
/-! ### bool -/
def spRBool (C : Addr) : Sp := fun vs H Q _ => ∃ (p : Addr) (ns : List Str) (Rs : List (List SRow)), vs = [.ref p] ∧ Reg C H p ns Rs ∧ ∀ b : Bool, (b = true ↔ Rs ≠ []) → Q (.bl b) H
theorem scRBool : FnScope ["self"] ["self"] (defScope sRBool) := ⟨rfl, rfl, rfl, by decide +kernel, rfl, by decide +kernel, by decide +kernel⟩
theorem ok_rbool {f fI C : Addr} {fd : FuncData} (F : Fun K "__bool__" "Region.__bool__" sRBool f fd) (T : Blt mg) (X : RTxt K mg C fI) : FnOk P w K mg base CX0 1 f fd ["self"] (spRBool C) := by
  refine F.ok scRBool (fun vs H Q E h => ?_) (fun cdv A outer s H vs Q E hr h => ?_)
  · obtain ⟨p, ns, Rs, rfl, _⟩ := h
    rfl
  · obtain ⟨p, ns, Rs, rfl, ⟨np, tl, RA⟩, q⟩ := h
    obtain ⟨dx, hp⟩ := RA.ob
    obtain ⟨ts, t1, t2, t3⟩ := RA.tb
    refine ⟨_, pss_one (ps_ret (pe_callTy call_boolL (by rfl) T.bool PyProof.Rows.boot_bool (pa_cons (pe_fld (pv 0) rfl) pa_nil))), ?_⟩
    refine ⟨.ref p, rfl, p, C, dx, _, _, rfl, hp, X.cl, X.nT, rflds_t _ _, tl, _, rfl, SqL.of t1, q _ ?_⟩
    cases ts with
    | nil =>
      have : Rs = [] := List.length_eq_zero_iff.mp t2.symm
      exact ⟨(fun z => nomatch z), fun z => absurd this z⟩
    | cons a l => exact ⟨(fun _ z => by rw [z] at t2; cases t2), fun _ => rfl⟩
/-! ### within, same -/
def spRSame (C : Addr) : Sp := fun vs H Q _ => ∃ (p p2 : Addr) (ns : List Str) (Rs Rs2 : List (List SRow)), vs = [.ref p, .ref p2] ∧ Reg C H p ns Rs ∧ Reg C H p2 ns Rs2 ∧ NamesR ns ∧ Rs.length < sizeLine ∧ Rs2.length < sizeLine ∧ Rs.length * ((ns.length + 1) * (ns.length + 1)) ^ Rs2.length < sizeLine ∧ Rs2.length * ((ns.length + 1) * (ns.length + 1)) ^ Rs.length < sizeLine ∧
  ∀ (H' : Hp) (b : Bool), Same H H' → (b = true ↔ ∀ u, US Rs u ↔ US Rs2 u) → Q (.bl b) H'
theorem scRSame : FnScope ["self", "other"] ["self", "other"] (defScope sRSame) := ⟨rfl, rfl, rfl, by decide +kernel, rfl, by decide +kernel, by decide +kernel⟩
theorem ok_rsame {f fI fA fS C : Addr} {fd fdA fdS : FuncData} (F : Fun K "same" "Region.same" sRSame f fd) (X : RTxt K mg C fI)
    (GA : FnOk P w K mg base CX0 3 fA fdA ["one", "other"] (spCheckAlike C)) (kA : PySem.W.keepIn K (.ref fA) = true) (bA : Binds K fdA ["one", "other"] []) (gA : mg "_check_alike" = some (.ref fA))
    (GS : FnOk P w K mg base CX0 5 fS fdS ["tables", "others"] spSubtracted) (kS : PySem.W.keepIn K (.ref fS) = true) (bS : Binds K fdS ["tables", "others"] []) (gS : mg "subtracted" = some (.ref fS)) :
    FnOk P w K mg base CX0 6 f fd ["self", "other"] (spRSame C) := by
  refine F.ok scRSame (fun vs H Q E h => ?_) (fun cdv A outer s H vs Q E hr h => ?_)
  · obtain ⟨p, p2, ns, Rs, Rs2, rfl, _⟩ := h
    rfl
  · obtain ⟨p, p2, ns, Rs, Rs2, rfl, ⟨np, tl, RA⟩, ⟨np2, tl2, RB⟩, N, b0, b1, b2, b3, q⟩ := h
    obtain ⟨dx, hp⟩ := RA.ob
    obtain ⟨dx2, hp2⟩ := RB.ob
    refine ⟨_, pss_cons (ps_expr (pe_call GA (hr.mono (by decide)) (by rfl) gA kA bA .nil pass0 (pa_cons (pv 0) (pa_cons (pv 1) pa_nil))))
      (pss_one (ps_ret (pe_and (pe_notT (pe_call GS hr (by rfl) gS kS bS .nil pass0 (pa_cons (pe_fld (pv 0) rfl) (pa_cons (pe_fld (pv 1) rfl) pa_nil))))
        (pe_one (pe_notT (pe_call GS hr (by rfl) gS kS bS .nil pass0 (pa_cons (pe_fld (pv 1) rfl) (pa_cons (pe_fld (pv 0) rfl) pa_nil)))))))), ?_⟩
    have z5 := N.z5
    have emp : ∀ {H1 : Hp} {r : Addr} {Rs' A B : List (List SRow)} {ts : List Addr}, H1 r = some (.lst (ts.map V.ref)) → ts.length = Rs'.length → Tabs H1 r Rs' (("0" : Str) :: ns) → (∀ u, US Rs' u ↔ US A u ∧ ¬ US B u) → ((!(!(ts.map V.ref).isEmpty)) = true ↔ ∀ u, US A u → US B u) := fun {H1 r Rs' A B ts} t1 t2 hr1 us1 => by
      have e2 : (ts.map V.ref).isEmpty = true ↔ Rs' = [] := by
        cases ts with
        | nil => exact ⟨fun _ => List.length_eq_zero_iff.mp t2.symm, fun _ => rfl⟩
        | cons a l => exact ⟨fun z => (nomatch z), fun z => by rw [z] at t2; cases t2⟩
      rw [Bool.not_not, e2, hr1.empty_iff]
      constructor
      · intro h u hu
        exact Classical.byContradiction fun z => h u ((us1 u).mpr ⟨hu, z⟩)
      · intro h u hu
        obtain ⟨h1, h2⟩ := (us1 u).mp hu
        exact h2 (h u h1)
    refine ⟨.ref p, rfl, .ref p2, rfl, p, np, tl, p2, np2, tl2, ns, Rs, _, Rs2, _, rfl, RA, RB, N, ?_⟩
    refine ⟨.ref p, rfl, p, C, dx, _, _, rfl, hp, X.cl, X.nT, rflds_t _ _, .ref p2, rfl, p2, C, dx2, _, _, rfl, hp2, X.cl, X.nT, rflds_t _ _, tl, tl2, Rs, Rs2, _, rfl, RA.tb, RB.tb, by omega, by rw [List.length_cons]; omega, b1, b2, fun H1 r Rs' s1 hr1 us1 len1 => ?_⟩
    obtain ⟨ts, t1, t2, t3⟩ := id hr1
    have e1 := emp t1 t2 hr1 us1
    refine ⟨!(ts.map V.ref).isEmpty, .inl ⟨_, SqL.of t1, rfl⟩, _, rfl, ite2 (fun c => ?_) (fun c => ?_)⟩
    · refine ⟨.ref p2, rfl, p2, C, dx2, _, _, rfl, s1 _ _ hp2, X.cl, X.nT, rflds_t _ _, .ref p, rfl, p, C, dx, _, _, rfl, s1 _ _ hp, X.cl, X.nT, rflds_t _ _, tl2, tl, Rs2, Rs, _, rfl, RB.tb.same s1, RA.tb.same s1, by omega, by rw [List.length_cons]; omega, b0, b3, fun H2 r2 Rs'' s2 hr2 us2 len2 => ?_⟩
      obtain ⟨ts2, g1, g2, g3⟩ := id hr2
      have e2 := emp g1 g2 hr2 us2
      refine ⟨!(ts2.map V.ref).isEmpty, .inl ⟨_, SqL.of g1, rfl⟩, q H2 _ (s1.trans s2) ?_⟩
      rw [e2]
      have h1 := e1.mp c
      exact ⟨fun h u => ⟨h1 u, h u⟩, fun h u hu => (h u).mpr hu⟩
    · refine q H1 false s1 ⟨(fun z => nomatch z), fun h => ?_⟩
      exact absurd (e1.mpr fun u hu => (h u).mp hu) c
/-! ### point -/
def spRPoint (C : Addr) : Sp := fun vs H Q _ => ∃ (p : Addr) (ns : List Str) (Rs : List (List SRow)), vs = [.ref p] ∧ Reg C H p ns Rs ∧ NamesR ns ∧ (Rs = [] → Q .non H) ∧
  ∀ (H' : Hp) (d : Addr) (u : Str → Int), Rs ≠ [] → Same H H' → H d = none → H' d = some (.dK (dS ns fun x => .int (u x))) → US Rs u → u "0" = 0 → Q (.ref d) H'
theorem scRPoint : FnScope ["self"] ["self"] (defScope sRPoint) := ⟨rfl, rfl, rfl, by decide +kernel, rfl, by decide +kernel, by decide +kernel⟩
theorem ok_rpoint {f fI fS C : Addr} {fd fdS : FuncData} (F : Fun K "point" "Region.point" sRPoint f fd) (X : RTxt K mg C fI)
    (GS : FnOk P w K mg base CX0 1 fS fdS ["table", "names"] spSomePoint) (kS : PySem.W.keepIn K (.ref fS) = true) (bS : Binds K fdS ["table", "names"] []) (gS : mg "some_point" = some (.ref fS)) :
    FnOk P w K mg base CX0 2 f fd ["self"] (spRPoint C) := by
  refine F.ok scRPoint (fun vs H Q E h => ?_) (fun cdv A outer s H vs Q E hr h => ?_)
  · obtain ⟨p, ns, Rs, rfl, _⟩ := h
    rfl
  · obtain ⟨p, ns, Rs, rfl, ⟨np, tl, RA⟩, N, q0, q1⟩ := h
    obtain ⟨dx, hp⟩ := RA.ob
    obtain ⟨ts, t1, t2, t3⟩ := RA.tb
    have z5 := N.z5
    have n4 := N.few
    refine ⟨_, pss_cons (ps_if (pt_not (pt_truth (pe_fld (pv 0) rfl) (by intro _; rfl))) (pss_one (ps_ret pe_non)) pss_nil)
      (pss_one (ps_ret (pe_call GS hr (by rfl) gS kS bS .nil pass0 (pa_cons (pe_ix ix_list (pe_fld (pv 0) rfl) pe_int (fun _ _ => rfl)) (pa_cons (pe_fld (pv 0) rfl) pa_nil))))), ?_⟩
    refine ⟨.ref p, rfl, p, C, dx, _, _, rfl, hp, X.cl, X.nT, rflds_t _ _, !(ts.map V.ref).isEmpty, .inl ⟨_, SqL.of t1, rfl⟩, ?_⟩
    cases ts with
    | nil => exact iteT (q0 (List.length_eq_zero_iff.mp t2.symm))
    | cons a l =>
      cases Rs with
      | nil => cases t2
      | cons R Rs =>
        refine iteF ?_
        refine ⟨.ref p, rfl, p, C, dx, _, _, rfl, hp, X.cl, X.nT, rflds_t _ _, tl, _, 0, .ref a, rfl, rfl, SqL.of t1, atI_nat (j := 0) rfl, .ref p, rfl, p, C, dx, _, _, rfl, hp, X.cl, X.nN, rflds_n _ _, a, np, R, _, ns, rfl, t3 0 a R rfl rfl, by omega, RA.nm, N.nd, by omega, fun H1 d u s1 nd1 hd hu h0 => ?_⟩
        exact q1 H1 d u (List.cons_ne_nil _ _) s1 nd1 hd ⟨R, List.mem_cons_self, hu⟩ h0
end
end Lo
namespace Lo
open PySem L2
theorem Tabs.concat {H : Hp} {p : Addr} {ts gs : List Addr} {Rs Gs : List (List SRow)} {zs : List Str} (hp : H p = some (.lst (ts.map V.ref ++ gs.map V.ref))) (t2 : ts.length = Rs.length) (g2 : gs.length = Gs.length)
    (t3 : ∀ (i : Nat) (t : Addr) (R : List SRow), ts[i]? = some t → Rs[i]? = some R → TabR H t R zs) (g3 : ∀ (i : Nat) (t : Addr) (R : List SRow), gs[i]? = some t → Gs[i]? = some R → TabR H t R zs) : Tabs H p (Rs ++ Gs) zs := by
  refine ⟨ts ++ gs, by rw [hp, List.map_append], by rw [List.length_append, List.length_append, t2, g2], fun i t R a b => ?_⟩
  by_cases k : i < ts.length
  · rw [List.getElem?_append_left k] at a
    rw [List.getElem?_append_left (by omega)] at b
    exact t3 i t R a b
  · rw [List.getElem?_append_right (by omega)] at a
    rw [List.getElem?_append_right (by omega)] at b
    rw [← t2] at b
    exact g3 _ t R a b
theorem us_append {A B : List (List SRow)} {u : Str → Int} : US (A ++ B) u ↔ US A u ∨ US B u := by
  constructor
  · rintro ⟨R, hR, h⟩
    rcases List.mem_append.mp hR with m | m
    · exact .inl ⟨R, m, h⟩
    · exact .inr ⟨R, m, h⟩
  · rintro (⟨R, hR, h⟩ | ⟨R, hR, h⟩)
    · exact ⟨R, List.mem_append.mpr (.inl hR), h⟩
    · exact ⟨R, List.mem_append.mpr (.inr hR), h⟩
/-- the tables of a region are none of some things -/
def AvR (C : Addr) (A : Addr → Prop) (H : Hp) (q : Addr) : Prop := ∀ dx np tl, H q = some (.ins C dx (rflds np tl)) → AvL A H tl
theorem rflds_inj {a b c d : Addr} (h : rflds a b = rflds c d) : a = c ∧ b = d := by
  rw [rflds_eq, rflds_eq] at h
  injection h with h1 h2
  injection h1 with _ h1
  injection h1 with h1
  injection h2 with h2 _
  injection h2 with _ h2
  injection h2 with h2
  exact ⟨h1, h2⟩
theorem avr_of {C : Addr} {A : Addr → Prop} {H : Hp} {q np tl : Addr} {ns : List Str} {Rs : List (List SRow)} {zs : List Str} (R : RegAt C H q np tl ns Rs zs) (a : AvL A H tl) : AvR C A H q := fun dx np' tl' e => by
  obtain ⟨dx0, h⟩ := R.ob
  rw [h] at e
  have e := Option.some.inj e
  injection e with _ _ e
  rw [← (rflds_inj e).2]
  exact a
theorem AvR.same {C : Addr} {A : Addr → Prop} {H H' : Hp} {q : Addr} {ns : List Str} {Rs : List (List SRow)} (s : Same H H') (h : Reg C H q ns Rs) (a : AvR C A H q) : AvR C A H' q := by
  obtain ⟨np, tl, R⟩ := h
  obtain ⟨dx, e⟩ := R.ob
  exact avr_of (R.same s) ((a dx np tl e).same s R.tb)
theorem Reg.of {C : Addr} {H : Hp} {p np tl : Addr} {ns : List Str} {Rs : List (List SRow)} (h : RegAt C H p np tl ns Rs (("0" : Str) :: ns)) : Reg C H p ns Rs := ⟨np, tl, h⟩
section
variable {P : Program} {w : World} {K : PySem.W.Frag} {mg : Str → Option Value} {base : Heap}
/-! ### one | other -/
def spROr (C : Addr) : Sp := fun vs H Q _ => ∃ (p p2 : Addr) (ns : List Str) (Rs Rs2 : List (List SRow)), vs = [.ref p, .ref p2] ∧ Reg C H p ns Rs ∧ Reg C H p2 ns Rs2 ∧ NamesR ns ∧ Rs.length + Rs2.length < sizeLine ∧
  ∀ (H' : Hp) (q : Addr) (Rs' : List (List SRow)), Same H H' → H q = none → Reg C H' q ns Rs' → (∀ u, US Rs' u ↔ US Rs u ∨ US Rs2 u) → Rs'.length ≤ Rs.length + Rs2.length → EntIn (Rs ++ Rs2) Rs' → Q (.ref q) H'
theorem scROr : FnScope ["self", "other"] ["self", "other"] (defScope sROr) := ⟨rfl, rfl, rfl, by decide +kernel, rfl, by decide +kernel, by decide +kernel⟩
theorem ok_ror {f fI fA fS fG C : Addr} {fd fdA fdS fdG : FuncData} (F : Fun K "__or__" "Region.__or__" sROr f fd) (X : RTxt K mg C fI)
    (GA : FnOk P w K mg base CX0 3 fA fdA ["one", "other"] (spCheckAlike C)) (kA : PySem.W.keepIn K (.ref fA) = true) (bA : Binds K fdA ["one", "other"] []) (gA : mg "_check_alike" = some (.ref fA))
    (GS : FnOk P w K mg base CX0 7 fS fdS ["tables"] spUnited) (kS : PySem.W.keepIn K (.ref fS) = true) (bS : Binds K fdS ["tables"] []) (gS : mg "simplified" = some (.ref fS))
    (GG : FnOk P w K mg base CX0 8 fG fdG ["names", "tables"] (spRegionOf K C)) (kG : PySem.W.keepIn K (.ref fG) = true) (bG : Binds K fdG ["names", "tables"] []) (gG : mg "region_of" = some (.ref fG)) :
    FnOk P w K mg base CX0 9 f fd ["self", "other"] (spROr C) := by
  refine F.ok scROr (fun vs H Q E h => ?_) (fun cdv A outer s H vs Q E hr h => ?_)
  · obtain ⟨p, p2, ns, Rs, Rs2, rfl, _⟩ := h
    rfl
  · obtain ⟨p, p2, ns, Rs, Rs2, rfl, ⟨np, tl, RA⟩, ⟨np2, tl2, RB⟩, N, b1, q⟩ := h
    obtain ⟨dx, hp⟩ := RA.ob
    obtain ⟨dx2, hp2⟩ := RB.ob
    refine ⟨_, pss_cons (ps_expr (pe_call GA (hr.mono (by decide)) (by rfl) gA kA bA .nil pass0 (pa_cons (pv 0) (pa_cons (pv 1) pa_nil))))
      (pss_one (ps_ret (pe_call GG hr (by rfl) gG kG bG .nil pass0 (pa_cons (pe_fld (pv 0) rfl) (pa_cons (pe_call GS (hr.mono (by decide)) (by rfl) gS kS bS .nil pass0 (pa_cons (pe_lst (StX.pa_star (pe_fld (pv 0) rfl) (StX.pa_star (pe_fld (pv 1) rfl) pa_nil))) pa_nil)) pa_nil))))), ?_⟩
    have z5 := N.z5
    have tA := RA.tb
    have tB := RB.tb
    obtain ⟨ts, t1, t2, t3⟩ := tA
    obtain ⟨gs, g1, g2, g3⟩ := tB
    refine ⟨.ref p, rfl, .ref p2, rfl, p, np, tl, p2, np2, tl2, ns, Rs, _, Rs2, _, rfl, RA, RB, N, ?_⟩
    refine ⟨.ref p, rfl, p, C, dx, _, _, rfl, hp, X.cl, X.nN, rflds_n _ _, .ref p, rfl, p, C, dx, _, _, rfl, hp, X.cl, X.nT, rflds_t _ _, tl, _, rfl, .inr (SqL.of t1), .ref p2, rfl, p2, C, dx2, _, _, rfl, hp2, X.cl, X.nT, rflds_t _ _, tl2, _, rfl, .inr (SqL.of g1), ?_, fun d nD => ?_⟩
    · simp only [List.length_append, List.length_map, List.length_nil]
      omega
    · have sd := same_upd (o := HO.lst (ts.map V.ref ++ (gs.map V.ref ++ []))) nD
      refine ⟨d, Rs ++ Rs2, _, rfl, Tabs.concat (ts := ts) (gs := gs) (by rw [upd_same, List.append_nil]) t2 g2 (fun i t R a b => (t3 i t R a b).same sd) (fun i t R a b => (g3 i t R a b).same sd), by omega, by rw [List.length_append]; omega, fun H2 p' Rs' s2 h2 us2 len2 ent2 => ?_⟩
      have s02 := sd.trans s2
      refine ⟨np, p', ns, Rs', _, rfl, SqT.of (s02 _ _ RA.nm), N, h2, fun H3 q3 np3 s3 nq R3 => ?_⟩
      rw [List.length_append] at len2
      exact q H3 q3 Rs' (s02.trans s3) (s02.free nq) (Reg.of R3) (fun u => (us2 u).trans us_append) len2 ent2
/-! ### one - other -/
def spRSub (C : Addr) : Sp := fun vs H Q _ => ∃ (p p2 : Addr) (ns : List Str) (Rs Rs2 : List (List SRow)), vs = [.ref p, .ref p2] ∧ Reg C H p ns Rs ∧ Reg C H p2 ns Rs2 ∧ NamesR ns ∧ Rs2.length < sizeLine ∧ Rs.length * ((ns.length + 1) * (ns.length + 1)) ^ Rs2.length < sizeLine ∧
  ∀ (H' : Hp) (q : Addr) (Rs' : List (List SRow)), Same H H' → H q = none → Reg C H' q ns Rs' → (∀ u, US Rs' u ↔ US Rs u ∧ ¬ US Rs2 u) → Rs'.length ≤ Rs.length * ((ns.length + 1) * (ns.length + 1)) ^ Rs2.length → Q (.ref q) H'
theorem scRSub : FnScope ["self", "other"] ["self", "other"] (defScope sRSub) := ⟨rfl, rfl, rfl, by decide +kernel, rfl, by decide +kernel, by decide +kernel⟩
theorem ok_rsub {f fI fA fS fU fG C : Addr} {fd fdA fdS fdU fdG : FuncData} (F : Fun K "__sub__" "Region.__sub__" sRSub f fd) (X : RTxt K mg C fI)
    (GA : FnOk P w K mg base CX0 3 fA fdA ["one", "other"] (spCheckAlike C)) (kA : PySem.W.keepIn K (.ref fA) = true) (bA : Binds K fdA ["one", "other"] []) (gA : mg "_check_alike" = some (.ref fA))
    (GS : FnOk P w K mg base CX0 5 fS fdS ["tables", "others"] spSubtracted) (kS : PySem.W.keepIn K (.ref fS) = true) (bS : Binds K fdS ["tables", "others"] []) (gS : mg "subtracted" = some (.ref fS))
    (GU : FnOk P w K mg base CX0 6 fU fdU ["tables"] spUnited) (kU : PySem.W.keepIn K (.ref fU) = true) (bU : Binds K fdU ["tables"] []) (gU : mg "united" = some (.ref fU))
    (GG : FnOk P w K mg base CX0 8 fG fdG ["names", "tables"] (spRegionOf K C)) (kG : PySem.W.keepIn K (.ref fG) = true) (bG : Binds K fdG ["names", "tables"] []) (gG : mg "region_of" = some (.ref fG)) :
    FnOk P w K mg base CX0 9 f fd ["self", "other"] (spRSub C) := by
  refine F.ok scRSub (fun vs H Q E h => ?_) (fun cdv A outer s H vs Q E hr h => ?_)
  · obtain ⟨p, p2, ns, Rs, Rs2, rfl, _⟩ := h
    rfl
  · obtain ⟨p, p2, ns, Rs, Rs2, rfl, ⟨np, tl, RA⟩, ⟨np2, tl2, RB⟩, N, b1, b2, q⟩ := h
    obtain ⟨dx, hp⟩ := RA.ob
    obtain ⟨dx2, hp2⟩ := RB.ob
    refine ⟨_, pss_cons (ps_expr (pe_call GA (hr.mono (by decide)) (by rfl) gA kA bA .nil pass0 (pa_cons (pv 0) (pa_cons (pv 1) pa_nil))))
      (pss_one (ps_ret (pe_call GG hr (by rfl) gG kG bG .nil pass0 (pa_cons (pe_fld (pv 0) rfl) (pa_cons (pe_call GU (hr.mono (by decide)) (by rfl) gU kU bU .nil pass0 (pa_cons (pe_call GS (hr.mono (by decide)) (by rfl) gS kS bS .nil pass0 (pa_cons (pe_fld (pv 0) rfl) (pa_cons (pe_fld (pv 1) rfl) pa_nil))) pa_nil)) pa_nil))))), ?_⟩
    have z5 := N.z5
    refine ⟨.ref p, rfl, .ref p2, rfl, p, np, tl, p2, np2, tl2, ns, Rs, _, Rs2, _, rfl, RA, RB, N, ?_⟩
    refine ⟨.ref p, rfl, p, C, dx, _, _, rfl, hp, X.cl, X.nN, rflds_n _ _, .ref p, rfl, p, C, dx, _, _, rfl, hp, X.cl, X.nT, rflds_t _ _, .ref p2, rfl, p2, C, dx2, _, _, rfl, hp2, X.cl, X.nT, rflds_t _ _, tl, tl2, Rs, Rs2, _, rfl, RA.tb, RB.tb, by omega, by rw [List.length_cons]; omega, b1, b2, fun H1 r Rs' s1 h1 us1 len1 => ?_⟩
    refine ⟨r, Rs', _, rfl, h1, by omega, Nat.lt_of_le_of_lt len1 b2, fun H2 p' R2 s2 h2 us2 len2 _ => ?_⟩
    have s02 := s1.trans s2
    refine ⟨np, p', ns, R2, _, rfl, SqT.of (s02 _ _ RA.nm), N, h2, fun H3 q3 np3 s3 nq R3 => ?_⟩
    exact q H3 q3 R2 (s02.trans s3) (s02.free nq) (Reg.of R3) (fun u => (us2 u).trans (us1 u)) (Nat.le_trans len2 len1)
/-! ### ~one -/
def spRInvert (C : Addr) : Sp := fun vs H Q _ => ∃ (p : Addr) (ns : List Str) (Rs : List (List SRow)), vs = [.ref p] ∧ Reg C H p ns Rs ∧ NamesR ns ∧ Rs.length < sizeLine ∧ ((ns.length + 1) * (ns.length + 1)) ^ Rs.length < sizeLine ∧
  ∀ (H' : Hp) (q : Addr) (Rs' : List (List SRow)), Same H H' → H q = none → Reg C H' q ns Rs' → (∀ u, US Rs' u ↔ ¬ US Rs u) → Rs'.length ≤ ((ns.length + 1) * (ns.length + 1)) ^ Rs.length → Q (.ref q) H'
theorem scRInvert : FnScope ["self"] ["self"] (defScope sRInvert) := ⟨rfl, rfl, rfl, by decide +kernel, rfl, by decide +kernel, by decide +kernel⟩
theorem ok_rinvert {f fI fO fG C : Addr} {fd fdO fdG : FuncData} (F : Fun K "__invert__" "Region.__invert__" sRInvert f fd) (X : RTxt K mg C fI)
    (GO : FnOk P w K mg base CX0 7 fO fdO ["tables"] spOutside) (kO : PySem.W.keepIn K (.ref fO) = true) (bO : Binds K fdO ["tables"] []) (gO : mg "outside" = some (.ref fO))
    (GG : FnOk P w K mg base CX0 8 fG fdG ["names", "tables"] (spRegionOf K C)) (kG : PySem.W.keepIn K (.ref fG) = true) (bG : Binds K fdG ["names", "tables"] []) (gG : mg "region_of" = some (.ref fG)) :
    FnOk P w K mg base CX0 9 f fd ["self"] (spRInvert C) := by
  refine F.ok scRInvert (fun vs H Q E h => ?_) (fun cdv A outer s H vs Q E hr h => ?_)
  · obtain ⟨p, ns, Rs, rfl, _⟩ := h
    rfl
  · obtain ⟨p, ns, Rs, rfl, ⟨np, tl, RA⟩, N, b1, b2, q⟩ := h
    obtain ⟨dx, hp⟩ := RA.ob
    refine ⟨_, pss_one (ps_ret (pe_call GG hr (by rfl) gG kG bG .nil pass0 (pa_cons (pe_fld (pv 0) rfl) (pa_cons (pe_call GO (hr.mono (by decide)) (by rfl) gO kO bO .nil pass0 (pa_cons (pe_fld (pv 0) rfl) pa_nil)) pa_nil)))), ?_⟩
    have z5 := N.z5
    refine ⟨.ref p, rfl, p, C, dx, _, _, rfl, hp, X.cl, X.nN, rflds_n _ _, .ref p, rfl, p, C, dx, _, _, rfl, hp, X.cl, X.nT, rflds_t _ _, tl, Rs, _, rfl, RA.tb, by omega, by rw [List.length_cons]; omega, b1, b2, fun H1 r Rs' s1 h1 us1 len1 => ?_⟩
    refine ⟨np, r, ns, Rs', _, rfl, SqT.of (s1 _ _ RA.nm), N, h1, fun H3 q3 np3 s3 nq R3 => ?_⟩
    exact q H3 q3 Rs' (s1.trans s3) (s1.free nq) (Reg.of R3) us1 len1
/-! ### ~one, with the entries told -/
def spRInvert2 (C : Addr) : Sp := fun vs H Q _ => ∃ (p : Addr) (ns : List Str) (Rs : List (List SRow)) (E : List SRow) (d : Nat) (ds : List (Addr × HO)), vs = [.ref p] ∧ LockOk ds H ∧ Dks ds ∧ Reg C H p ns Rs ∧ NamesR ns ∧ Rs.length < sizeLine ∧
  (∀ O ∈ Rs, ∀ q : SRow, q.1 ≠ q.2.1 → q.1 ∈ ("0" : Str) :: ns → q.2.1 ∈ ("0" : Str) :: ns → D O q.1 q.2.1 = some q.2.2 → q ∈ E) ∧ (∀ e ∈ E, e.1 ∈ ("0" : Str) :: ns ∧ e.2.1 ∈ ("0" : Str) :: ns) ∧ (("0" : Str) :: ns).length ≤ d + 1 ∧ phi E.length d < sizeLine ∧
  ∀ (H' : Hp) (q : Addr) (Rs' Ms Os : List (List SRow)) (G : List SRow), Same H H' → H q = none → Reg C H' q ns Rs' → (∀ u, US Rs' u ↔ ¬ US Rs u) → Rs'.length ≤ phi E.length d → (∀ O ∈ Os, O ∈ Rs) → Os.length ≤ Rs.length → LitsOf (("0" : Str) :: ns) Os G → (∀ R' ∈ Ms, ∀ q ∈ R', q ∈ G ∨ ∃ g ∈ G, q = cutRow g) → (∀ R' ∈ Ms, ∃ v, Sat R' v) → EntIn Ms Rs' → AvR C (inD ds) H' q → Q (.ref q) H'
theorem ok_rinvert2 {f fI fO fG C : Addr} {fd fdO fdG : FuncData} (F : Fun K "__invert__" "Region.__invert__" sRInvert f fd) (X : RTxt K mg C fI)
    (GO : FnOk P w K mg base CX0 7 fO fdO ["tables"] spOutside2) (kO : PySem.W.keepIn K (.ref fO) = true) (bO : Binds K fdO ["tables"] []) (gO : mg "outside" = some (.ref fO))
    (GG : FnOk P w K mg base CX0 8 fG fdG ["names", "tables"] (spRegionOf K C)) (kG : PySem.W.keepIn K (.ref fG) = true) (bG : Binds K fdG ["names", "tables"] []) (gG : mg "region_of" = some (.ref fG)) :
    FnOk P w K mg base CX0 9 f fd ["self"] (spRInvert2 C) := by
  refine F.ok scRInvert (fun vs H Q E h => ?_) (fun cdv A outer s H vs Q E hr h => ?_)
  · obtain ⟨p, ns, Rs, E0, d0, ds, rfl, _⟩ := h
    rfl
  · obtain ⟨p, ns, Rs, E0, d0, ds, rfl, lk, dk, ⟨np, tl, RA⟩, N, b1, entE, inE, dim, bound, q⟩ := h
    obtain ⟨dx, hp⟩ := RA.ob
    refine ⟨_, pss_one (ps_ret (pe_call GG hr (by rfl) gG kG bG .nil pass0 (pa_cons (pe_fld (pv 0) rfl) (pa_cons (pe_call GO (hr.mono (by decide)) (by rfl) gO kO bO .nil pass0 (pa_cons (pe_fld (pv 0) rfl) pa_nil)) pa_nil)))), ?_⟩
    have z5 := N.z5
    refine ⟨.ref p, rfl, p, C, dx, _, _, rfl, hp, X.cl, X.nN, rflds_n _ _, .ref p, rfl, p, C, dx, _, _, rfl, hp, X.cl, X.nT, rflds_t _ _, tl, Rs, _, E0, d0, ds, rfl, lk, dk, RA.tb, by omega, by rw [List.length_cons]; omega, b1, entE, inE, dim, bound, fun H1 r Rs' Ms Os G s1 h1 us1 len1 memO lenO lits rows sol ent av => ?_⟩
    refine ⟨np, r, ns, Rs', _, rfl, SqT.of (s1 _ _ RA.nm), N, h1, fun H3 q3 np3 s3 nq R3 => ?_⟩
    exact q H3 q3 Rs' Ms Os G (s1.trans s3) (s1.free nq) (Reg.of R3) us1 len1 memO lenO lits rows sol ent (avr_of R3 (av.same s3 h1))
end
end Lo
namespace Lo
open PySem L2
section
variable {P : Program} {w : World} {K : PySem.W.Frag} {mg : Str → Option Value} {base : Heap}
/-! ### pieces -/
def spRPieces (C : Addr) : Sp := fun vs H Q _ => ∃ (p : Addr) (ns : List Str) (Rs : List (List SRow)), vs = [.ref p] ∧ Reg C H p ns Rs ∧ NamesR ns ∧ Rs.length < sizeLine ∧
  ∀ (H' : Hp) (q : Addr) (Fs : List (List SRow)), Same H H' → Syss H' q Fs → Fs.length = Rs.length → (∀ u, US Fs u ↔ US Rs u) → (∀ F ∈ Fs, RowsIn (("0" : Str) :: ns) F ∧ F.length ≤ (ns.length + 1) * (ns.length + 1)) → (∀ F ∈ Fs, ∃ u, Sat F u) → Q (.ref q) H'
abbrev nPieces : List Str := ["self", "table"]
theorem scRPieces : FnScope nPieces ["self"] (defScope sRPieces) := ⟨rfl, rfl, rfl, by decide +kernel, rfl, by decide +kernel, by decide +kernel⟩
theorem ok_rpieces {f fI fF C : Addr} {fd fdF : FuncData} (F : Fun K "pieces" "Region.pieces" sRPieces f fd) (X : RTxt K mg C fI)
    (GF : FnOk P w K mg base CX0 3 fF fdF ["table"] spFewR) (kF : PySem.W.keepIn K (.ref fF) = true) (bF : Binds K fdF ["table"] []) (gF : mg "fewest_of" = some (.ref fF)) :
    FnOk P w K mg base CX0 4 f fd ["self"] (spRPieces C) := by
  refine F.ok scRPieces (fun vs H Q E h => ?_) (fun cdv A outer s H vs Q E hr h => ?_)
  · obtain ⟨p, ns, Rs, rfl, _⟩ := h
    rfl
  · obtain ⟨p, ns, Rs, rfl, ⟨np, tl, RA⟩, N, b1, q⟩ := h
    obtain ⟨dx, hp⟩ := RA.ob
    have nd := scRPieces.nd
    have z5 := N.z5
    generalize ezs : ("0" : Str) :: ns = zs at *
    have few : zs.length ≤ 20 := by omega
    refine ⟨_, pss_one (ps_ret (pe_lc (own := [("table", 1)]) (g := gName 1) (tt := tYes) rfl nd (pi_list (pe_fld (pv 0) rfl)) (blkOk_by (N := nPieces) (sc := defScope sRPieces) (by decide +kernel))
            (fun _ _ _ _ _ => pg_name (i := 1) nd rfl (.inl rfl)) (fun _ _ _ _ _ => pts_nil) (fun _ _ _ _ _ => pe_call GF hr (by rfl) gF kF bF .nil pass0 (pa_cons (pv 1) pa_nil)))), ?_⟩
    obtain ⟨os, o1, o2, o3⟩ := id RA.tb
    refine ⟨.ref p, rfl, p, C, dx, _, _, rfl, hp, X.cl, X.nT, rflds_t _ _, tl, rfl, ⟨_, SqL.of o1⟩, fun D0 nD0 => ?_⟩
    refine lc_list (K := K) (a := tl) (xs := os.map V.ref) (fun j H' => Same H H' ∧ ∃ (fs : List Addr) (fo : Addr → List SRow), H' D0 = some (.lst (fs.map V.ref)) ∧ fs.Nodup ∧ (∀ a ∈ fs, a ≠ D0) ∧ FewOf H' fs fo (Rs.take j) zs)
      ⟨same_upd nD0, [], fun _ => [], upd_same, List.nodup_nil, fun a h => absurd h List.not_mem_nil, ⟨rfl, fun a h => absurd h List.not_mem_nil, fun i a O e => nomatch e⟩⟩ (fun j H' _ h => SqL.of (h.1 _ _ o1)) ?_ ?_
    · rintro j v Hc hj ⟨sc, fs, fo, hc, nodup, nD, FO⟩
      obtain ⟨a, rfl, ha, hai⟩ := pick_ref hj
      have hjO : j < Rs.length := by omega
      obtain ⟨O, hO'⟩ : ∃ O, Rs[j]? = some O := ⟨_, List.getElem?_eq_getElem hjO⟩
      have etake : Rs.take (j + 1) = Rs.take j ++ [O] := by rw [List.take_add_one, hO']; rfl
      refine ⟨rfl, ?_⟩
      unfold tYes
      refine iteT ?_
      refine ⟨.ref a, rfl, a, O, zs, rfl, (o3 j a O ha hO').same sc, few, fun H2 p Fr s2 np hFr sameF rin lenF _ => ?_⟩
      have hc2 := s2 _ _ hc
      have pD : p ≠ D0 := (ne_of_none hc np).symm
      have pfs : p ∉ fs := fun m => by
        obtain ⟨⟨ps, g, _⟩, _⟩ := FO.sys p m
        rw [np] at g
        cases g
      have flen : fs.length = j := by
        rw [FO.len, List.length_take]
        omega
      refine ⟨_, hc2, by rw [List.length_map, flen]; omega, (sc.trans s2).later nD0, fs ++ [p], Lo.put fo p Fr, by rw [upd_same, List.map_append]; rfl, ?_, ?_, ?_⟩
      · exact List.nodup_append.mpr ⟨nodup, List.nodup_cons.mpr ⟨List.not_mem_nil, List.nodup_nil⟩, fun x hx y hy e => pfs (by rw [List.mem_singleton.mp hy] at e; exact e ▸ hx)⟩
      · intro x hx
        rcases List.mem_append.mp hx with m | m
        · exact nD x m
        · exact List.mem_singleton.mp m ▸ pD
      · refine ⟨by rw [etake, List.length_append, List.length_append, FO.len]; rfl, fun x hx => ?_, fun i x X hx hX => ?_⟩
        · by_cases e : x = p
          · subst e
            rw [put_at]
            exact ⟨hFr.offL hc2 pD, rin, lenF⟩
          · rw [put_off e]
            have m : x ∈ fs := (List.mem_append.mp hx).elim id fun m => absurd (List.mem_singleton.mp m) e
            obtain ⟨g1, g2, g3⟩ := FO.sys x m
            exact ⟨(g1.sameT s2).offL hc2 (nD x m), g2, g3⟩
        · rw [etake] at hX
          by_cases k : i < fs.length
          · rw [List.getElem?_append_left k] at hx
            rw [List.getElem?_append_left (by rw [← FO.len]; exact k)] at hX
            have xp : x ≠ p := fun e => pfs (e ▸ List.mem_of_getElem? hx)
            rw [put_off xp]
            exact FO.same i x X hx hX
          · have hi2 : i = fs.length := by
              have := (List.getElem?_eq_some_iff.mp hx).1
              rw [List.length_append, List.length_singleton] at this
              omega
            subst hi2
            rw [List.getElem?_append_right (Nat.le_refl _), Nat.sub_self] at hx
            rw [FO.len, List.getElem?_append_right (Nat.le_refl _), Nat.sub_self] at hX
            have e1 : p = x := Option.some.inj hx
            have e2 : O = X := Option.some.inj hX
            subst e1 e2
            rw [put_at]
            exact sameF
    rintro Hc ⟨sc, fs, fo, hc, nodup, nD, FO⟩
    rw [List.length_map, o2, List.take_length] at FO
    refine q Hc D0 (fs.map fo) sc ⟨fs, hc, by rw [List.length_map], fun i l R a b => ?_⟩ (by rw [List.length_map, FO.len]) (fun u => ?_) (fun G hG => ?_) (fun G hG => ?_)
    · rw [List.getElem?_map, a] at b
      rw [← Option.some.inj b]
      exact (FO.sys l (List.mem_of_getElem? a)).1
    · rw [FO.us]
      constructor
      · rintro ⟨G, hG, hu⟩
        obtain ⟨a, ha, rfl⟩ := List.mem_map.mp hG
        exact ⟨a, ha, hu⟩
      · rintro ⟨a, ha, hu⟩
        exact ⟨fo a, List.mem_map.mpr ⟨a, ha, rfl⟩, hu⟩
    · obtain ⟨a, ha, rfl⟩ := List.mem_map.mp hG
      obtain ⟨g1, g2, g3⟩ := FO.sys a ha
      rw [← ezs, List.length_cons] at g3
      exact ⟨g2, g3⟩
    · obtain ⟨a, ha, rfl⟩ := List.mem_map.mp hG
      obtain ⟨i, hi, rfl⟩ := List.getElem_of_mem ha
      have hiR : i < Rs.length := by rw [← FO.len]; exact hi
      have hR := List.getElem?_eq_getElem hiR
      obtain ⟨v, hv⟩ := RA.tb.each _ (List.getElem_mem hiR)
      exact ⟨v, (FO.same i _ _ (List.getElem?_eq_getElem hi) hR v).mpr hv⟩
end
end Lo
namespace Lo
open PySem L2
abbrev sLWorth : Stmt := top 53
abbrev sLSolves : Stmt := top 54
abbrev sLPoint : Stmt := top 56
abbrev sLInside : Stmt := top 57
/-- a point: a dict of whole numbers -/
abbrev PtAt (H : Hp) (d : Addr) (ks : List Str) (val : Str → Int) : Prop := H d = some (.dK (dS ks fun x => .int (val x)))
/-- the value of a name or "0" -/
abbrev wz (val : Str → Int) : Str → Int := put val ("0" : Str) 0
section
variable {P : Program} {w : World} {K : PySem.W.Frag} {mg : Str → Option Value} {base : Heap}
/-! ### _law_worth, _law_solves -/
def spLWorth : Sp := fun vs H Q _ => ∃ (x : Str) (d : Addr) (ks : List Str) (val : Str → Int), vs = [.str x, .ref d] ∧ PtAt H d ks val ∧ x ∈ (("0" : Str) :: ks) ∧ Q (.int (wz val x)) H
theorem scLWorth : FnScope ["name", "point"] ["name", "point"] (defScope sLWorth) := ⟨rfl, rfl, rfl, by decide +kernel, rfl, by decide +kernel, by decide +kernel⟩
theorem ok_lworth {f : Addr} {fd : FuncData} (F : Fun K "_law_worth" "_law_worth" sLWorth f fd) : FnOk P w K mg base CX0 1 f fd ["name", "point"] spLWorth := by
  refine F.ok scLWorth (fun vs H Q E h => ?_) (fun cdv A outer s H vs Q E hr h => ?_)
  · obtain ⟨x, d, ks, val, rfl, _⟩ := h
    rfl
  · obtain ⟨x, d, ks, val, rfl, hP, hx, q⟩ := h
    have hu := hu_of hr
    refine ⟨_, pss_one (ps_ret (pe_ifExp (pt_cmpR op_eq (pv 0) pe_str (nomark _)) pe_int (pe_dget hu (pv 1) (pv 0) (fun _ _ => rfl)))), ?_⟩
    refine ⟨_, rfl, rfl, _, rfl, ite2 (fun e => ?_) (fun e => ?_)⟩
    · have ex : x = ("0" : Str) := V.str.inj (of_decide_eq_true e)
      subst ex
      unfold wz at q
      rw [put_at] at q
      exact q
    · have ex : x ≠ ("0" : Str) := fun z => e (decide_eq_true (by rw [z]))
      unfold wz at q
      rw [put_off ex] at q
      exact ⟨_, rfl, _, rfl, d, _, rfl, dget hP ((List.mem_cons.mp hx).elim (fun z => absurd z ex) id), q⟩
def spLSolves : Sp := fun vs H Q _ => ∃ (a d : Addr) (rows : List SRow) (ks : List Str) (val : Str → Int), vs = [.ref a, .ref d] ∧ Sys RowT H a rows ∧ PtAt H d ks val ∧ (∀ r ∈ rows, In2 ks r) ∧ ∀ b : Bool, (b = true ↔ Sat rows (wz val)) → Q (.bl b) H
abbrev nLSolves : List Str := ["system", "point", "left", "right", "limit"]
theorem scLSolves : FnScope nLSolves ["system", "point"] (defScope sLSolves) := ⟨rfl, rfl, rfl, by decide +kernel, rfl, by decide +kernel, by decide +kernel⟩
theorem ok_lsolves {f fW : Addr} {fd fdW : FuncData} (F : Fun K "_law_solves" "_law_solves" sLSolves f fd) (GW : FnOk P w K mg base CX0 1 fW fdW ["name", "point"] spLWorth) (kW : PySem.W.keepIn K (.ref fW) = true) (bW : Binds K fdW ["name", "point"] []) (gW : mg "_law_worth" = some (.ref fW)) :
    FnOk P w K mg base CX0 2 f fd ["system", "point"] spLSolves := by
  refine F.ok scLSolves (fun vs H Q E h => ?_) (fun cdv A outer s H vs Q E hr h => ?_)
  · obtain ⟨a, d, rows, ks, val, rfl, _⟩ := h
    rfl
  · obtain ⟨a, d, rows, ks, val, rfl, ⟨ps, hA, hl, hat⟩, hP, hk, q⟩ := h
    have nd := scLSolves.nd
    refine ⟨_, pss_cons (ps_for PassesOwn.never rfl (pi_list (pv 0)) (pg_tup rfl (pgs_cons (pg_name (i := 2) nd rfl (.inl rfl)) (pgs_cons (pg_name (i := 3) nd rfl (.inl rfl)) (pgs_cons (pg_name (i := 4) nd rfl (.inl rfl)) pgs_nil))))
        (pss_one (ps_if (pt_cmpR op_gt (pe_op op_sub (pe_call GW hr (by rfl) gW kW bW .nil pass0 (pa_cons (pv 2) (pa_cons (pv 1) pa_nil))) (pe_call GW hr (by rfl) gW kW bW .nil pass0 (pa_cons (pv 3) (pa_cons (pv 1) pa_nil)))) (pv 4) (nomark _))
          (pss_one (ps_ret pe_bl)) pss_nil)))
      (pss_one (ps_ret pe_bl)), ?_⟩
    refine ⟨.ref a, rfl, a, rfl, ⟨_, SqL.of hA⟩, for_list (K := K) (a := a) (xs := ps.map V.ref) (fun i σ H' => ∃ (y2 y3 y4 : Option V), σ = [some (.ref a), some (.ref d), y2, y3, y4] ∧ H' = H ∧ Sat (rows.take i) (wz val)) ⟨_, _, _, rfl, rfl, fun r h => absurd h List.not_mem_nil⟩ (fun i σ H' _ ⟨_, _, _, _, e, _⟩ => by rw [e]; exact SqL.of hA) ?_ ?_⟩
    · rintro i x σ H1 hi ⟨y2, y3, y4, rfl, rfl, prev⟩
      obtain ⟨p, ⟨x, y, c⟩, rfl, hp, hrr, hmem, hlt, hR⟩ := Sys.at hl hat hi
      obtain ⟨i1, i2⟩ := hk _ hmem
      refine ⟨p, _, rfl, SqT.of hR, rfl, _, _, rfl, _, _, rfl, _, _, rfl, rfl, ?_⟩
      refine ⟨.str x, rfl, .ref d, rfl, x, d, ks, val, rfl, hP, i1, ?_⟩
      refine ⟨.str y, rfl, .ref d, rfl, y, d, ks, val, rfl, hP, i2, ?_⟩
      refine ⟨_, _, rfl, rfl, .int c, rfl, _, _, rfl, rfl, _, rfl, ite2 (fun e => ?_) (fun e => ?_)⟩
      · refine q false ⟨(fun z => nomatch z), fun z => ?_⟩
        have h1 := z _ hmem
        have h2 := of_decide_eq_true e
        simp only at h1
        omega
      · have h2 : ¬ c < wz val x - wz val y := fun z => e (decide_eq_true z)
        refine ⟨_, _, _, rfl, rfl, fun r hr' => ?_⟩
        rw [List.take_add_one, hrr] at hr'
        rcases List.mem_append.mp hr' with m | m
        · exact prev r m
        · obtain rfl : r = (x, y, c) := by simpa using m
          show wz val x - wz val y ≤ c
          omega
    · rintro σ H1 ⟨y2, y3, y4, rfl, rfl, prev⟩
      rw [List.length_map, hl, List.take_length] at prev
      exact q true ⟨fun _ => prev, fun _ => rfl⟩
/-! ### _law_inside -/
def spLInside : Sp := fun vs H Q _ => ∃ (L d : Addr) (Ss : List (List SRow)) (ks : List Str) (val : Str → Int), vs = [.ref L, .ref d] ∧ Syss H L Ss ∧ PtAt H d ks val ∧ (∀ R ∈ Ss, ∀ r ∈ R, In2 ks r) ∧ Ss.length < sizeLine ∧ ∀ (H' : Hp) (b : Bool), Same H H' → (b = true ↔ US Ss (wz val)) → Q (.bl b) H'
abbrev nLInside : List Str := ["systems", "point", "system"]
theorem scLInside : FnScope nLInside ["systems", "point"] (defScope sLInside) := ⟨rfl, rfl, rfl, by decide +kernel, rfl, by decide +kernel, by decide +kernel⟩
theorem ok_linside {f fS : Addr} {fd fdS : FuncData} (F : Fun K "_law_inside" "_law_inside" sLInside f fd) (T : Blt mg) (hany : mg "any" = none) (GS : FnOk P w K mg base CX0 2 fS fdS ["system", "point"] spLSolves) (kS : PySem.W.keepIn K (.ref fS) = true) (bS : Binds K fdS ["system", "point"] []) (gS : mg "_law_solves" = some (.ref fS)) :
    FnOk P w K mg base CX0 3 f fd ["systems", "point"] spLInside := by
  refine F.ok scLInside (fun vs H Q E h => ?_) (fun cdv A outer s H vs Q E hr h => ?_)
  · obtain ⟨L, d, Ss, ks, val, rfl, _⟩ := h
    rfl
  · obtain ⟨L, d, Ss, ks, val, rfl, ⟨ls, h1, h2, h3⟩, hP, hk, few, q⟩ := h
    have nd := scLInside.nd
    refine ⟨_, pss_one (ps_ret (pe_callB (cr_any rfl) (by rfl) hany PyProof.Rows.boot_any (pa_cons (pe_lc (own := [("system", 2)]) (g := gName 2) (tt := tYes) rfl nd (pi_list (pv 0)) (blkOk_by (N := nLInside) (sc := defScope sLInside) (by decide +kernel))
        (fun _ _ _ _ _ => pg_name (i := 2) nd rfl (.inl rfl)) (fun _ _ _ _ _ => pts_nil) (fun _ _ _ _ _ => pe_call GS hr (by rfl) gS kS bS .nil pass0 (pa_cons (pv 2) (pa_cons (pv 1) pa_nil)))) pa_nil))), ?_⟩
    refine ⟨.ref L, rfl, L, rfl, ⟨_, SqL.of h1⟩, fun D nD => ?_⟩
    refine lc_list (K := K) (a := L) (xs := ls.map V.ref) (fun j H' => Same H H' ∧ ∃ bs : List Bool, H' D = some (.lst (bs.map V.bl)) ∧ bs.length = j ∧ (bs.any id = true ↔ US (Ss.take j) (wz val)))
      ⟨same_upd nD, [], upd_same, rfl, ⟨(fun z => nomatch z), fun z => absurd z us_nil⟩⟩ (fun j H' _ h => SqL.of (h.1 _ _ h1)) ?_ ?_
    · rintro j v Hc hj ⟨sc, bs, hb, lenb, eqb⟩
      obtain ⟨a, rfl, ha, hai⟩ := pick_ref hj
      obtain ⟨R, hR⟩ : ∃ R, Ss[j]? = some R := ⟨_, List.getElem?_eq_getElem (by omega)⟩
      have etake : Ss.take (j + 1) = Ss.take j ++ [R] := by rw [List.take_add_one, hR]; rfl
      refine ⟨rfl, ?_⟩
      unfold tYes
      refine iteT ?_
      refine ⟨_, rfl, _, rfl, a, d, R, ks, val, rfl, (h3 j a R ha hR).sameT sc, sc _ _ hP, hk R (List.mem_of_getElem? hR), fun b eb => ?_⟩
      refine ⟨_, hb, by rw [List.length_map, lenb]; omega, sc.later nD, bs ++ [b], by rw [upd_same, List.map_append]; rfl, by rw [List.length_append, lenb]; rfl, ?_⟩
      rw [etake, us_snoc, List.any_append, Bool.or_eq_true, eqb, ← eb]
      simp
    rintro Hc ⟨sc, bs, hb, lenb, eqb⟩
    rw [List.length_map, h2, List.take_length] at eqb
    exact ⟨D, bs, rfl, SqL.of hb, q Hc _ sc eqb⟩
end
end Lo
namespace Lo
open PySem L2
section
variable {P : Program} {w : World} {K : PySem.W.Frag} {mg : Str → Option Value} {base : Heap}
/-! ### _law_point -/
def spLPoint (K : PySem.W.Frag) : Sp := fun vs H Q _ => ∃ (s L : Addr) (at_ : Int) (ns : List Str), vs = [.ref s, .int at_, .ref L] ∧ Scr K H s ∧ H L = some (.lst (ns.map V.str)) ∧ ns.Nodup ∧ ns.length ≤ 4 ∧
  ∀ (H' : Hp) (d : Addr) (val : Str → Int), Same H H' → H d = none → PtAt H' d ns val → Q (.ref d) H'
abbrev nLPoint : List Str := ["script", "at", "names", "far", "found", "spot", "name"]
theorem scLPoint : FnScope nLPoint ["script", "at", "names"] (defScope sLPoint) := ⟨rfl, rfl, rfl, by decide +kernel, rfl, by decide +kernel, by decide +kernel⟩
theorem ok_lpoint {f fD : Addr} {fd fdD : FuncData} (F : Fun K "_law_point" "_law_point" sLPoint f fd) (T : Blt mg) (GD : FnOk P w K mg base CX0 1 fD fdD ["script", "at", "many"] (spDraw K)) (kD : PySem.W.keepIn K (.ref fD) = true) (bD : Binds K fdD ["script", "at", "many"] []) (gD : mg "_law_draw" = some (.ref fD)) :
    FnOk P w K mg base CX0 2 f fd ["script", "at", "names"] (spLPoint K) := by
  refine F.ok scLPoint (fun vs H Q E h => ?_) (fun cdv A outer s H vs Q E hr h => ?_)
  · obtain ⟨s, L, a, ns, rfl, _⟩ := h
    rfl
  · obtain ⟨s, L, a, ns, rfl, hS, hL, nodup, few, q⟩ := h
    have nd := scLPoint.nd
    have hu := hu_of hr
    refine ⟨_, pss_cons (ps_set (i := 3) nd rfl (.inl rfl) (pe_ix ix_tup (pe_tup (pa_cons pe_int (pa_cons pe_int (pa_cons pe_int (pa_cons (pe_op op_pow pe_int pe_int) pa_nil)))))
        (pe_call GD hr (by rfl) gD kD bD .nil pass0 (pa_cons (pv 0) (pa_cons (pv 1) (pa_cons pe_int pa_nil)))) (fun _ _ => rfl)))
      (pss_cons (ps_set (i := 4) nd rfl (.inl rfl) pe_dnewK)
      (pss_cons (ps_for PassesOwn.never rfl (pi_enum (by rfl) T.enum (pa_cons (pv 2) pa_nil)) (pg_tup rfl (pgs_cons (pg_name (i := 5) nd rfl (.inl rfl)) (pgs_cons (pg_name (i := 6) nd rfl (.inl rfl)) pgs_nil)))
        (pss_one (ps_dput hu (pv 4) (pv 6) (pe_op op_add (pe_op op_sub (pe_call GD hr (by rfl) gD kD bD .nil pass0 (pa_cons (pv 0) (pa_cons (pe_op op_add (pe_op op_add (pv 1) pe_int) (pv 5)) (pa_cons pe_int pa_nil)))) pe_int)
          (pe_op op_mul (pv 3) (pe_op op_sub (pe_call GD hr (by rfl) gD kD bD .nil pass0 (pa_cons (pv 0) (pa_cons (pe_op op_add (pe_op op_add (pv 1) pe_int) (pv 5)) (pa_cons pe_int pa_nil)))) pe_int))) rfl)))
      (pss_one (ps_ret (pv 4))))), ?_⟩
    refine ⟨_, _, rfl, rfl, ⟨by decide, by decide, by decide⟩, by show 4 ≤ sizeLine; decide, fun sc nsc => ?_⟩
    have sD := same_upd (o := HO.tup [V.int 0, V.int 0, V.int 1000, V.int (10 ^ Int.toNat 15)]) nsc
    refine ⟨.ref s, rfl, .int a, rfl, s, a, 4, rfl, hS.same sD, by decide, fun H4 k s4 h0 h1 => ?_⟩
    have et := s4 _ _ (upd_same (H := H) (a := sc) (o := HO.tup [V.int 0, V.int 0, V.int 1000, V.int (10 ^ Int.toNat 15)]))
    obtain ⟨far, hat, hs0, hs1⟩ : ∃ far : Int, atI [V.int 0, V.int 0, V.int 1000, V.int (10 ^ Int.toNat 15)] k = some (.int far) ∧ -(2 ^ 64) < far ∧ far < 2 ^ 64 := by
      have hk : k = ((0 : Nat) : Int) ∨ k = ((1 : Nat) : Int) ∨ k = ((2 : Nat) : Int) ∨ k = ((3 : Nat) : Int) := by omega
      rcases hk with rfl | rfl | rfl | rfl
      · exact ⟨0, atI_nat rfl, by decide, by decide⟩
      · exact ⟨0, atI_nat rfl, by decide, by decide⟩
      · exact ⟨1000, atI_nat rfl, by decide, by decide⟩
      · exact ⟨10 ^ Int.toNat 15, atI_nat rfl, by decide, by decide⟩
    refine ⟨sc, _, _, _, rfl, rfl, SqT.of et, hat, ?_⟩
    have s04 := sD.trans s4
    refine fun d nd4 => ?_
    have nd0 := s04.free nd4
    have s5 := s04.trans (same_upd (o := HO.dK []) nd4)
    have hL5 := s5 _ _ hL
    refine ⟨_, rfl, L, _, rfl, SqL.of hL5, for_it walk_enum (fun i σ H' => ∃ (y5 y6 : Option V) (val : Str → Int), σ = [some (.ref s), some (.int a), some (.ref L), some (.int far), some (.ref d), y5, y6] ∧ Same H H' ∧ H d = none ∧ PtAt H' d (ns.take i) val)
      ⟨none, none, fun _ => 0, rfl, s5, nd0, upd_same⟩ (fun i σ H' _ ⟨_, _, _, _, sm, _⟩ => SqL.of (sm _ _ hL)) ?_ ?_⟩
    · rintro i x σ H2 H3 hi ⟨y5, y6, val, rfl, s2, _, hd2⟩ ⟨tp, x1, x2, rfl, ntp, rfl, e1, e2⟩
      cases e1
      obtain ⟨hi', rfl, etake, hz⟩ := pickS e2
      have sT := same_upd (o := HO.tup [V.int (i : Nat), V.str ns[i]]) ntp
      have s3 := s2.trans sT
      have hd3 := sT _ _ hd2
      refine ⟨tp, _, rfl, SqT.of upd_same, rfl, _, _, rfl, _, _, rfl, rfl, ?_⟩
      generalize upd H2 tp (.tup [V.int (i : Nat), V.str ns[i]]) = H3 at *
      refine ⟨.ref s, rfl, _, rfl, _, _, rfl, rfl, _, rfl, _, _, rfl, rfl, s, _, 13, rfl, hS.same s3, by decide, fun H4 k1 s4' _ _ => ?_⟩
      have s34 := s3.trans s4'
      refine ⟨_, _, rfl, rfl, _, rfl, .ref s, rfl, _, rfl, _, _, rfl, rfl, _, rfl, _, _, rfl, rfl, s, _, 5, rfl, hS.same s34, by decide, fun H5 k2 s5' _ _ => ?_⟩
      have s35 := s34.trans s5'
      have hd5 := s5' _ _ (s4' _ _ hd3)
      refine ⟨_, _, rfl, rfl, _, _, rfl, rfl, .inl ⟨hs0, hs1⟩, _, _, rfl, rfl, ?_⟩
      have hout : ns[i] ∉ ns.take i := fun m => by
        have h1 := nodup
        rw [← List.take_append_drop i ns] at h1
        exact (List.nodup_append.mp h1).2.2 _ m _ (by rw [List.drop_eq_getElem_cons hi']; exact List.mem_cons_self) rfl
      have e1 : addN (ns.take i) ns[i] = ns.take (i + 1) := by
        unfold addN
        rw [if_neg hout, etake]
      refine ⟨_, rfl, _, rfl, d, _, rfl, dput ns[i] _ hd5 (by rw [List.length_take]; omega), ?_⟩
      refine ⟨_, _, put val ns[i] (k1 - 6 + far * (k2 - 2)), rfl, s35.later nd0, nd0, ?_⟩
      unfold PtAt
      rw [upd_same, e1]
      exact congrArg (fun g => some (HO.dK (dS (ns.take (i + 1)) g))) (put_map (fun n : Int => V.int n) ..)
    · rintro σ H2 ⟨y5, y6, val, rfl, s2, _, hd2⟩
      rw [List.length_map, List.take_length] at hd2
      exact ⟨_, rfl, q H2 d val s2 nd0 hd2⟩
end
end Lo
namespace Lo
open PySem PySem.Spec L2 PyProof.Rows
/-- l == [], whatever stands in l -/
def rEqNil (K : PySem.W.Frag) : R2 := fun x y H Q => ∃ a b xs, x = .ref a ∧ y = .ref b ∧ SqL K H a xs ∧ SqL K H b [] ∧ Q (.bl xs.isEmpty) H
theorem op_eqNil {X : Cx} (hu : X.A.units < cLine) : OpR X (compareOp .Eq) (rEqNil X.K) := by
  intro pins s σ H x y v u Q I rx ry h
  obtain ⟨a, b, xs, rfl, rfl, hx, hy, q⟩ := h
  cases rx
  cases ry
  obtain ⟨its, r1, p1, _⟩ := I.list hx
  obtain ⟨its2, r2, p2, _⟩ := I.list hy
  cases r2
  cases xs with
  | nil =>
    cases r1
    refine SeqAt.eq_listAt (e := fun _ => true) p1.isList p2.isList rfl hu ?_ ?_
    · intro i
      simp
    · exact ⟨.bl true, H, I, rfl, q⟩
  | cons x xs =>
    cases r1 with
    | cons rx rt =>
      exact SeqAt.eq_list_lengthsAt p1.isList p2.isList (by simp) hu ⟨.bl false, H, I, rfl, q⟩
end Lo
namespace Lo
open PySem PySem.Spec L2 PyProof.Rows
theorem cut_drop {xs : List V} {k : Nat} (h : k ≤ xs.length) : cutV xs (some ((k : Nat) : Int)) none = xs.drop k := by
  unfold cutV
  rw [HT.sIx_nat, HT.sIx_none, Nat.min_eq_left h]
  rw [List.take_of_length_le]
  rw [List.length_drop]
  exact Nat.le_refl _
theorem cut_drop' {xs : List V} {k : Nat} : cutV xs (some ((k : Nat) : Int)) none = xs.drop k := by
  by_cases h : k ≤ xs.length
  · exact cut_drop h
  · unfold cutV
    rw [HT.sIx_nat, HT.sIx_none, Nat.min_eq_right (by omega), Nat.sub_self, List.take_zero, List.drop_eq_nil_of_le (by omega)]
theorem cut_take {xs : List V} {k : Nat} : cutV xs none (some ((k : Nat) : Int)) = xs.take k := by
  unfold cutV
  rw [HT.sIx_nat, HT.sIx_none, List.drop_zero, Nat.sub_zero]
  by_cases h : k ≤ xs.length
  · rw [Nat.min_eq_left h]
  · rw [Nat.min_eq_right (by omega), List.take_of_length_le (Nat.le_refl _), List.take_of_length_le (by omega)]
theorem names_of_pool {xs : List Str} (h : xs ∈ pools) {k : Nat} (h2 : 2 ≤ k) (h4 : k ≤ 4) : Names (xs.take k) := by
  have l := pools_len xs h
  refine ⟨by rw [List.length_take]; omega, by rw [List.length_take]; omega, (List.take_sublist k xs).nodup (pools_nd xs h), fun x hx => pools_ok xs h x (List.mem_of_mem_take hx)⟩
theorem Names.toR {ns : List Str} (N : Names ns) : NamesR ns := ⟨N.few, N.nd, fun x hx => ⟨(N.ok x hx).1, (N.ok x hx).2.1, (N.ok x hx).2.2.2.2⟩⟩
theorem eqv_rowsN (R : List SRow) : PyData.eqv (rowsD R) (.list []) = decide (R = []) := by
  unfold rowsD
  cases R <;> simp [PyData.eqv, PyData.eqvAll]
section
variable {X : Cx}
/-- o.m() by a positional promise -/
def tMethR0 (C : Addr) (m : Str) (sp : Sp) (E : XK) (ta : TE) : TE := fun σ H Q => ta σ H fun x H1 => ∃ a dx fs, x = .ref a ∧ H1 a = some (.ins C dx fs) ∧ fs.lookup m = none ∧ sp [x] H1 Q E
theorem pe_methR0 {CX : CXT} {k : Nat} {f C : Addr} {sp : Sp} {E : XK} {m : Str} {pos apos : Pos} {o : Expr} {ta : TE} {pl : Sem Bool} (he : PE X o ta) (c : Cls X.K C) (hm : Meth X.K C m f) (F : FnR X.prog X.w X.K X.mg X.base CX k f sp) (hr : Room k X.A) (hx : Passes CX X E)
    (ht : eval (.Call (.Attribute o m apos) [] [] pos) X.env = (do
      let ov ← eval o X.env
      standAt apos.atName
      let (f, first) ← holding [ov] (getMethod ov m pl)
      callWith pos f first (backTo pos (starEach [] X.env)) (backToKw pos (keywordEach [] X.env))) := by rfl) :
    PE X (.Call (.Attribute o m apos) [] [] pos) (tMethR0 C m sp E ta) := by
  refine ⟨fun pins s σ H Q I h => ?_⟩
  refine PySem.W.methodCall_KW (pl := pl) (thn (he.run pins s σ H _ I h) fun u s1 ⟨x, H1, I1, rx, a, dx, fs, ex, ea, l, q⟩ => ?_) ht
  subst ex
  obtain rfl : u = Value.ref a := rx
  refine getmeth_ok I1 ea c hm l ?_
  exact PySem.W.callWith_K0 (first := [.ref a]) I1.kIn hm.kp (wpAny_call (run_fnR (us := [.ref a]) (vs := [.ref a]) F hr hx I1 (.cons rfl .nil) q))
end
end Lo
set_option maxHeartbeats 1000000
namespace Lo
open PySem L2
abbrev sMet : Stmt := top 17
abbrev sBothOf : Stmt := top 30
/-- each of some dicts once, to be locked -/
theorem lock_list {H : Hp} : ∀ as : List Addr, (∀ a ∈ as, ∃ kvs, H a = some (.dK kvs)) → ∃ ds, LockOk ds H ∧ Dks ds ∧ ∀ a, inD ds a ↔ a ∈ as
  | [], _ => ⟨[], ⟨List.nodup_nil, fun p h => (nomatch h), fun p h => nomatch h⟩, (fun p h => nomatch h), fun a => Iff.rfl⟩
  | a :: as, h => by
    obtain ⟨ds, k, dk, m⟩ := lock_list as fun b hb => h b (List.mem_cons_of_mem _ hb)
    by_cases c : inD ds a
    · refine ⟨ds, k, dk, fun b => ⟨fun z => List.mem_cons_of_mem _ ((m b).mp z), fun z => ?_⟩⟩
      rcases List.mem_cons.mp z with e | e
      · rw [e]; exact c
      · exact (m b).mpr e
    · obtain ⟨kvs, e⟩ := h a List.mem_cons_self
      refine ⟨(a, .dK kvs) :: ds, ⟨List.nodup_cons.mpr ⟨c, k.nd⟩, fun p hp => ?_, fun p hp => ?_⟩, fun p hp => ?_, fun b => ?_⟩
      · rcases List.mem_cons.mp hp with z | z
        · rw [z]; exact e
        · exact k.at_ p z
      · rcases List.mem_cons.mp hp with z | z
        · rw [z]; exact trivial
        · exact k.mu p z
      · rcases List.mem_cons.mp hp with z | z
        · rw [z]; exact ⟨kvs, rfl⟩
        · exact dk p z
      · show b ∈ a :: ds.map (·.1) ↔ _
        rw [List.mem_cons, List.mem_cons]
        exact ⟨fun z => z.elim .inl fun z => .inr ((m b).mp z), fun z => z.elim .inl fun z => .inr ((m b).mpr z)⟩
theorem tab_keep {H H' : Hp} {t : Addr} {R : List SRow} {zs : List Str} (h : TabR H t R zs) (k : ∀ b, ObT H t b → H' b = H b) : TabR H' t R zs ∧ ∀ A, AvT A H t → AvT A H' t := by
  obtain ⟨ns, ra, rk, rv, G, h2, h3, h4, h5⟩ := h
  have e := k t (G.obj.mpr (.inl rfl))
  have G' : TabG H' t ns ra rk rv := ⟨by rw [e]; exact G.dict, G.nd, fun x hx => by rw [k _ (G.obj.mpr (.inr ⟨x, hx, rfl⟩))]; exact G.row x hx, G.off, G.rnd⟩
  exact ⟨⟨ns, ra, rk, rv, G', h2, h3, h4, h5⟩, fun A a b hb => a b (G.obj.mpr (G'.obj.mp hb))⟩
theorem tab_not {H : Hp} {t a : Addr} {R : List SRow} {zs : List Str} {od : Obj} {u : HO} (h : TabR H t R zs) (e : H a = some (.frz od u)) : ¬ ObT H t a := by
  obtain ⟨ns, ra, rk, rv, G, _⟩ := h
  intro z
  rcases G.obj.mp z with z | ⟨x, hx, z⟩
  · rw [z, G.dict] at e
    cases e
  · rw [z, G.row x hx] at e
    cases e
section
variable {P : Program} {w : World} {K : PySem.W.Frag} {mg : Str → Option Value} {base : Heap}
/-! ### met -/
def spMet : Sp := fun vs H Q _ => ∃ (t o : Addr) (R O : List SRow) (zs : List Str), vs = [.ref t, .ref o] ∧ TabR H t R zs ∧ TabR H o O zs ∧ zs.length ≤ 20 ∧ AvT (ObT H o) H t ∧
  ∀ (H' : Hp) (x : V), Same H H' → ((x = .non ∧ ∀ u, ¬ (Sat R u ∧ Sat O u)) ∨ ∃ d U, x = .ref d ∧ TabR H' d U zs ∧ ∀ u, Sat U u ↔ Sat R u ∧ Sat O u) → Q x H'
abbrev nMet : List Str := ["one", "other", "table", "left", "row", "right", "limit", "known"]
theorem scMet : FnScope nMet ["one", "other"] (defScope sMet) := ⟨rfl, rfl, rfl, by decide +kernel, rfl, by decide +kernel, by decide +kernel⟩
theorem ok_met {f fT : Addr} {fd fdT : FuncData} (F : Fun K "met" "met" sMet f fd)
    (GT : FnOk P w K mg base CX0 3 fT fdT ["table", "left", "right", "limit"] spTightR) (kT : PySem.W.keepIn K (.ref fT) = true) (bT : Binds K fdT ["table", "left", "right", "limit"] []) (gT : mg "tightened" = some (.ref fT)) :
    FnOk P w K mg base CX0 4 f fd ["one", "other"] spMet := by
  refine F.ok scMet (fun vs H Q E h => ?_) (fun cdv A outer s H vs Q E hr h => ?_)
  · obtain ⟨t, o, R, O, zs, rfl, _⟩ := h
    rfl
  · obtain ⟨t, o, R, O, zs, rfl, hT, hO, few, av, q⟩ := h
    have nd := scMet.nd
    have hu := hu_of hr
    refine ⟨_, pss_cons (ps_set (i := 2) nd rfl (.inl rfl) (pv 0))
      (pss_cons (ps_lock (ps_for PassesOwn.never rfl (pi_items (pv 1)) (pg_tup rfl (pgs_cons (pg_name (i := 3) nd rfl (.inl rfl)) (pgs_cons (pg_name (i := 4) nd rfl (.inl rfl)) pgs_nil)))
        (pss_one (ps_lock (ps_for PassesOwn.never rfl (pi_items (pv 4)) (pg_tup rfl (pgs_cons (pg_name (i := 5) nd rfl (.inl rfl)) (pgs_cons (pg_name (i := 6) nd rfl (.inl rfl)) pgs_nil)))
          (pss_cons (ps_if (pt_cmpR op_eq (pv 3) (pv 5) (nomark _)) (pss_one ps_continue) pss_nil)
          (pss_cons (ps_set (i := 7) nd rfl (.inl rfl) (pe_dget1 hu (pv 2) (pv 3) ⟨rfl, rfl, rfl, rfl⟩))
          (pss_cons (ps_if (PW.pt (pw_and (pt_cmpR op_notN (pv 7) pe_non (nomark _)) (pw_and (pt_cmp (pc_din hu (pv 5) (pv 7))) (pw_and1 (pt_cmpR op_le (pe_dget hu (pv 7) (pv 5) (fun _ _ => rfl)) (pv 6) (nomark _)))))) (pss_one ps_continue) pss_nil)
          (pss_cons (ps_set (i := 2) nd rfl (.inl rfl) (pe_callL2 GT hr (by rfl) gT kT bT .nil pass0 (pa_cons (pv 2) (pa_cons (pv 3) (pa_cons (pv 5) (pa_cons (pv 6) pa_nil))))))
          (pss_one (ps_if (pt_cmpR op_isN (pv 2) pe_non (nomark _)) (pss_one (ps_ret pe_non)) pss_nil)))))))))))
      (pss_one (ps_ret (pv 2)))), ?_⟩
    obtain ⟨os, ro, ko, vo, S⟩ := hO.opened
    have fewO := S.few
    obtain ⟨vv, hvv⟩ := S.sat
    have obO : ∀ a, ObT H o a ↔ a = o ∨ ∃ x ∈ os, a = ro x := fun a => S.G.obj
    have rows : ∀ u : Str → Int, Sat O u → ∀ x ∈ os, ∀ y ∈ ko x, u x - u y ≤ vo x y := fun u h x hx y hy => (S.eq u).mp h (x, y, vo x y) (mem_entr.mpr ⟨hx, hy, rfl⟩)
    refine ⟨.ref t, rfl, ?_⟩
    refine ⟨o, _, S.G.dict, trivial, fun od => ?_⟩
    have back1 : ∀ {H' : Hp}, SameX o H H' → Same H (upd H' o (.dK (dS os fun x => .ref (ro x)))) := fun sx => sameX_back S.G.dict sx
    have i0 := tab_keep (H' := upd H o (.frz od (.dK (dS os fun x => .ref (ro x))))) hT fun b hb => upd_ne fun e => av b hb ((obO b).mpr (.inl e))
    refine ⟨.ref o, rfl, o, od, _, rfl, upd_same, for_it walk_items (fun i σ H' => ∃ (y3 y4 y5 y6 y7 : Option V) (tb : Addr) (U : List SRow), σ = [some (.ref t), some (.ref o), some (.ref tb), y3, y4, y5, y6, y7] ∧ SameX o H H' ∧ H' o = some (.frz od (.dK (dS os fun x => .ref (ro x)))) ∧ TabR H' tb U zs ∧ AvT (ObT H o) H' tb ∧ ∀ u, Sat U u ↔ Sat R u ∧ ∀ x ∈ os.take i, ∀ y ∈ ko x, u x - u y ≤ vo x y)
      ⟨none, none, none, none, none, t, R, rfl, fun b u hb e => by rw [upd_ne hb]; exact e, upd_same, i0.1, i0.2 _ av, fun u => ⟨fun h => ⟨h, fun x hx => absurd hx List.not_mem_nil⟩, fun h => h.1⟩⟩ (fun i σ H' _ ⟨_, _, _, _, _, _, _, _, _, e, _⟩ => e) ?_ ?_⟩
    · rintro i z σ H1 H2 hi ⟨y3, y4, y5, y6, y7, tb, U, rfl, s1, ho1, hT1, av1, us1⟩ ⟨tp, x1, x2, rfl, ntp, rfl, e1, e2⟩
      have hi' : i < os.length := by
        rw [dS_len] at hi
        exact hi
      dsimp only at e1 e2
      rw [dS_at hi'] at e1 e2
      obtain rfl := Option.some.inj e1
      obtain rfl := Option.some.inj e2
      have sT := same_upd (o := HO.tup [kV (Sum.inr os[i]), V.ref (ro os[i])]) ntp
      have etake : os.take (i + 1) = os.take i ++ [os[i]] := by rw [List.take_add_one, List.getElem?_eq_getElem hi']; rfl
      have hx : os[i] ∈ os := List.getElem_mem hi'
      have s2 := s1.trans (same_x sT)
      have ho2 := sT _ _ ho1
      have hT2 := hT1.same sT
      have av2 := av1.same sT hT1
      refine ⟨tp, _, rfl, SqT.of upd_same, rfl, _, _, rfl, _, _, rfl, rfl, ?_⟩
      rw [etake]
      generalize upd H1 tp (.tup [kV (Sum.inr os[i]), V.ref (ro os[i])]) = H2 at *
      generalize os[i] = x at *
      have hrow := s2 _ _ (S.G.off x hx) (S.G.row x hx)
      refine ⟨ro x, _, hrow, trivial, fun od2 => ?_⟩
      have i1 := tab_keep (H' := upd H2 (ro x) (.frz od2 (.dK (dS (ko x) fun y => .int (vo x y))))) hT2 fun b hb => upd_ne fun e => av2 b hb ((obO b).mpr (.inr ⟨x, hx, e⟩))
      have back2 : ∀ {H' : Hp}, SameX (ro x) H2 H' → Same H (upd (upd H' (ro x) (.dK (dS (ko x) fun y => .int (vo x y)))) o (.dK (dS os fun x => .ref (ro x)))) := fun sx => back1 (s2.trans (same_x (sameX_back hrow sx)))
      refine ⟨.ref (ro x), rfl, ro x, od2, _, rfl, upd_same, for_it walk_items (fun j σ H' => ∃ (y5 y6 y7 : Option V) (tb : Addr) (U : List SRow), σ = [some (.ref t), some (.ref o), some (.ref tb), some (.str x), some (.ref (ro x)), y5, y6, y7] ∧ SameX (ro x) H2 H' ∧ H' (ro x) = some (.frz od2 (.dK (dS (ko x) fun y => .int (vo x y)))) ∧ TabR H' tb U zs ∧ AvT (ObT H o) H' tb ∧
          ∀ u, Sat U u ↔ Sat R u ∧ (∀ x' ∈ os.take i, ∀ y ∈ ko x', u x' - u y ≤ vo x' y) ∧ ∀ y ∈ (ko x).take j, u x - u y ≤ vo x y)
        ⟨y5, y6, y7, tb, U, rfl, fun b u hb e => by rw [upd_ne hb]; exact e, upd_same, i1.1, i1.2 _ av2, fun u => ⟨fun h => ⟨((us1 u).mp h).1, ((us1 u).mp h).2, fun y hy => absurd hy List.not_mem_nil⟩, fun h => (us1 u).mpr ⟨h.1, h.2.1⟩⟩⟩ (fun j σ H' _ ⟨_, _, _, _, _, _, _, e, _⟩ => e) ?_ ?_⟩
      · rintro j z σ H3 H4 hj ⟨y5, y6, y7, tb, U, rfl, s3, hr3, hT3, av3, us3⟩ ⟨tq, w1, w2, rfl, ntq, rfl, d1, d2⟩
        have hj' : j < (ko x).length := by
          rw [dS_len] at hj
          exact hj
        dsimp only at d1 d2
        rw [dS_at hj'] at d1 d2
        obtain rfl := Option.some.inj d1
        obtain rfl := Option.some.inj d2
        have sT2 := same_upd (o := HO.tup [kV (Sum.inr (ko x)[j]), V.int (vo x (ko x)[j])]) ntq
        have etk : (ko x).take (j + 1) = (ko x).take j ++ [(ko x)[j]] := by rw [List.take_add_one, List.getElem?_eq_getElem hj']; rfl
        have hy : (ko x)[j] ∈ ko x := List.getElem_mem hj'
        have s4 := s3.trans (same_x sT2)
        have hr4 := sT2 _ _ hr3
        have hT4 := hT3.same sT2
        have av4 := av3.same sT2 hT3
        refine ⟨tq, _, rfl, SqT.of upd_same, rfl, _, _, rfl, _, _, rfl, rfl, ?_⟩
        generalize upd H3 tq (.tup [kV (Sum.inr (ko x)[j]), V.int (vo x (ko x)[j])]) = H4 at *
        generalize (ko x)[j] = y at *
        have ho4 := s4 _ _ (S.G.off x hx).symm ho2
        have skip : (∀ u, Sat U u → u x - u y ≤ vo x y) → ∀ u, Sat U u ↔ Sat R u ∧ (∀ x' ∈ os.take i, ∀ y ∈ ko x', u x' - u y ≤ vo x' y) ∧ ∀ y' ∈ (ko x).take (j + 1), u x - u y' ≤ vo x y' := fun h u => by
          rw [etk]
          constructor
          · intro hu'
            obtain ⟨a1, a2, a3⟩ := (us3 u).mp hu'
            exact ⟨a1, a2, fun y' hy' => (List.mem_append.mp hy').elim (a3 y') fun z => List.mem_singleton.mp z ▸ h u hu'⟩
          · rintro ⟨a1, a2, a3⟩
            exact (us3 u).mpr ⟨a1, a2, fun y' hy' => a3 y' (List.mem_append_left _ hy')⟩
        refine ⟨.str x, rfl, .str y, rfl, rfl, _, rfl, ite2 (fun e => ?_) (fun e => ?_)⟩
        · have e : x = y := V.str.inj (of_decide_eq_true e)
          refine ⟨_, _, _, tb, U, rfl, s4, hr4, hT4, av4, skip fun u _ => ?_⟩
          rw [← e, (S.S.self x hx).2]
          omega
        have nxy : x ≠ y := fun z => e (decide_eq_true (by rw [z]))
        obtain ⟨lds, lk, dk, lm⟩ := lock_list (H := H4) ((os.map ro).filter fun a => decide (a ≠ ro x)) fun a ha => by
          obtain ⟨h1, h2⟩ := List.mem_filter.mp ha
          obtain ⟨x', hx', rfl⟩ := List.mem_map.mp h1
          exact ⟨_, s4 _ _ (by simpa using h2) (s2 _ _ (S.G.off x' hx') (S.G.row x' hx'))⟩
        have avd : AvT (inD lds) H4 tb := fun a ha hin => by
          obtain ⟨x', hx', e⟩ := List.mem_map.mp (List.mem_filter.mp ((lm a).mp hin)).1
          exact av4 a ha ((obO a).mpr (.inr ⟨x', hx', e.symm⟩))
        obtain ⟨ns, ra, rk, rv, T⟩ := hT4.opened
        refine ⟨.ref tb, rfl, tb, rfl, .inl ⟨_, Rd.of T.G.dict⟩, .str x, rfl, _, rgetI x (.inl T.G.dict), ?_⟩
        by_cases kx : x ∈ ns
        · rw [if_pos kx]
          refine ⟨.ref (ra x), rfl, rfl, _, rfl, iteT ?_⟩
          refine ⟨.str y, rfl, .ref (ra x), rfl, ra x, _, rfl, rgetI y (.inl (T.G.row x kx)), _, rfl, ?_⟩
          by_cases ky : y ∈ rk x
          · rw [if_pos ky]
            refine iteT ?_
            refine ⟨.ref (ra x), rfl, .str y, rfl, ra x, _, rfl, rget (.inl (T.G.row x kx)) ky, .int (vo x y), rfl, _, _, rfl, rfl, _, rfl, ite2 (fun c => ?_) (fun c => ?_)⟩
            · refine ⟨_, _, _, tb, U, rfl, s4, hr4, hT4, av4, skip fun u hu' => ?_⟩
              have h1 := (T.eq u).mp hu' (x, y, rv x y) (mem_entr.mpr ⟨kx, ky, rfl⟩)
              have h2 : rv x y ≤ vo x y := of_decide_eq_true c
              dsimp only at h1
              omega
            · refine ⟨.ref tb, rfl, .str x, rfl, .str y, rfl, .int (vo x y), rfl, lds, lk, fun HL hl => ⟨tb, x, y, vo x y, U, zs, rfl, lock_tab hl hT4 avd, nxy, S.sub x hx, S.sub y (S.S.sub x hx y hy), few, fun H5' v5 s5' hv => ⟨lock_keeps hl s5', fun H5 hul => ?_⟩⟩⟩
              have s5 := lock_same lk hl s5' hul
              have hr5 := s5 _ _ hr4
              have ho5 := s5 _ _ ho4
              have sx5 := s4.trans (same_x s5)
              rcases hv with ⟨rfl, no⟩ | ⟨d, rfl, hd⟩
              · refine ⟨.non, rfl, rfl, _, rfl, iteT ⟨hr5, ?_, ?_⟩⟩
                · rw [upd_ne (S.G.off x hx).symm]
                  exact ho5
                · refine q _ _ (back2 sx5) (.inl ⟨rfl, fun u hu => no u ?_⟩)
                  exact sat_app.mpr ⟨(us3 u).mpr ⟨hu.1, fun x' hx' y' hy' => rows u hu.2 x' (List.mem_of_mem_take hx') y' hy', fun y' hy' => rows u hu.2 x hx y' (List.mem_of_mem_take hy')⟩, rows u hu.2 x hx y hy⟩
              · obtain ⟨hd', avd'⟩ := unlock_tab hl s5' hul hd
                refine ⟨.ref d, rfl, rfl, _, rfl, iteF ⟨_, _, _, d, U ++ [(x, y, vo x y)], rfl, sx5, hr5, hd', fun a ha hA' => ?_, fun u => ?_⟩⟩
                · rcases (obO a).mp hA' with e | ⟨x', hx', e⟩
                  · exact tab_not hd' (e ▸ ho5) ha
                  · by_cases c : ro x' = ro x
                    · exact tab_not hd' (e ▸ c ▸ hr5) ha
                    · exact avd' a ha ((lm a).mpr (List.mem_filter.mpr ⟨List.mem_map.mpr ⟨x', hx', e.symm⟩, by rw [e]; simpa using c⟩))
                · rw [sat_app, us3 u, etk]
                  constructor
                  · rintro ⟨⟨a1, a2, a3⟩, a4⟩
                    exact ⟨a1, a2, fun y' hy' => (List.mem_append.mp hy').elim (a3 y') fun z => List.mem_singleton.mp z ▸ a4⟩
                  · rintro ⟨a1, a2, a3⟩
                    exact ⟨⟨a1, a2, fun y' hy' => a3 y' (List.mem_append_left _ hy')⟩, a3 y (List.mem_append_right _ (List.mem_singleton.mpr rfl))⟩
          · rw [if_neg ky]
            refine iteF (iteF ?_)
            refine ⟨.ref tb, rfl, .str x, rfl, .str y, rfl, .int (vo x y), rfl, lds, lk, fun HL hl => ⟨tb, x, y, vo x y, U, zs, rfl, lock_tab hl hT4 avd, nxy, S.sub x hx, S.sub y (S.S.sub x hx y hy), few, fun H5' v5 s5' hv => ⟨lock_keeps hl s5', fun H5 hul => ?_⟩⟩⟩
            have s5 := lock_same lk hl s5' hul
            have hr5 := s5 _ _ hr4
            have ho5 := s5 _ _ ho4
            have sx5 := s4.trans (same_x s5)
            rcases hv with ⟨rfl, no⟩ | ⟨d, rfl, hd⟩
            · refine ⟨.non, rfl, rfl, _, rfl, iteT ⟨hr5, ?_, ?_⟩⟩
              · rw [upd_ne (S.G.off x hx).symm]
                exact ho5
              · refine q _ _ (back2 sx5) (.inl ⟨rfl, fun u hu => no u ?_⟩)
                exact sat_app.mpr ⟨(us3 u).mpr ⟨hu.1, fun x' hx' y' hy' => rows u hu.2 x' (List.mem_of_mem_take hx') y' hy', fun y' hy' => rows u hu.2 x hx y' (List.mem_of_mem_take hy')⟩, rows u hu.2 x hx y hy⟩
            · obtain ⟨hd', avd'⟩ := unlock_tab hl s5' hul hd
              refine ⟨.ref d, rfl, rfl, _, rfl, iteF ⟨_, _, _, d, U ++ [(x, y, vo x y)], rfl, sx5, hr5, hd', fun a ha hA' => ?_, fun u => ?_⟩⟩
              · rcases (obO a).mp hA' with e | ⟨x', hx', e⟩
                · exact tab_not hd' (e ▸ ho5) ha
                · by_cases c : ro x' = ro x
                  · exact tab_not hd' (e ▸ c ▸ hr5) ha
                  · exact avd' a ha ((lm a).mpr (List.mem_filter.mpr ⟨List.mem_map.mpr ⟨x', hx', e.symm⟩, by rw [e]; simpa using c⟩))
              · rw [sat_app, us3 u, etk]
                constructor
                · rintro ⟨⟨a1, a2, a3⟩, a4⟩
                  exact ⟨a1, a2, fun y' hy' => (List.mem_append.mp hy').elim (a3 y') fun z => List.mem_singleton.mp z ▸ a4⟩
                · rintro ⟨a1, a2, a3⟩
                  exact ⟨⟨a1, a2, fun y' hy' => a3 y' (List.mem_append_left _ hy')⟩, a3 y (List.mem_append_right _ (List.mem_singleton.mpr rfl))⟩
        · rw [if_neg kx]
          refine ⟨.non, rfl, rfl, _, rfl, iteF (iteF ?_)⟩
          refine ⟨.ref tb, rfl, .str x, rfl, .str y, rfl, .int (vo x y), rfl, lds, lk, fun HL hl => ⟨tb, x, y, vo x y, U, zs, rfl, lock_tab hl hT4 avd, nxy, S.sub x hx, S.sub y (S.S.sub x hx y hy), few, fun H5' v5 s5' hv => ⟨lock_keeps hl s5', fun H5 hul => ?_⟩⟩⟩
          have s5 := lock_same lk hl s5' hul
          have hr5 := s5 _ _ hr4
          have ho5 := s5 _ _ ho4
          have sx5 := s4.trans (same_x s5)
          rcases hv with ⟨rfl, no⟩ | ⟨d, rfl, hd⟩
          · refine ⟨.non, rfl, rfl, _, rfl, iteT ⟨hr5, ?_, ?_⟩⟩
            · rw [upd_ne (S.G.off x hx).symm]
              exact ho5
            · refine q _ _ (back2 sx5) (.inl ⟨rfl, fun u hu => no u ?_⟩)
              exact sat_app.mpr ⟨(us3 u).mpr ⟨hu.1, fun x' hx' y' hy' => rows u hu.2 x' (List.mem_of_mem_take hx') y' hy', fun y' hy' => rows u hu.2 x hx y' (List.mem_of_mem_take hy')⟩, rows u hu.2 x hx y hy⟩
          · obtain ⟨hd', avd'⟩ := unlock_tab hl s5' hul hd
            refine ⟨.ref d, rfl, rfl, _, rfl, iteF ⟨_, _, _, d, U ++ [(x, y, vo x y)], rfl, sx5, hr5, hd', fun a ha hA' => ?_, fun u => ?_⟩⟩
            · rcases (obO a).mp hA' with e | ⟨x', hx', e⟩
              · exact tab_not hd' (e ▸ ho5) ha
              · by_cases c : ro x' = ro x
                · exact tab_not hd' (e ▸ c ▸ hr5) ha
                · exact avd' a ha ((lm a).mpr (List.mem_filter.mpr ⟨List.mem_map.mpr ⟨x', hx', e.symm⟩, by rw [e]; simpa using c⟩))
            · rw [sat_app, us3 u, etk]
              constructor
              · rintro ⟨⟨a1, a2, a3⟩, a4⟩
                exact ⟨a1, a2, fun y' hy' => (List.mem_append.mp hy').elim (a3 y') fun z => List.mem_singleton.mp z ▸ a4⟩
              · rintro ⟨a1, a2, a3⟩
                exact ⟨⟨a1, a2, fun y' hy' => a3 y' (List.mem_append_left _ hy')⟩, a3 y (List.mem_append_right _ (List.mem_singleton.mpr rfl))⟩
      · rintro σ H3 ⟨y5, y6, y7, tb, U, rfl, s3, hr3, hT3, av3, us3⟩
        rw [dS_len, List.take_length] at us3
        have i3 := tab_keep (H' := upd H3 (ro x) (.dK (dS (ko x) fun y => .int (vo x y)))) hT3 fun b hb => upd_ne fun e => av3 b hb ((obO b).mpr (.inr ⟨x, hx, e⟩))
        refine ⟨hr3, _, _, _, _, _, tb, U, rfl, s2.trans (same_x (sameX_back hrow s3)), ?_, i3.1, i3.2 _ av3, fun u => ?_⟩
        · exact sameX_back hrow s3 _ _ ho2
        · rw [us3 u]
          constructor
          · rintro ⟨a1, a2, a3⟩
            exact ⟨a1, fun x' hx' => (List.mem_append.mp hx').elim (a2 x') fun z => List.mem_singleton.mp z ▸ a3⟩
          · rintro ⟨a1, a2⟩
            exact ⟨a1, fun x' hx' => a2 x' (List.mem_append_left _ hx'), a2 x (List.mem_append_right _ (List.mem_singleton.mpr rfl))⟩
    · rintro σ H1 ⟨y3, y4, y5, y6, y7, tb, U, rfl, s1, ho1, hT1, av1, us1⟩
      rw [dS_len, List.take_length] at us1
      have i2 := tab_keep (H' := upd H1 o (.dK (dS os fun x => .ref (ro x)))) hT1 fun b hb => upd_ne fun e => av1 b hb ((obO b).mpr (.inl e))
      refine ⟨ho1, .ref tb, rfl, q _ _ (back1 s1) (.inr ⟨tb, U, rfl, i2.1, fun u => ?_⟩)⟩
      rw [us1 u, S.eq u]
      constructor
      · rintro ⟨a1, a2⟩
        refine ⟨a1, fun p hp => ?_⟩
        obtain ⟨b1, b2, b3⟩ := mem_entr.mp hp
        rw [b3]
        exact a2 _ b1 _ b2
      · rintro ⟨a1, a2⟩
        exact ⟨a1, fun x' hx' y hy => a2 (x', y, vo x' y) (mem_entr.mpr ⟨hx', hy, rfl⟩)⟩
end
end Lo
namespace Lo
open PySem L2
abbrev sRAnd : Stmt := inClass sRegion 5
/-- no table of the one list shares a thing with one of the other -/
def DjL (H : Hp) (L M : Addr) : Prop := ∀ ts os : List Addr, H L = some (.lst (ts.map V.ref)) → H M = some (.lst (os.map V.ref)) → ∀ t ∈ ts, ∀ o ∈ os, AvT (ObT H o) H t
theorem lst_eq {H : Hp} {L : Addr} {ts gs : List Addr} (h : H L = some (.lst (ts.map V.ref))) (k : H L = some (.lst (gs.map V.ref))) : ts = gs := by
  rw [h] at k
  have k := Option.some.inj k
  injection k with k
  exact refs_inj k
theorem Tabs.mem {H : Hp} {L : Addr} {Rs : List (List SRow)} {zs : List Str} (h : Tabs H L Rs zs) {ts : List Addr} (e : H L = some (.lst (ts.map V.ref))) {t : Addr} (ht : t ∈ ts) : ∃ R, TabR H t R zs := by
  obtain ⟨ts', h1, h2, h3⟩ := h
  have := lst_eq h1 e
  subst this
  obtain ⟨i, hi, rfl⟩ := List.getElem_of_mem ht
  exact ⟨_, h3 i _ _ (List.getElem?_eq_getElem hi) (List.getElem?_eq_getElem (by omega))⟩
theorem avt_move {H H' : Hp} {t o : Addr} {R O : List SRow} {zs zs' : List Str} (s : Same H H') (hT : TabR H t R zs) (hO : TabR H o O zs') (a : AvT (ObT H o) H t) : AvT (ObT H' o) H' t := fun b hb hb' => a b (hb.back (fun u => s _ _) hT.dict) (hb'.back (fun u => s _ _) hO.dict)
theorem DjL.same {H H' : Hp} {L M : Addr} {Rs Os : List (List SRow)} {zs zs' : List Str} (s : Same H H') (hL : Tabs H L Rs zs) (hM : Tabs H M Os zs') (d : DjL H L M) : DjL H' L M := by
  obtain ⟨ts, l1, l2, l3⟩ := id hL
  obtain ⟨os, m1, m2, m3⟩ := id hM
  intro ts' os' e1 e2 t ht o ho
  have := lst_eq (s _ _ l1) e1
  subst this
  have := lst_eq (s _ _ m1) e2
  subst this
  obtain ⟨R, hR⟩ := hL.mem l1 ht
  obtain ⟨O, hO⟩ := hM.mem m1 ho
  exact avt_move s hR hO (d ts os l1 m1 t ht o ho)
section
variable {P : Program} {w : World} {K : PySem.W.Frag} {mg : Str → Option Value} {base : Heap}
/-! ### both_of -/
def spBothOf : Sp := fun vs H Q _ => ∃ (tl ol : Addr) (Rs Os : List (List SRow)) (zs : List Str), vs = [.ref tl, .ref ol] ∧ Tabs H tl Rs zs ∧ Tabs H ol Os zs ∧ zs.length ≤ 20 ∧ DjL H tl ol ∧ Rs.length * Os.length < sizeLine ∧
  ∀ (H' : Hp) (p : Addr) (Rs' : List (List SRow)), Same H H' → Tabs H' p Rs' zs → (∀ u, US Rs' u ↔ US Rs u ∧ US Os u) → Rs'.length ≤ Rs.length * Os.length → Q (.ref p) H'
abbrev nBothOf : List Str := ["ones", "others", "found", "one", "other", "table"]
theorem scBothOf : FnScope nBothOf ["ones", "others"] (defScope sBothOf) := ⟨rfl, rfl, rfl, by decide +kernel, rfl, by decide +kernel, by decide +kernel⟩
theorem ok_bothof {f fM : Addr} {fd fdM : FuncData} (F : Fun K "both_of" "both_of" sBothOf f fd)
    (GM : FnOk P w K mg base CX0 4 fM fdM ["one", "other"] spMet) (kM : PySem.W.keepIn K (.ref fM) = true) (bM : Binds K fdM ["one", "other"] []) (gM : mg "met" = some (.ref fM)) :
    FnOk P w K mg base CX0 5 f fd ["ones", "others"] spBothOf := by
  refine F.ok scBothOf (fun vs H Q E h => ?_) (fun cdv A outer s H vs Q E hr h => ?_)
  · obtain ⟨tl, ol, Rs, Os, zs, rfl, _⟩ := h
    rfl
  · obtain ⟨tl, ol, Rs, Os, zs, rfl, hT, hO, few, dj, bound, q⟩ := h
    have nd := scBothOf.nd
    refine ⟨_, pss_cons (ps_set (i := 2) nd rfl (.inl rfl) (pe_lst pa_nil))
      (pss_cons (ps_for PassesOwn.never rfl (pi_list (pv 0)) (pg_name (i := 3) nd rfl (.inl rfl))
        (pss_one (ps_for PassesOwn.never rfl (pi_list (pv 1)) (pg_name (i := 4) nd rfl (.inl rfl))
          (pss_cons (ps_set (i := 5) nd rfl (.inl rfl) (pe_call GM hr (by rfl) gM kM bM .nil pass0 (pa_cons (pv 3) (pa_cons (pv 4) pa_nil))))
          (pss_one (ps_if (pt_cmpR op_notN (pv 5) pe_non (nomark _)) (pss_one (ps_expr (pe_bm PySem.F.plainAttrs_list PySem.F.slot_list_append PySem.F.type_list_append mt_append (pv 2) (pa_cons (pv 5) pa_nil)))) pss_nil))))))
      (pss_one (ps_ret (pv 2)))), ?_⟩
    obtain ⟨ts, t1, t2, t3⟩ := id hT
    obtain ⟨os, o1, o2, o3⟩ := id hO
    refine ⟨Nat.zero_le _, fun fl nfl => ?_⟩
    have sF := same_upd (o := HO.lst []) nfl
    refine ⟨.ref tl, rfl, tl, rfl, ⟨_, SqL.of (sF _ _ t1)⟩, for_list (K := K) (a := tl) (xs := ts.map V.ref) (fun i σ H' => ∃ (y3 y4 y5 : Option V) (Fs : List (List SRow)), σ = [some (.ref tl), some (.ref ol), some (.ref fl), y3, y4, y5] ∧ Same H H' ∧ Tabs H' fl Fs zs ∧ (∀ u, US Fs u ↔ US (Rs.take i) u ∧ US Os u) ∧ Fs.length ≤ i * Os.length)
      ⟨none, none, none, [], rfl, sF, ⟨[], upd_same, rfl, fun i t R e => nomatch e⟩, fun u => ⟨fun h => absurd h us_nil, fun h => absurd h.1 us_nil⟩, Nat.zero_le _⟩ (fun i σ H' _ ⟨_, _, _, _, _, sm, _⟩ => SqL.of (sm _ _ t1)) ?_ ?_⟩
    · rintro i x σ H1 hi ⟨y3, y4, y5, Fs, rfl, s1, hF, usF, lenF⟩
      obtain ⟨t, rfl, ht, hti⟩ := pick_ref hi
      have hiR : i < Rs.length := by omega
      obtain ⟨R, hR⟩ : ∃ R, Rs[i]? = some R := ⟨_, List.getElem?_eq_getElem hiR⟩
      have etake : Rs.take (i + 1) = Rs.take i ++ [R] := by rw [List.take_add_one, hR]; rfl
      have hTt := t3 i t R ht hR
      have lenN : (i + 1) * Os.length ≤ Rs.length * Os.length := Nat.mul_le_mul_right _ hiR
      rw [Nat.succ_mul] at lenN
      refine ⟨.ref ol, rfl, ol, rfl, ⟨_, SqL.of (s1 _ _ o1)⟩, for_list (K := K) (a := ol) (xs := os.map V.ref) (fun j σ H' => ∃ (y4 y5 : Option V) (Gs : List (List SRow)), σ = [some (.ref tl), some (.ref ol), some (.ref fl), some (.ref t), y4, y5] ∧ Same H H' ∧ Tabs H' fl Gs zs ∧ (∀ u, US Gs u ↔ US Fs u ∨ (Sat R u ∧ US (Os.take j) u)) ∧ Gs.length ≤ i * Os.length + j)
        ⟨y4, y5, Fs, rfl, s1, hF, fun u => ⟨.inl, fun h => h.elim id fun h => absurd h.2 us_nil⟩, by omega⟩ (fun j σ H' _ ⟨_, _, _, _, sm, _⟩ => SqL.of (sm _ _ o1)) ?_ ?_⟩
      · rintro j x σ H2 hj ⟨y4, y5, Gs, rfl, s2, hG, usG, lenG⟩
        obtain ⟨o, rfl, ho, hoi⟩ := pick_ref hj
        have hjO : j < Os.length := by omega
        obtain ⟨O, hOj⟩ : ∃ O, Os[j]? = some O := ⟨_, List.getElem?_eq_getElem hjO⟩
        have etj : Os.take (j + 1) = Os.take j ++ [O] := by rw [List.take_add_one, hOj]; rfl
        have hOo := o3 j o O ho hOj
        have dto := dj ts os t1 o1 t (List.mem_of_getElem? ht) o (List.mem_of_getElem? ho)
        refine ⟨.ref t, rfl, .ref o, rfl, t, o, R, O, zs, rfl, hTt.same s2, hOo.same s2, few, avt_move s2 hTt hOo dto, fun H3 v s3 hv => ?_⟩
        rcases hv with ⟨rfl, no⟩ | ⟨d, U, rfl, hd, hU⟩
        · refine ⟨.non, rfl, rfl, _, rfl, iteF ⟨_, _, Gs, rfl, s2.trans s3, hG.same s3, fun u => ?_, by omega⟩⟩
          rw [usG u, etj, us_snoc]
          constructor
          · rintro (h | h)
            · exact .inl h
            · exact .inr ⟨h.1, .inl h.2⟩
          · rintro (h | ⟨h1, h2 | h2⟩)
            · exact .inl h
            · exact .inr ⟨h1, h2⟩
            · exact absurd ⟨h1, h2⟩ (no u)
        · refine ⟨.ref d, rfl, rfl, _, rfl, iteT ?_⟩
          obtain ⟨gs, g1, g2, g3⟩ := (hG.same s3).push hd
          refine ⟨.ref fl, rfl, .inl ⟨rfl, _, SqL.of g1⟩, .ref d, rfl, fl, _, _, rfl, rfl, g1, by rw [List.length_map, g2]; omega, ?_⟩
          refine ⟨_, _, Gs ++ [U], rfl, (s2.trans s3).later nfl, g3, fun u => ?_, by rw [List.length_append]; show Gs.length + 1 ≤ _; omega⟩
          rw [us_snoc, usG u, etj, us_snoc, hU u]
          constructor
          · rintro ((h | h) | h)
            · exact .inl h
            · exact .inr ⟨h.1, .inl h.2⟩
            · exact .inr ⟨h.1, .inr h.2⟩
          · rintro (h | ⟨h1, h2 | h2⟩)
            · exact .inl (.inl h)
            · exact .inl (.inr ⟨h1, h2⟩)
            · exact .inr ⟨h1, h2⟩
      · rintro σ H2 ⟨y4, y5, Gs, rfl, s2, hG, usG, lenG⟩
        rw [List.length_map, o2] at usG lenG
        rw [List.take_length] at usG
        refine ⟨_, _, _, Gs, rfl, s2, hG, fun u => ?_, by rw [Nat.succ_mul]; omega⟩
        rw [usG u, usF u, etake, us_snoc]
        constructor
        · rintro (h | h)
          · exact ⟨.inl h.1, h.2⟩
          · exact ⟨.inr h.1, h.2⟩
        · rintro ⟨h1 | h1, h2⟩
          · exact .inl ⟨h1, h2⟩
          · exact .inr ⟨h1, h2⟩
    · rintro σ H1 ⟨y3, y4, y5, Fs, rfl, s1, hF, usF, lenF⟩
      rw [List.length_map, t2] at usF lenF
      rw [List.take_length] at usF
      exact ⟨.ref fl, rfl, q _ fl Fs s1 hF usF lenF⟩
/-! ### one & other -/
/-- no table of the one region shares a thing with one of the other -/
def DjR (C : Addr) (H : Hp) (p p2 : Addr) : Prop := ∀ dx np tl dx2 np2 tl2, H p = some (.ins C dx (rflds np tl)) → H p2 = some (.ins C dx2 (rflds np2 tl2)) → DjL H tl tl2
theorem DjR.same {C : Addr} {H H' : Hp} {p p2 : Addr} {ns ns2 : List Str} {Rs Rs2 : List (List SRow)} (s : Same H H') (h : Reg C H p ns Rs) (h2 : Reg C H p2 ns2 Rs2) (d : DjR C H p p2) : DjR C H' p p2 := by
  obtain ⟨np, tl, RA⟩ := h
  obtain ⟨np2, tl2, RB⟩ := h2
  obtain ⟨dx, e⟩ := RA.ob
  obtain ⟨dx2, e2⟩ := RB.ob
  intro dx' np' tl' dx2' np2' tl2' f1 f2
  rw [s _ _ e] at f1
  rw [s _ _ e2] at f2
  have f1 := Option.some.inj f1
  have f2 := Option.some.inj f2
  injection f1 with _ _ f1
  injection f2 with _ _ f2
  rw [← (rflds_inj f1).2, ← (rflds_inj f2).2]
  exact (d _ _ _ _ _ _ e e2).same s RA.tb RB.tb
def spRAnd (C : Addr) : Sp := fun vs H Q _ => ∃ (p p2 : Addr) (ns : List Str) (Rs Rs2 : List (List SRow)), vs = [.ref p, .ref p2] ∧ Reg C H p ns Rs ∧ Reg C H p2 ns Rs2 ∧ NamesR ns ∧ DjR C H p p2 ∧ Rs.length * Rs2.length < sizeLine ∧
  ∀ (H' : Hp) (q : Addr) (Rs' : List (List SRow)), Same H H' → H q = none → Reg C H' q ns Rs' → (∀ u, US Rs' u ↔ US Rs u ∧ US Rs2 u) → Rs'.length ≤ Rs.length * Rs2.length → Q (.ref q) H'
theorem scRAnd : FnScope ["self", "other"] ["self", "other"] (defScope sRAnd) := ⟨rfl, rfl, rfl, by decide +kernel, rfl, by decide +kernel, by decide +kernel⟩
theorem ok_rand {f fI fA fS fU fG C : Addr} {fd fdA fdS fdU fdG : FuncData} (F : Fun K "__and__" "Region.__and__" sRAnd f fd) (X : RTxt K mg C fI)
    (GA : FnOk P w K mg base CX0 3 fA fdA ["one", "other"] (spCheckAlike C)) (kA : PySem.W.keepIn K (.ref fA) = true) (bA : Binds K fdA ["one", "other"] []) (gA : mg "_check_alike" = some (.ref fA))
    (GS : FnOk P w K mg base CX0 5 fS fdS ["ones", "others"] spBothOf) (kS : PySem.W.keepIn K (.ref fS) = true) (bS : Binds K fdS ["ones", "others"] []) (gS : mg "both_of" = some (.ref fS))
    (GU : FnOk P w K mg base CX0 3 fU fdU ["tables"] spAbsorbed) (kU : PySem.W.keepIn K (.ref fU) = true) (bU : Binds K fdU ["tables"] []) (gU : mg "absorbed" = some (.ref fU))
    (GG : FnOk P w K mg base CX0 8 fG fdG ["names", "tables"] (spRegionOf K C)) (kG : PySem.W.keepIn K (.ref fG) = true) (bG : Binds K fdG ["names", "tables"] []) (gG : mg "region_of" = some (.ref fG)) :
    FnOk P w K mg base CX0 9 f fd ["self", "other"] (spRAnd C) := by
  refine F.ok scRAnd (fun vs H Q E h => ?_) (fun cdv A outer s H vs Q E hr h => ?_)
  · obtain ⟨p, p2, ns, Rs, Rs2, rfl, _⟩ := h
    rfl
  · obtain ⟨p, p2, ns, Rs, Rs2, rfl, ⟨np, tl, RA⟩, ⟨np2, tl2, RB⟩, N, dj, b1, q⟩ := h
    obtain ⟨dx, hp⟩ := RA.ob
    obtain ⟨dx2, hp2⟩ := RB.ob
    refine ⟨_, pss_cons (ps_expr (pe_call GA (hr.mono (by decide)) (by rfl) gA kA bA .nil pass0 (pa_cons (pv 0) (pa_cons (pv 1) pa_nil))))
      (pss_one (ps_ret (pe_call GG hr (by rfl) gG kG bG .nil pass0 (pa_cons (pe_fld (pv 0) rfl) (pa_cons (pe_call GU (hr.mono (by decide)) (by rfl) gU kU bU .nil pass0 (pa_cons (pe_call GS (hr.mono (by decide)) (by rfl) gS kS bS .nil pass0 (pa_cons (pe_fld (pv 0) rfl) (pa_cons (pe_fld (pv 1) rfl) pa_nil))) pa_nil)) pa_nil))))), ?_⟩
    have z5 := N.z5
    refine ⟨.ref p, rfl, .ref p2, rfl, p, np, tl, p2, np2, tl2, ns, Rs, _, Rs2, _, rfl, RA, RB, N, ?_⟩
    refine ⟨.ref p, rfl, p, C, dx, _, _, rfl, hp, X.cl, X.nN, rflds_n _ _, .ref p, rfl, p, C, dx, _, _, rfl, hp, X.cl, X.nT, rflds_t _ _, .ref p2, rfl, p2, C, dx2, _, _, rfl, hp2, X.cl, X.nT, rflds_t _ _, tl, tl2, Rs, Rs2, _, rfl, RA.tb, RB.tb, by omega, dj _ _ _ _ _ _ hp hp2, b1, fun H1 r Rs' s1 h1 us1 len1 => ?_⟩
    refine ⟨r, Rs', _, rfl, h1, Nat.lt_of_le_of_lt len1 b1, fun H2 p' R2 s2 h2 us2 len2 _ => ?_⟩
    have s02 := s1.trans s2
    refine ⟨np, p', ns, R2, _, rfl, SqT.of (s02 _ _ RA.nm), N, h2, fun H3 q3 np3 s3 nq R3 => ?_⟩
    exact q H3 q3 R2 (s02.trans s3) (s02.free nq) (Reg.of R3) (fun u => (us2 u).trans (us1 u)) (Nat.le_trans len2 len1)
end
end Lo
/-! for i, x in enumerate(t), t a tuple -/
namespace Lo
open PySem PySem.Spec L2 PyProof.Rows
set_option maxHeartbeats 1000000 in
theorem meets_enum_one {v : Value} {o : Obj} {H : Heap → Prop} (B : Begins v o H) :
    Meets (Builtin.«enumerate.__new__» ⟨[.type "enumerate", v], []⟩) (fun _ R s => H s.heap ∧
      R (.ok (.ret (.ref (s.heap.push o).objs.size))) { s with heap := (s.heap.push o).push { cls := .type "enumerate", data := .fields #[.none, .bool false, .ref s.heap.objs.size, rawInt 0, .none, .none] } }) :=
  .of_wp fun prog w A R s h => by
    obtain ⟨hp, g, d, tk, os⟩ := s; obtain ⟨h1, h⟩ := h
    have hsub := sub_enumerate
    have q1 : ∀ {A' : Around} {E : Value → Shared → Prop} {Q : Value → Shared → Prop}, Q (.ref hp.objs.size) ⟨hp.push o, g, d, tk, os⟩ → wpAny (model prog w) A' (pyIter v) Q E ⟨hp, g, d, tk, os⟩ :=
      fun q => B.iter prog w _ _ ⟨hp, g, d, tk, os⟩ _ h1 q
    wp_walk using q1
    refine wpAny_stack_any fun st => wpAny_pure ?_
    split
    · rename_i c _ _ _ _ _
      cases (c == Value.type "enumerate")
      · wp_walk using q1
        exact ⟨_, rfl, h⟩
      · wp_walk using q1
        exact ⟨_, rfl, h⟩
    · wp_walk using q1
      exact ⟨_, rfl, h⟩
section
variable {prog : Program} {w : World} {A : Around} {E : Value → Shared → Prop} {s : Shared}
theorem enum_one {v : Value} {o : Obj} {H : Heap → Prop} {Q : Value → Shared → Prop} (B : Begins v o H) (h1 : H s.heap)
    (h : ∀ h', IsEnum h' (s.heap.objs.size + 1) s.heap.objs.size 0 .none → h'.get? s.heap.objs.size = some o → h'.objs.size = s.heap.objs.size + 2 →
      (∀ b o, s.heap.get? b = some o → h'.get? b = some o) → Q (.ref (s.heap.objs.size + 1)) { s with heap := h' }) :
    wpAny (model prog w) A (call (.type "enumerate") [v]) Q E s := by
  refine callType_new F.called_enumerate (by decide) (F.typeCall_enumerate_1 _) (F.newCall_enumerate_1 _) (fun obj => F.args_object_init_2 obj _) F.entry_enumerate_new
    (meets_enum_one B) ⟨h1, ?_⟩
  have hz : (s.heap.push o).objs.size = s.heap.objs.size + 1 := Heap.size_push ..
  show _ ∧ _
  rw [hz]
  have he : IsEnum ((s.heap.push o).push { cls := .type "enumerate", data := .fields #[.none, .bool false, .ref s.heap.objs.size, rawInt 0, .none, .none] }) (s.heap.objs.size + 1) s.heap.objs.size 0 .none := by
    have := Heap.get?_push_size (s.heap.push o) (o := { cls := .type "enumerate", data := .fields #[.none, .bool false, .ref s.heap.objs.size, rawInt 0, .none, .none] }) rfl
    rw [hz] at this; exact this
  exact ⟨⟨_, he, rfl⟩, h _ he (Heap.get?_push_of_some _ (Heap.get?_push_size _ B.free)) (by rw [Heap.size_push, hz]) fun b o x => Heap.get?_push_of_some _ (Heap.get?_push_of_some _ x)⟩
end
/-- the tuple at a, each item in a new pair -/
def IteT (K : PySem.W.Frag) (a : Addr) : It :=
  ⟨fun i H => ∃ (xs : List V) (x : V), SqT K H a xs ∧ xs[i]? = some x, fun i H v H' => ∃ T x, v = .ref T ∧ H T = none ∧ H' = upd H T (.tup [.int (i : Nat), x]) ∧ ∀ xs, SqT K H a xs → xs[i]? = some x, fun i H => ∃ xs : List V, SqT K H a xs ∧ xs.length ≤ i⟩
theorem turn_enumT {P : Program} {w : World} {K : PySem.W.Frag} {elts : List Expr} {kk : Nat} {tpos : Pos} (a e it : Addr) :
    Turn P w K (.Tuple elts kk tpos) (IteT K a) [e, it] e (fun i h => (∃ old, IsEnum h e it ((i : Nat) : Int) old) ∧ h.IsTupleIter it a i ∧ e ≠ it ∧ a ≠ it ∧ a ≠ e) where
  mem := by simp
  obj := fun i h st b hb => by
    obtain ⟨⟨old, he⟩, ⟨o, ho, hc, hd⟩, _⟩ := st
    have e' : b = e ∨ b = it := by simpa using hb
    rcases e' with z | z
    · rw [z]; exact ⟨_, he, fun v q => nomatch q⟩
    · rw [z]; exact ⟨o, ho, fun v q => by rw [hd] at q; cases q⟩
  keep := fun i h h' st k => let ⟨⟨old, he⟩, hi, hne⟩ := st; ⟨⟨old, k e (by simp) _ he⟩, hi.at fun o q => k it (by simp) o q, hne⟩
  item := by
    intro X hP hw hK hc i pins s σ H E I hf st hg
    subst hP hw hK
    obtain ⟨⟨old, he⟩, hit, hne, hat, hae⟩ := st
    obtain ⟨xs, x, hq, hx⟩ := hg
    obtain ⟨its, rv, p, hz⟩ := I.tuple hq
    obtain ⟨u, hu, ru⟩ := rv.get hx
    have hel : e < s.heap.objs.size := Heap.lt_size he
    have hil : it < s.heap.objs.size := by obtain ⟨_, q, _⟩ := hit; exact Heap.lt_size q
    have D := Draws.tuple (prog := X.prog) (w := X.w) (A := X.A.in1) (show X.A.in1.handled = none from I.ok.hd hc) it a hat its.toArray
    have hlt : i < its.toArray.size := by
      have := (List.getElem?_eq_some_iff.mp hu).1
      simpa using this
    refine wpAny_pyNext_enum_itemD D he ⟨hit, show s.heap.IsTuple a its.toArray from p⟩ hlt hne (by simp [hne, hae.symm]) fun v h' tk hv ho ⟨hit', _⟩ hT hsz hk => ?_
    have ev : v = u := by
      have hu' : its.toArray[i]? = some u := by simpa using hu
      exact Option.some.inj (hv.symm.trans hu')
    subst ev
    refine ⟨_, rfl, wpAny_letOwnedTupleGo_enum (s := { s with heap := h', toks := tk + 1 }) ho fun h'' he' sb => ?_⟩
    have hT2 : h''.get? s.heap.objs.size = some { cls := .type "tuple", data := .seq #[.int i tk, v] } := (sb.2 _ (Nat.ne_of_gt hel)).trans hT
    have new : ObjOk X.prog X.w (upd H s.heap.objs.size (.tup [.int (i : Nat), x])) h'' s.heap.objs.size (.tup [.int (i : Nat), x]) :=
      ⟨by show 2 ≤ sizeLine; decide, [.int i tk, v], .cons ⟨_, rfl⟩ (.cons ru .nil), ⟨_, hT2, rfl, _, rfl⟩⟩
    have I1 : Inv X pins σ (upd H s.heap.objs.size (.tup [.int (i : Nat), x])) { s with heap := h'', toks := tk + 1 } :=
      I.turnedNew (ch := [e, it]) (fun b ob hb q => (sb.2 b (fun z => hb (by simp [z]))).trans (hk b ob (fun z => hb (by simp [z])) (fun z => hb (by simp [z])) q)) hf (Nat.le_refl _) new
    refine ⟨.ref s.heap.objs.size, _, I1, rfl, ⟨_, x, rfl, I.hok.fresh (Nat.le_refl _), rfl, fun ys hy => by rw [I.tuple_inj hy hq]; exact hx⟩, ⟨⟨v, ?_⟩, hit'.at fun o q => (sb.2 it (Ne.symm hne)).trans q, hne, hat, hae⟩, fun b hb => ?_⟩
    · have e1 : ((i + 1 : Nat) : Int) = (i : Int) + 1 := by omega
      rw [e1]; exact he'
    · have hb' : b < s.heap.objs.size := by
        have e' : b = e ∨ b = it := by simpa using hb
        rcases e' with z | z
        · rw [z]; exact hel
        · rw [z]; exact hil
      rw [upd_ne (Nat.ne_of_lt hb')]
      exact (hf b hb).1
  done := by
    intro X hP hw hK hc i pins s σ H E I hf st hg
    subst hP hw hK
    obtain ⟨⟨old, he⟩, hit, hne, hat, hae⟩ := st
    obtain ⟨xs, hq, hx⟩ := hg
    obtain ⟨its, rv, p, hz⟩ := I.tuple hq
    obtain ⟨f0, f1, f2, f3, f4, f5⟩ := hf it (by simp)
    have hl := rv.length
    have hT : s.TypeIs (.ref e) "enumerate" := ⟨_, he, rfl⟩
    unfold pyNext
    refine wpAny_bind (wpAny_attempt (wpAny_callSpecial?_slot (name := Str.ofString "__next__") hT F.slot_enumerate_next
      (wpAny_call_entry F.slot_enumerate_next hT F.entry_enumerate_next ?_ (F.args_enumerate_next_1 _))))
    show wpAny _ _ (PySem.field (.ref e) 2 >>= _) _ _ _
    refine wpAny_bind (wpAny_field he rfl (x := .ref it) rfl ?_)
    refine wpAny_bind (wpAny_nextOf_tuple_end (show X.A.in1.handled = none from I.ok.hd hc) hit (show s.heap.IsTuple a its.toArray from p) (by simp; omega) fun h' x he' hx' => ?_)
    obtain ⟨o, ho, hcc⟩ := hx'
    refine wpAny_bind (wpAny_isInstance (T := "StopIteration") (b := true) ⟨o, ho, hcc⟩ isSubtype_stop ?_)
    exact wpAny_pure ⟨rfl, I.turned (t' := s.toks) (fun b o hb q => he' b o hb q) f0 f1 f3 f4 f5⟩
  self := fun A i s Q E st h => let ⟨⟨_, he⟩, _⟩ := st; wpAny_pyIter_enum he h
def iEnumT (K : PySem.W.Frag) (ta : TA) : TI := fun σ H R => ta σ H fun vs H1 => ∃ a xs, vs = [.ref a] ∧ SqT K H1 a xs ∧ R (IteT K a) H1
theorem pi_enumT {X : Cx} {e : Expr} {ta : TA} {p pos tpos : Pos} {elts : List Expr} {kk : Nat} (hg : Gl X "enumerate") (hm : X.mg "enumerate" = none) (ha : PA X [e] ta) (hs : starEach [e] X.env = [(false, eval e X.env)] := by rfl) :
    PI X (.Tuple elts kk tpos) (.Call (.Name "enumerate" p) [e] [] pos) (iEnumT X.K ta) := by
  refine ⟨fun pins s σ H R I h => ?_⟩
  refine Call_ (ld_blt I hg hm boot_enumerate (PyProof.Rows.callWith_type1 (thn (ha.run pos pins s σ H _ I h) fun us s1 ⟨vs, H1, I1, r1, q1⟩ => ?_) hs rfl))
  obtain ⟨a, xs, ex, hq, q⟩ := q1
  subst ex
  cases r1 with
  | cons r rr =>
    cases rr
    cases r
    obtain ⟨its, rv, p', hz⟩ := I1.tuple hq
    have hal : a < s1.heap.objs.size := by
      obtain ⟨o, ho, _⟩ := p'
      exact Heap.lt_size ho
    refine enum_one (begins_tuple a its.toArray) (show s1.heap.IsTuple a its.toArray from p') fun h' he hit hsz hk => wpAny_pyIter_enum he ?_
    have I2 : Inv X pins σ H1 { s1 with heap := h' } := I1.kept (t' := s1.toks) hk
    refine ⟨s1.heap.objs.size + 1, [s1.heap.objs.size + 1, s1.heap.objs.size], _, _, H1, rfl, I2, turn_enumT a (s1.heap.objs.size + 1) s1.heap.objs.size, ⟨⟨.none, he⟩, ⟨_, hit, rfl, rfl⟩, Nat.succ_ne_self _, Nat.ne_of_lt hal, Nat.ne_of_lt (Nat.lt_succ_of_lt hal)⟩, fun b hb => ?_, q⟩
    have e' : b = s1.heap.objs.size + 1 ∨ b = s1.heap.objs.size := by simpa using hb
    have hle : s1.heap.objs.size ≤ b := by
      rcases e' with z | z
      · rw [z]; exact Nat.le_add_right _ _
      · rw [z]; exact Nat.le_refl _
    exact I1.fpOk hle (I1.hok.fresh hle)
theorem walk_enumT {K : PySem.W.Frag} {a : Addr} {xs : List V} : Walk (IteT K a) xs.length (fun H => SqT K H a xs) (YPair (fun i => some (.int (i : Nat))) (fun i => xs[i]?)) := by
  refine ⟨fun i _ hi q => ⟨xs, xs[i], q, by simp [hi]⟩, fun _ q => ⟨xs, q, Nat.le_refl _⟩, fun i H v H' _ q y => ?_⟩
  obtain ⟨T, x, h1, h2, h3, h4⟩ := y
  exact ⟨T, .int (i : Nat), x, h1, h2, h3, rfl, h4 xs q⟩
end Lo
/-! a region of a list of names and of tuples of rows -/
namespace Lo
open PySem L2
def SysT (H : Hp) (a : Addr) (rows : List SRow) : Prop := ∃ ps : List Addr, H a = some (.tup (ps.map V.ref)) ∧ ps.length = rows.length ∧ ∀ (i : Nat) (p : Addr) (r : SRow), ps[i]? = some p → rows[i]? = some r → RowT H p r
theorem SysT.same {H H' : Hp} {a : Addr} {rows : List SRow} (h : SysT H a rows) (s : Same H H') : SysT H' a rows := by
  obtain ⟨ps, h1, h2, h3⟩ := h
  exact ⟨ps, s _ _ h1, h2, fun i p r a b => s _ _ (h3 i p r a b)⟩
def SyssT (H : Hp) (L : Addr) (Ss : List (List SRow)) : Prop := ∃ ls : List Addr, H L = some (.lst (ls.map V.ref)) ∧ ls.length = Ss.length ∧ ∀ (i : Nat) (l : Addr) (R : List SRow), ls[i]? = some l → Ss[i]? = some R → SysT H l R
theorem SyssT.same {H H' : Hp} {L : Addr} {Ss : List (List SRow)} (s : Same H H') (h : SyssT H L Ss) : SyssT H' L Ss := by
  obtain ⟨ls, h1, h2, h3⟩ := h
  exact ⟨ls, s _ _ h1, h2, fun i l R a b => (h3 i l R a b).same s⟩
section
variable {P : Program} {w : World} {K : PySem.W.Frag} {mg : Str → Option Value} {base : Heap}
def spReadN2 (K : PySem.W.Frag) : Sp := fun vs H Q _ => ∃ (np : Addr) (ns : List Str), vs = [.ref np] ∧ SqL K H np (ns.map V.str) ∧ NamesR ns ∧ ∀ H' p, Same H H' → H p = none → H' p = some (.tup (ns.map V.str)) → Q (.ref p) H'
theorem ok_readn2 {f fN : Addr} {fd fdN : FuncData} (F : Fun K "read_names" "read_names" sReadN f fd) (T : Blt mg) (GN : FnOk P w K mg base CX0 2 fN fdN ["thing"] spIsName) (kN : PySem.W.keepIn K (.ref fN) = true) (bN : Binds K fdN ["thing"] []) (gN : mg "is_name" = some (.ref fN)) :
    FnOk P w K mg base CX0 3 f fd ["names"] (spReadN2 K) := by
  refine F.ok scReadN (fun vs H Q E h => ?_) (fun cdv A outer s H vs Q E hr h => ?_)
  · obtain ⟨np, ns, rfl, _⟩ := h
    rfl
  · obtain ⟨np, ns, rfl, hN, N, q⟩ := h
    have nd := scReadN.nd
    refine ⟨_, pss_cons (ps_set (i := 1) nd rfl (.inl rfl) (pe_lst pa_nil))
      (pss_cons (ps_for PassesOwn.never rfl (pi_list (pv 0)) (pg_name (i := 2) nd rfl (.inl rfl))
        (pss_cons (ps_if (PW.pt (pw_or (pt_not (pt_val (pe_call GN hr (by rfl) gN kN bN .nil pass0 (pa_cons (pv 2) pa_nil)))) (pw_or1 (pt_cmpR op_in_seq (pv 2) (pv 1) (by rfl))))) (pss_one ps_never) pss_nil)
        (pss_one (ps_expr (pe_bm PySem.F.plainAttrs_list PySem.F.slot_list_append PySem.F.type_list_append mt_append (pv 1) (pa_cons (pv 2) pa_nil))))))
      (pss_one (ps_ret (pe_callTy call_tuple_of (by rfl) T.tuple PyProof.Rows.boot_tuple (pa_cons (pv 1) pa_nil))))), ?_⟩
    refine ⟨Nat.zero_le _, fun o no => ?_⟩
    have s1 := same_upd (o := HO.lst []) no
    refine ⟨.ref np, rfl, np, rfl, ⟨_, s1.seq hN⟩, for_list (K := K) (a := np) (xs := ns.map V.str) (fun i σ H' => ∃ y : Option V, σ = [some (.ref np), some (.ref o), y] ∧ Same H H' ∧ H' o = some (.lst ((ns.take i).map V.str))) ⟨none, rfl, s1, upd_same⟩ (fun i σ H' _ ⟨_, _, sm, _⟩ => sm.seq hN) ?_ ?_⟩
    · rintro i x σ H1 hi ⟨y, rfl, sm, ho⟩
      have hi1 : i < ns.length := by
        have := (List.getElem?_eq_some_iff.mp hi).1
        rw [List.length_map] at this
        exact this
      obtain rfl : x = .str ns[i] := by
        rw [List.getElem?_map, List.getElem?_eq_getElem hi1] at hi
        exact (Option.some.inj hi).symm
      obtain ⟨k1, k2, _⟩ := N.ok _ (List.getElem_mem hi1)
      refine ⟨_, rfl, _, rfl, k1, k2, true, rfl, iteF ?_⟩
      refine ⟨_, rfl, .ref o, rfl, o, _, rfl, .inl (SqL.of ho), rfl, flat_all _, _, rfl, ?_⟩
      rw [inV_strs, decide_eq_false]
      · have e : ns.take (i + 1) = ns.take i ++ [ns[i]] := by rw [List.take_add_one, List.getElem?_eq_getElem hi1]; rfl
        have few := N.few
        refine iteF ⟨.ref o, rfl, .inl ⟨rfl, _, SqL.of ho⟩, _, rfl, o, _, _, rfl, rfl, ho, ?_, ?_⟩
        · rw [List.length_map, List.length_take]
          exact small1000 (by omega)
        · refine ⟨_, rfl, sm.later no, ?_⟩
          rw [upd_same, e, List.map_append]
          rfl
      · intro m
        have nn := N.nd
        have sp : ns = ns.take i ++ ns[i] :: ns.drop (i + 1) := by rw [← List.drop_eq_getElem_cons hi1, List.take_append_drop]
        rw [sp] at nn
        exact (List.nodup_append.mp nn).2.2 _ m _ List.mem_cons_self rfl
    · rintro σ H1 ⟨y, rfl, sm, ho⟩
      rw [List.length_map, List.take_length] at ho
      exact ⟨.ref o, rfl, o, _, rfl, .inl ⟨SqL.of ho, fun p np' => q _ p (sm.trans (same_upd np')) (sm.free np') upd_same⟩⟩
def spChecked2 (K : PySem.W.Frag) : Sp := fun vs H Q _ => ∃ (np a : Addr) (ns : List Str) (rows : List SRow), vs = [.ref np, .ref a] ∧ SqT K H np (ns.map V.str) ∧ SysT H a rows ∧ Good rows ∧ (∀ r ∈ rows, In2 ns r) ∧ ∀ H' q, Same H H' → H q = none → Sys RowT H' q rows → Q (.ref q) H'
theorem ok_checked2 {f fD fF : Addr} {fd fdD fdF : FuncData} (F : Fun K "_checked" "_checked" sChecked f fd) (T : Blt mg) (GD : FnOk P w K mg base CX0 2 fD fdD ["thing"] spDiff) (kD : PySem.W.keepIn K (.ref fD) = true) (bD : Binds K fdD ["thing"] []) (gD : mg "is_difference" = some (.ref fD))
    (GF : FnOk P w K mg base CX0 1 fF fdF ["names", "difference"] (spFits K)) (kF : PySem.W.keepIn K (.ref fF) = true) (bF : Binds K fdF ["names", "difference"] []) (gF : mg "_fits" = some (.ref fF)) : FnOk P w K mg base CX0 3 f fd ["names", "system"] (spChecked2 K) := by
  refine F.ok scChecked (fun vs H Q E h => ?_) (fun cdv A outer s H vs Q E hr h => ?_)
  · obtain ⟨np, a, ns, rows, rfl, _⟩ := h
    rfl
  · obtain ⟨np, a, ns, rows, rfl, hN, ⟨ps, hA, hl, hat⟩, g, hin, q⟩ := h
    have nd := scChecked.nd
    have few := g.few
    refine ⟨_, pss_cons (ps_set (i := 2) nd rfl (.inl rfl) (pe_lst pa_nil))
      (pss_cons (ps_for PassesOwn.never rfl (pi_enumT (by rfl) T.enum (pa_cons (pv 1) pa_nil)) (pg_tup rfl (pgs_cons (pg_name (i := 3) nd rfl (.inl rfl)) (pgs_cons (pg_name (i := 4) nd rfl (.inl rfl)) pgs_nil)))
        (pss_cons (ps_if (PW.pt (pw_or (pt_not (pt_val (pe_call GD hr (by rfl) gD kD bD .nil pass0 (pa_cons (pv 4) pa_nil)))) (pw_or1 (pt_not (pt_val (pe_call GF (hr.mono (by decide)) (by rfl) gF kF bF .nil pass0 (pa_cons (pv 0) (pa_cons (pv 4) pa_nil)))))))) (pss_one ps_never) pss_nil)
        (pss_one (ps_expr (pe_bm PySem.F.plainAttrs_list PySem.F.slot_list_append PySem.F.type_list_append mt_append (pv 2)
          (pa_cons (pe_callTy call_tuple_of (by rfl) T.tuple PyProof.Rows.boot_tuple (pa_cons (pv 4) pa_nil)) pa_nil))))))
      (pss_one (ps_ret (pv 2)))), ?_⟩
    refine ⟨Nat.zero_le _, fun o no => ?_⟩
    have s1 := same_upd (o := HO.lst []) no
    refine ⟨.ref a, rfl, a, ps.map V.ref, rfl, SqT.of (s1 _ _ hA), for_it walk_enumT (fun i σ H' => ∃ (y3 y4 : Option V) (qs : List Addr), σ = [some (.ref np), some (.ref a), some (.ref o), y3, y4] ∧ Same H H' ∧ H' o = some (.lst (qs.map V.ref)) ∧ qs.length = i ∧
        ∀ (j : Nat) (p : Addr) (r : SRow), qs[j]? = some p → rows[j]? = some r → RowT H' p r) ⟨none, none, [], rfl, s1, upd_same, rfl, fun j p r e => nomatch e⟩ (fun i σ H' _ ⟨_, _, _, _, sm, _⟩ => SqT.of (sm _ _ hA)) ?_ ?_⟩
    · rintro i x σ H1 H2 hi ⟨y3, y4, qs, rfl, sm, ho, hq, hrow⟩ ⟨tp, x1, x2, rfl, ntp, rfl, e1, e2⟩
      obtain ⟨p, r, rfl, hp, hrr, hmem, hlt, hR⟩ := Sys.at hl hat e2
      have smT : Same H1 (upd H1 tp (.tup [x1, .ref p])) := same_upd ntp
      refine ⟨tp, _, rfl, SqT.of upd_same, rfl, _, _, rfl, _, _, rfl, rfl, ?_⟩
      have s2 := sm.trans smT
      refine ⟨.ref p, rfl, p, r, rfl, .inl (hR.same s2), g.row r hmem, fun H3 s3 => ⟨true, rfl, iteF ?_⟩⟩
      have s13 := s2.trans s3
      refine ⟨.ref np, rfl, .ref p, rfl, np, p, ns, r, rfl, same_tup s13 hN, hR.same s13, hin r hmem, true, rfl, iteF ?_⟩
      have ho3 : H3 o = some (.lst (qs.map V.ref)) := s3 _ _ (smT _ _ ho)
      have hlen : (qs.map V.ref).length < sizeLine := by
        rw [List.length_map, hq]
        exact small1000 (by omega)
      refine ⟨.ref o, rfl, .inl ⟨rfl, _, SqL.of ho3⟩, .ref p, rfl, p, rowV r, rfl, .inr ⟨SqT.of (hR.same s13), o, _, _, rfl, rfl, ho3, hlen, ?_⟩⟩
      have out : ∀ (b : Addr) (r' : SRow), RowT H3 b r' → RowT (upd H3 o (.lst (qs.map V.ref ++ [.ref p]))) b r' := fun b r' hb => by
        have nb : b ≠ o := ne_of hb ho3 (by intro z; cases z)
        show upd H3 o _ b = _
        rw [upd_ne nb]
        exact hb
      refine ⟨_, _, qs ++ [p], rfl, s13.later no, ?_, by rw [List.length_append, hq]; rfl, fun j pj rj hj hr' => ?_⟩
      · rw [upd_same, List.map_append]
        rfl
      · by_cases k : j < i
        · rw [List.getElem?_append_left (by omega)] at hj
          exact out _ _ ((hrow j pj rj hj hr').same (smT.trans s3))
        · have hj2 : j = i := by
            have := (List.getElem?_eq_some_iff.mp hj).1
            rw [List.length_append, List.length_singleton] at this
            omega
          subst hj2
          rw [List.getElem?_append_right (by omega), hq, Nat.sub_self] at hj
          have e : p = pj := Option.some.inj hj
          rw [hrr] at hr'
          have e' : r = rj := Option.some.inj hr'
          subst e e'
          exact out _ _ (hR.same s13)
    · rintro σ H1 ⟨y3, y4, qs, rfl, sm, ho, hq, hrow⟩
      rw [List.length_map] at hq
      exact ⟨.ref o, rfl, q H1 o sm no ⟨qs, ho, hq.trans hl, hrow⟩⟩
def spReadTs2 (K : PySem.W.Frag) : Sp := fun vs H Q _ => ∃ (np L : Addr) (ns : List Str) (Ss : List (List SRow)), vs = [.ref np, .ref L] ∧ SqT K H np (ns.map V.str) ∧ SyssT H L Ss ∧ Ss.length ≤ 100 ∧ (∀ R ∈ Ss, Good R ∧ ∀ r ∈ R, In2 ns r) ∧ ∀ H' q, Same H H' → H q = none → Tabs H' q (Ss.filter satB) (("0" : Str) :: ns) → Q (.ref q) H'
theorem ok_readts2 {f fC fT : Addr} {fd fdC fdT : FuncData} (F : Fun K "_read_tables" "_read_tables" sReadTs f fd)
    (GC : FnOk P w K mg base CX0 3 fC fdC ["names", "system"] (spChecked2 K)) (kC : PySem.W.keepIn K (.ref fC) = true) (bC : Binds K fdC ["names", "system"] []) (gC : mg "_checked" = some (.ref fC))
    (GT : FnOk P w K mg base CX0 4 fT fdT ["differences"] spTableOf) (kT : PySem.W.keepIn K (.ref fT) = true) (bT : Binds K fdT ["differences"] []) (gT : mg "table_of" = some (.ref fT)) : FnOk P w K mg base CX0 5 f fd ["names", "systems"] (spReadTs2 K) := by
  refine F.ok scReadTs (fun vs H Q E h => ?_) (fun cdv A outer s H vs Q E hr h => ?_)
  · obtain ⟨np, L, ns, Ss, rfl, _⟩ := h
    rfl
  · obtain ⟨np, L, ns, Ss, rfl, hN, ⟨ls, hL, hll, hat⟩, few, hg, q⟩ := h
    have nd := scReadTs.nd
    have r3 := hr.mono (show 3 ≤ 4 by decide)
    refine ⟨_, C8.pss_cut (ps_setLc (i := 2) (own := [("system", 6)]) (g := gName 6) (tt := tYes) rfl nd rfl rfl (sw_true rfl rfl rfl (by decide +kernel)) (pi_list (pv 1)) (blkOk_by (N := nReadTs) (sc := defScope sReadTs) (by decide +kernel))
          (fun _ _ _ _ _ => pg_name (i := 6) nd rfl (.inl rfl)) (fun _ _ _ _ _ => pts_nil) (fun _ _ _ _ _ => pe_call GC r3 (by rfl) gC kC bC .nil pass0 (pa_cons (pv 0) (pa_cons (pv 6) pa_nil))))
      (pss_cons (ps_set (i := 3) nd rfl (.inl rfl) (pe_lst pa_nil))
      (pss_cons (ps_for PassesOwn.never rfl (pi_list (pv 2)) (pg_name (i := 4) nd rfl (.inl rfl))
        (pss_cons (ps_set (i := 5) nd rfl (.inl rfl) (pe_call GT hr (by rfl) gT kT bT .nil pass0 (pa_cons (pv 4) pa_nil)))
        (pss_one (ps_if (pt_cmpR op_notN (pv 5) pe_non (nomark _)) (pss_one (ps_expr (pe_bm PySem.F.plainAttrs_list PySem.F.slot_list_append PySem.F.type_list_append mt_append (pv 3) (pa_cons (pv 5) pa_nil)))) pss_nil))))
      (pss_one (ps_ret (pv 3))))), ?_⟩
    refine ⟨fun σ' H' => ∃ c : Addr, σ' = [some (.ref np), some (.ref L), some (.ref c), none, none, none, none] ∧ Same H H' ∧ Syss H' c Ss, ?_, ?_⟩
    · refine ⟨.ref L, rfl, L, rfl, ⟨_, SqL.of hL⟩, fun c nc => ?_⟩
      refine lc_list (K := K) (a := L) (xs := ls.map V.ref) (fun j H' => Same H H' ∧ ∃ qs : List Addr, H' c = some (.lst (qs.map V.ref)) ∧ qs.length = j ∧ (∀ q ∈ qs, q ≠ c) ∧ ∀ (i : Nat) (l : Addr) (R : List SRow), qs[i]? = some l → Ss[i]? = some R → Sys RowT H' l R)
        ⟨same_upd nc, [], upd_same, rfl, fun q h => absurd h List.not_mem_nil, fun i l R e => nomatch e⟩ (fun j H' _ h => SqL.of (h.1 _ _ hL)) ?_ ?_
      · rintro j v H1 hj ⟨s1, qs, hc, hql, hqn, hqr⟩
        obtain ⟨l, rfl, hl1, hlt⟩ := pick_ref hj
        obtain ⟨R, hR⟩ : ∃ R, Ss[j]? = some R := ⟨_, List.getElem?_eq_getElem (by omega)⟩
        obtain ⟨gR, iR⟩ := hg R (List.mem_of_getElem? hR)
        refine ⟨rfl, ?_⟩
        unfold tYes
        refine iteT ?_
        refine ⟨.ref np, rfl, .ref l, rfl, np, l, ns, R, rfl, same_tup s1 hN, (hat j l R hl1 hR).same s1, gR, iR, fun H2 p s2 np2 hS => ?_⟩
        have hc2 := s2 _ _ hc
        have out : ∀ {b : Addr} {R' : List SRow}, Sys RowT H2 b R' → b ≠ c → Sys RowT (upd H2 c (.lst (qs.map V.ref ++ [.ref p]))) b R' := fun {b R'} ⟨ps, h1, h2, h3⟩ nb => ⟨ps, by rw [upd_ne nb]; exact h1, h2, fun i q r a b => by
          have z := h3 i q r a b
          show upd H2 c _ q = _
          rw [upd_ne (ne_of z hc2 (by intro z; cases z))]
          exact z⟩
        have npc : p ≠ c := fun e => by
          rw [e, hc] at np2
          cases np2
        refine ⟨_, hc2, by rw [List.length_map, hql]; exact small1000 (by omega), (s1.trans s2).later nc, qs ++ [p], by rw [upd_same, List.map_append]; rfl, by rw [List.length_append, hql]; rfl, fun q hq => ?_, fun i l' R' hl' hR' => ?_⟩
        · rcases List.mem_append.mp hq with m | m
          · exact hqn q m
          · exact List.mem_singleton.mp m ▸ npc
        by_cases k : i < j
        · rw [List.getElem?_append_left (by omega)] at hl'
          exact out ((hqr i l' R' hl' hR').sameT s2) (hqn l' (List.mem_of_getElem? hl'))
        · have hi2 : i = j := by
            have := (List.getElem?_eq_some_iff.mp hl').1
            rw [List.length_append, List.length_singleton] at this
            omega
          subst hi2
          rw [List.getElem?_append_right (by omega), hql, Nat.sub_self] at hl'
          have e1 : p = l' := Option.some.inj hl'
          rw [hR] at hR'
          have e2 := Option.some.inj hR'
          subst e1 e2
          exact out hS npc
      · rintro H1 ⟨s1, qs, hc, hql, _, hqr⟩
        exact ⟨c, rfl, s1, qs, hc, by rw [hql, List.length_map, hll], hqr⟩
    rintro σ1 H1 ⟨c, rfl, s1, hC⟩
    refine ⟨Nat.zero_le _, fun o no => ?_⟩
    have sO := same_upd (o := HO.lst []) no
    have s2 := s1.trans sO
    obtain ⟨cs, hc, hcl, hcat⟩ := hC.same sO
    have no0 : H o = none := s1.free no
    refine ⟨.ref c, rfl, c, rfl, ⟨_, SqL.of hc⟩, for_list (K := K) (a := c) (xs := cs.map V.ref) (fun i σ H' => ∃ (y4 y5 : Option V) (ts : List Addr), σ = [some (.ref np), some (.ref L), some (.ref c), some (.ref o), y4, y5, none] ∧ Same H H' ∧ Same H1 H' ∧ H' o = some (.lst (ts.map V.ref)) ∧
        ts.length = ((Ss.take i).filter satB).length ∧ ∀ (j : Nat) (t : Addr) (R : List SRow), ts[j]? = some t → ((Ss.take i).filter satB)[j]? = some R → TabR H' t R (("0" : Str) :: ns))
      ⟨none, none, [], rfl, s2, sO, upd_same, rfl, fun j t R e => nomatch e⟩ (fun i σ H' _ ⟨_, _, _, _, _, sm, _⟩ => ?_) ?_ ?_⟩
    · obtain ⟨cs', h1, _, _⟩ := hC
      have z := sO _ _ h1
      rw [hc] at z
      injection z with z
      rw [HO.lst.inj z]
      exact SqL.of (sm _ _ h1)
    · rintro i v σ H2 hi ⟨y4, y5, ts, rfl, s3, s13, ho, hlen, htab⟩
      obtain ⟨l, rfl, hl1, hlt⟩ := pick_ref hi
      obtain ⟨R, hR⟩ : ∃ R, Ss[i]? = some R := ⟨_, List.getElem?_eq_getElem (by omega)⟩
      obtain ⟨gR, iR⟩ := hg R (List.mem_of_getElem? hR)
      have hSl : Sys RowT H2 l R := by
        obtain ⟨cs', h1, h2, h3⟩ := hC
        have z := sO _ _ h1
        rw [hc] at z
        injection z with z
        have inj : ∀ (a b : List Addr), a.map V.ref = b.map V.ref → a = b := fun a => by
          induction a with
          | nil => intro b z; cases b with
            | nil => rfl
            | cons _ _ => exact nomatch z
          | cons x a ih => intro b z; cases b with
            | nil => exact nomatch z
            | cons y b =>
              have z1 := List.cons.inj z
              rw [V.ref.inj z1.1, ih b z1.2]
        have e := inj _ _ (HO.lst.inj z)
        exact (h3 i l R (e ▸ hl1) hR).sameT s13
      have etake : Ss.take (i + 1) = Ss.take i ++ [R] := by rw [List.take_add_one, hR]; rfl
      refine ⟨.ref l, rfl, l, R, rfl, hSl, gR, fun H3 x s4 hx => ?_⟩
      have fewT : ts.length ≤ 100 := by
        rw [hlen]
        exact Nat.le_trans (List.length_filter_le _ _) (by rw [List.length_take]; omega)
      rcases hx with ⟨rfl, no'⟩ | ⟨t, ns', ra, rk, rv, rfl, T', hv⟩
      · refine ⟨_, rfl, rfl, _, rfl, iteF ?_⟩
        have ef : (Ss.take (i + 1)).filter satB = (Ss.take i).filter satB := by
          rw [etake, List.filter_append, List.filter_cons, if_neg (by rw [satB_not no']; exact Bool.false_ne_true), List.filter_nil, List.append_nil]
        refine ⟨_, _, ts, rfl, s3.trans s4, s13.trans s4, s4 _ _ ho, by rw [ef]; exact hlen, fun j t R' a b => ?_⟩
        rw [ef] at b
        exact (htab j t R' a b).same s4
      · refine ⟨_, rfl, rfl, _, rfl, iteT ?_⟩
        have ef : (Ss.take (i + 1)).filter satB = (Ss.take i).filter satB ++ [R] := by
          rw [etake, List.filter_append, List.filter_cons, if_pos (satB_iff.mpr hv), List.filter_nil]
        have hTR : TabR H3 t R (("0" : Str) :: ns) := ⟨ns', ra, rk, rv, T'.G, T'.T, hv, fun x hx => (T'.names x).mpr hx, fun x hx => by
          obtain ⟨r, hr', e⟩ := (T'.names x).mp hx
          rcases e with e | e
          · exact e ▸ (iR r hr').1
          · exact e ▸ (iR r hr').2⟩
        have ho3 := s4 _ _ ho
        obtain ⟨ts', q1, q2, q3⟩ := Tabs.snoc ho3 hlen (fun j t R' a b => (htab j t R' a b).same s4) hTR
        refine ⟨.ref o, rfl, .inl ⟨rfl, _, SqL.of ho3⟩, _, rfl, o, _, _, rfl, rfl, ho3, by rw [List.length_map]; exact small1000 (by omega), ?_⟩
        exact ⟨_, _, ts', rfl, (s3.trans s4).later no0, (s13.trans s4).later no, q1, by rw [ef]; exact q2, fun j t R' a b => q3 j t R' a (by rw [ef] at b; exact b)⟩
    · rintro σ H2 ⟨y4, y5, ts, rfl, s3, s13, ho, hlen, htab⟩
      rw [List.length_map, hcl, List.take_length] at hlen htab
      exact ⟨.ref o, rfl, q H2 o s3 no0 ⟨ts, ho, hlen, htab⟩⟩
def spRInit2 (K : PySem.W.Frag) (C : Addr) : Sp := fun vs H Q _ => ∃ (p np L dx : Addr) (ns : List Str) (Ss : List (List SRow)), vs = [.ref p, .ref np, .ref L] ∧ H p = some (.ins C dx []) ∧ SqL K H np (ns.map V.str) ∧ NamesR ns ∧ SyssT H L Ss ∧ Ss.length ≤ 100 ∧ (∀ R ∈ Ss, Good R ∧ ∀ r ∈ R, In2 ns r) ∧
  ∀ H' np' tl, (∀ b o, H b = some o → b ≠ p → H' b = some o) → RegAt C H' p np' tl ns (Ss.filter satB) (("0" : Str) :: ns) → Q .non H'
theorem ok_rinit2 {f fN fT C : Addr} {fd fdN fdT : FuncData} (F : Fun K "__init__" "Region.__init__" sRInit f fd) {fI : Addr} (X : RTxt K mg C fI)
    (GN : FnOk P w K mg base CX0 3 fN fdN ["names"] (spReadN2 K)) (kN : PySem.W.keepIn K (.ref fN) = true) (bN : Binds K fdN ["names"] []) (gN : mg "read_names" = some (.ref fN))
    (GT : FnOk P w K mg base CX0 5 fT fdT ["names", "systems"] (spReadTs2 K)) (kT : PySem.W.keepIn K (.ref fT) = true) (bT : Binds K fdT ["names", "systems"] []) (gT : mg "_read_tables" = some (.ref fT)) :
    FnOk P w K mg base CX0 6 f fd ["self", "names", "systems"] (spRInit2 K C) := by
  refine F.ok scRInit (fun vs H Q E h => ?_) (fun cdv A outer s H vs Q E hr h => ?_)
  · obtain ⟨p, np, L, dx, ns, Ss, rfl, _⟩ := h
    rfl
  · obtain ⟨p, np, L, dx, ns, Ss, rfl, hp, hN, N, hL, few, hg, q⟩ := h
    have nd := scRInit.nd
    refine ⟨_, pss_cons (ps_fld (pv 0) (pe_call GN (hr.mono (by decide)) (by rfl) gN kN bN .nil pass0 (pa_cons (pv 1) pa_nil)) rfl)
      (pss_one (ps_fld (pv 0) (pe_call GT hr (by rfl) gT kT bT .nil pass0 (pa_cons (pe_fld (pv 0) rfl) (pa_cons (pv 2) pa_nil))) rfl)), ?_⟩
    refine ⟨.ref np, rfl, np, ns, rfl, hN, N, fun H1 np1 s1 nnp hnp1 => ?_⟩
    have hp1 := s1 _ _ hp
    refine ⟨_, rfl, p, C, dx, [], rfl, hp1, X.cl, X.nN, by decide, ?_⟩
    have npn : np1 ≠ p := fun e => by
      rw [e, hp] at nnp
      cases nnp
    have hnp2 : upd H1 p (.ins C dx (putF "_names" (.ref np1) [])) np1 = some (.tup (ns.map V.str)) := by
      rw [upd_ne npn]
      exact hnp1
    have out : ∀ {b : Addr} {o : HO}, H1 b = some o → b ≠ p → upd H1 p (.ins C dx (putF "_names" (.ref np1) [])) b = some o := fun {b o} e n => by
      rw [upd_ne n]
      exact e
    have hL2 : SyssT (upd H1 p (.ins C dx (putF "_names" (.ref np1) []))) L Ss := by
      obtain ⟨ls, h1, h2, h3⟩ := hL.same s1
      refine ⟨ls, out h1 (ne_of h1 hp1 (by intro z; cases z)), h2, fun i l R a b => ?_⟩
      obtain ⟨ps, g1, g2, g3⟩ := h3 i l R a b
      refine ⟨ps, out g1 (ne_of g1 hp1 (by intro z; cases z)), g2, fun j q r c d => ?_⟩
      have z := g3 j q r c d
      exact out z (ne_of z hp1 (by intro y; cases y))
    refine ⟨.ref p, rfl, p, C, dx, _, _, rfl, upd_same, X.cl, X.nN, by rw [lookup_putF, if_pos rfl], .ref L, rfl, np1, L, ns, Ss, rfl, SqT.of hnp2, hL2, few, hg, fun H3 tl s3 ntl hT => ?_⟩
    have hp3 := s3 _ _ (upd_same (H := H1) (a := p) (o := HO.ins C dx (putF "_names" (.ref np1) [])))
    refine ⟨_, rfl, p, C, dx, _, rfl, hp3, X.cl, X.nT, by show 1 < 1000; decide, ?_⟩
    refine q _ np1 tl (fun b o e n => ?_) ⟨⟨dx, upd_same⟩, ?_, ?_⟩
    · rw [upd_ne n]
      exact s3 _ _ (out (s1 _ _ e) n)
    · rw [upd_ne npn]
      exact s3 _ _ hnp2
    · obtain ⟨ts, h1, h2, h3⟩ := hT
      have off : ∀ {b : Addr} {kvs : List (Key × V)}, H3 b = some (.dK kvs) → upd H3 p (.ins C dx (putF "_tables" (.ref tl) (putF "_names" (.ref np1) []))) b = some (.dK kvs) := fun {b kvs} e => by
        rw [upd_ne (ne_of e hp3 (by intro z; cases z))]
        exact e
      refine ⟨ts, ?_, h2, fun i t R a b => ?_⟩
      · rw [upd_ne (ne_of h1 hp3 (by intro z; cases z))]
        exact h1
      · obtain ⟨ns', ra, rk, rv, TG, g2, g3, g4, g5⟩ := h3 i t R a b
        exact ⟨ns', ra, rk, rv, ⟨off TG.dict, TG.nd, fun x hx => off (TG.row x hx), TG.off, TG.rnd⟩, g2, g3, g4, g5⟩
end
end Lo
namespace Lo
open PySem L2
abbrev sRWhole : Stmt := inClass sRegion 1
section
variable {P : Program} {w : World} {K : PySem.W.Frag} {mg : Str → Option Value} {base : Heap}
/-! ### whole -/
def spRWhole (K : PySem.W.Frag) (C : Addr) : Sp := fun vs H Q _ => ∃ (np : Addr) (ns : List Str), vs = [.ref C, .ref np] ∧ SqT K H np (ns.map V.str) ∧ NamesR ns ∧ ∀ (H' : Hp) (q : Addr) (Rs : List (List SRow)), Same H H' → H q = none → Reg C H' q ns Rs → (∀ u, US Rs u) → Rs.length = 1 → Q (.ref q) H'
theorem scRWhole : FnScope ["cls", "names"] ["cls", "names"] (defScope sRWhole) := ⟨rfl, rfl, rfl, by decide +kernel, rfl, by decide +kernel, by decide +kernel⟩
theorem ok_rwhole {f fI C : Addr} {fd fdI : FuncData} (F : Fun K "whole" "Region.whole" sRWhole f fd) (X : RTxt K mg C fI) (GI : FnOk P w K mg base CX0 6 fI fdI ["self", "names", "systems"] (spRInit K C)) (bI : Binds K fdI ["self", "names", "systems"] []) :
    FnOk P w K mg base CX0 8 f fd ["cls", "names"] (spRWhole K C) := by
  refine F.ok scRWhole (fun vs H Q E h => ?_) (fun cdv A outer s H vs Q E hr h => ?_)
  · obtain ⟨np, ns, rfl, _⟩ := h
    rfl
  · obtain ⟨np, ns, rfl, hN, N, q⟩ := h
    have nd := scRWhole.nd
    have sz1 : 1 ≤ sizeLine := by decide
    refine ⟨_, pss_one (ps_ret (pe_makeV (i := 0) X.make GI hr bI .nil pass0 rfl (by first | exact .inl rfl | rfl | decide) (pa_cons (pv 1) (pa_cons (pe_lst (pa_cons (pe_lst pa_nil) pa_nil)) pa_nil)))), ?_⟩
    refine ⟨rfl, _, rfl, Nat.zero_le _, fun e ne => ⟨sz1, fun e2 ne2 p dx nx ndx nex => ?_⟩⟩
    have sE := same_upd (o := HO.lst []) ne
    have sE2 := sE.trans (same_upd (o := HO.lst [V.ref e]) ne2)
    have hS : Syss (upd (upd H e (.lst [])) e2 (.lst [V.ref e])) e2 [[]] := ⟨[e], upd_same, rfl, fun i l R a b => by
      have hi : i = 0 := by
        have := (List.getElem?_eq_some_iff.mp a).1
        simp only [List.length_singleton] at this
        omega
      subst hi
      obtain rfl := Option.some.inj a
      obtain rfl := Option.some.inj b
      exact ⟨[], same_upd ne2 _ _ upd_same, rfl, fun i p r e => nomatch e⟩⟩
    have hN2 := same_tup sE2 hN
    generalize upd (upd H e (.lst [])) e2 (.lst [V.ref e]) = H2 at *
    have sD := same_upd (o := HO.own p) ndx
    have nx2 : upd H2 dx (.own p) p = none := by
      rw [upd_ne nex.symm]
      exact nx
    have sP := sD.trans (same_upd (o := HO.ins C dx []) nx2)
    refine ⟨p, np, e2, dx, ns, [[]], rfl, upd_same, same_tup sP hN2, N, hS.same sP, by show 1 ≤ 100; decide, fun R h => ?_, fun H3 np' tl' keep RA => ⟨rfl, ?_⟩⟩
    · obtain rfl := List.mem_singleton.mp h
      exact ⟨⟨fun r hr => absurd hr List.not_mem_nil, Nat.zero_le _⟩, fun r hr => absurd hr List.not_mem_nil⟩
    have s23 : Same H2 H3 := same_new nx fun b o z n => keep b o (sP _ _ z) n
    have e1 : ([[]] : List (List SRow)).filter satB = [[]] := by
      have : satB ([] : List SRow) = true := satB_iff.mpr ⟨fun _ => 0, fun r hr => absurd hr List.not_mem_nil⟩
      rw [List.filter_cons, if_pos this, List.filter_nil]
    rw [e1] at RA
    exact q H3 p [[]] (sE2.trans s23) (sE2.free nx) ⟨np', tl', RA⟩ (fun u => ⟨[], List.mem_cons_self, fun r hr => absurd hr List.not_mem_nil⟩) rfl
def spNothing (K : PySem.W.Frag) (C : Addr) : Sp := fun vs H Q _ => ∃ (np : Addr) (ns : List Str), vs = [.ref C, .ref np] ∧ SqT K H np (ns.map V.str) ∧ NamesR ns ∧ ∀ H' q np' tl, Same H H' → H q = none → RegAt C H' q np' tl ns [] (("0" : Str) :: ns) → Q (.ref q) H'
theorem scNothing : FnScope ["cls", "names"] ["cls", "names"] (defScope sRNothing) := ⟨rfl, rfl, rfl, by decide +kernel, rfl, by decide +kernel, by decide +kernel⟩
theorem ok_nothing {f fI C : Addr} {fd fdI : FuncData} (F : Fun K "nothing" "Region.nothing" sRNothing f fd) (X : RTxt K mg C fI) (GI : FnOk P w K mg base CX0 6 fI fdI ["self", "names", "systems"] (spRInit K C)) (bI : Binds K fdI ["self", "names", "systems"] []) :
    FnOk P w K mg base CX0 8 f fd ["cls", "names"] (spNothing K C) := by
  refine F.ok scNothing (fun vs H Q E h => ?_) (fun cdv A outer s H vs Q E hr h => ?_)
  · obtain ⟨np, ns, rfl, _⟩ := h
    rfl
  · obtain ⟨np, ns, rfl, hN, N, q⟩ := h
    have nd := scNothing.nd
    refine ⟨_, pss_one (ps_ret (pe_makeV (i := 0) X.make GI hr bI .nil pass0 rfl (by first | exact .inl rfl | rfl | decide) (pa_cons (pv 1) (pa_cons (pe_lst pa_nil) pa_nil)))), ?_⟩
    refine ⟨rfl, _, rfl, Nat.zero_le _, fun e ne p dx nx ndx nex => ?_⟩
    have sE := same_upd (o := HO.lst []) ne
    have sD := same_upd (o := HO.own p) ndx
    have nx2 : upd (upd H e (.lst [])) dx (.own p) p = none := by
      rw [upd_ne nex.symm]
      exact nx
    have sP := same_upd (o := HO.ins C dx []) nx2
    have s1 := (sE.trans sD).trans sP
    have he := (sD.trans sP) _ _ (upd_same (H := H) (a := e) (o := HO.lst []))
    refine ⟨p, np, e, dx, ns, [], rfl, upd_same, same_tup s1 hN, N, ⟨[], he, rfl, fun i l R a _ => nomatch a⟩, Nat.zero_le _, fun R h => absurd h List.not_mem_nil, fun H2 np' tl' keep RA => ⟨rfl, ?_⟩⟩
    have npo : H p = none := by
      cases z : H p with
      | none => rfl
      | some o =>
        have y := sE _ _ z
        rw [nx] at y
        cases y
    exact q H2 p np' tl' (same_new npo fun b o z n => keep b o (s1 _ _ z) n) npo RA
end
end Lo
namespace Lo
open PySem L2
section
variable {P : Program} {w : World} {K : PySem.W.Frag} {mg : Str → Option Value} {base : Heap}
def spLPointT (K : PySem.W.Frag) : Sp := fun vs H Q _ => ∃ (s L : Addr) (at_ : Int) (ns : List Str), vs = [.ref s, .int at_, .ref L] ∧ Scr K H s ∧ H L = some (.tup (ns.map V.str)) ∧ ns.Nodup ∧ ns.length ≤ 4 ∧
  ∀ (H' : Hp) (d : Addr) (val : Str → Int), Same H H' → H d = none → PtAt H' d ns val → Q (.ref d) H'
theorem ok_lpointT {f fD : Addr} {fd fdD : FuncData} (F : Fun K "_law_point" "_law_point" sLPoint f fd) (T : Blt mg) (GD : FnOk P w K mg base CX0 1 fD fdD ["script", "at", "many"] (spDraw K)) (kD : PySem.W.keepIn K (.ref fD) = true) (bD : Binds K fdD ["script", "at", "many"] []) (gD : mg "_law_draw" = some (.ref fD)) :
    FnOk P w K mg base CX0 2 f fd ["script", "at", "names"] (spLPointT K) := by
  refine F.ok scLPoint (fun vs H Q E h => ?_) (fun cdv A outer s H vs Q E hr h => ?_)
  · obtain ⟨s, L, a, ns, rfl, _⟩ := h
    rfl
  · obtain ⟨s, L, a, ns, rfl, hS, hL, nodup, few, q⟩ := h
    have nd := scLPoint.nd
    have hu := hu_of hr
    refine ⟨_, pss_cons (ps_set (i := 3) nd rfl (.inl rfl) (pe_ix ix_tup (pe_tup (pa_cons pe_int (pa_cons pe_int (pa_cons pe_int (pa_cons (pe_op op_pow pe_int pe_int) pa_nil)))))
        (pe_call GD hr (by rfl) gD kD bD .nil pass0 (pa_cons (pv 0) (pa_cons (pv 1) (pa_cons pe_int pa_nil)))) (fun _ _ => rfl)))
      (pss_cons (ps_set (i := 4) nd rfl (.inl rfl) pe_dnewK)
      (pss_cons (ps_for PassesOwn.never rfl (pi_enumT (by rfl) T.enum (pa_cons (pv 2) pa_nil)) (pg_tup rfl (pgs_cons (pg_name (i := 5) nd rfl (.inl rfl)) (pgs_cons (pg_name (i := 6) nd rfl (.inl rfl)) pgs_nil)))
        (pss_one (ps_dput hu (pv 4) (pv 6) (pe_op op_add (pe_op op_sub (pe_call GD hr (by rfl) gD kD bD .nil pass0 (pa_cons (pv 0) (pa_cons (pe_op op_add (pe_op op_add (pv 1) pe_int) (pv 5)) (pa_cons pe_int pa_nil)))) pe_int)
          (pe_op op_mul (pv 3) (pe_op op_sub (pe_call GD hr (by rfl) gD kD bD .nil pass0 (pa_cons (pv 0) (pa_cons (pe_op op_add (pe_op op_add (pv 1) pe_int) (pv 5)) (pa_cons pe_int pa_nil)))) pe_int))) rfl)))
      (pss_one (ps_ret (pv 4))))), ?_⟩
    refine ⟨_, _, rfl, rfl, ⟨by decide, by decide, by decide⟩, by show 4 ≤ sizeLine; decide, fun sc nsc => ?_⟩
    have sD := same_upd (o := HO.tup [V.int 0, V.int 0, V.int 1000, V.int (10 ^ Int.toNat 15)]) nsc
    refine ⟨.ref s, rfl, .int a, rfl, s, a, 4, rfl, hS.same sD, by decide, fun H4 k s4 h0 h1 => ?_⟩
    have et := s4 _ _ (upd_same (H := H) (a := sc) (o := HO.tup [V.int 0, V.int 0, V.int 1000, V.int (10 ^ Int.toNat 15)]))
    obtain ⟨far, hat, hs0, hs1⟩ : ∃ far : Int, atI [V.int 0, V.int 0, V.int 1000, V.int (10 ^ Int.toNat 15)] k = some (.int far) ∧ -(2 ^ 64) < far ∧ far < 2 ^ 64 := by
      have hk : k = ((0 : Nat) : Int) ∨ k = ((1 : Nat) : Int) ∨ k = ((2 : Nat) : Int) ∨ k = ((3 : Nat) : Int) := by omega
      rcases hk with rfl | rfl | rfl | rfl
      · exact ⟨0, atI_nat rfl, by decide, by decide⟩
      · exact ⟨0, atI_nat rfl, by decide, by decide⟩
      · exact ⟨1000, atI_nat rfl, by decide, by decide⟩
      · exact ⟨10 ^ Int.toNat 15, atI_nat rfl, by decide, by decide⟩
    refine ⟨sc, _, _, _, rfl, rfl, SqT.of et, hat, ?_⟩
    have s04 := sD.trans s4
    refine fun d nd4 => ?_
    have nd0 := s04.free nd4
    have s5 := s04.trans (same_upd (o := HO.dK []) nd4)
    have hL5 := s5 _ _ hL
    refine ⟨_, rfl, L, _, rfl, SqT.of hL5, for_it walk_enumT (fun i σ H' => ∃ (y5 y6 : Option V) (val : Str → Int), σ = [some (.ref s), some (.int a), some (.ref L), some (.int far), some (.ref d), y5, y6] ∧ Same H H' ∧ H d = none ∧ PtAt H' d (ns.take i) val)
      ⟨none, none, fun _ => 0, rfl, s5, nd0, upd_same⟩ (fun i σ H' _ ⟨_, _, _, _, sm, _⟩ => SqT.of (sm _ _ hL)) ?_ ?_⟩
    · rintro i x σ H2 H3 hi ⟨y5, y6, val, rfl, s2, _, hd2⟩ ⟨tp, x1, x2, rfl, ntp, rfl, e1, e2⟩
      cases e1
      obtain ⟨hi', rfl, etake, hz⟩ := pickS e2
      have sT := same_upd (o := HO.tup [V.int (i : Nat), V.str ns[i]]) ntp
      have s3 := s2.trans sT
      have hd3 := sT _ _ hd2
      refine ⟨tp, _, rfl, SqT.of upd_same, rfl, _, _, rfl, _, _, rfl, rfl, ?_⟩
      generalize upd H2 tp (.tup [V.int (i : Nat), V.str ns[i]]) = H3 at *
      refine ⟨.ref s, rfl, _, rfl, _, _, rfl, rfl, _, rfl, _, _, rfl, rfl, s, _, 13, rfl, hS.same s3, by decide, fun H4 k1 s4' _ _ => ?_⟩
      have s34 := s3.trans s4'
      refine ⟨_, _, rfl, rfl, _, rfl, .ref s, rfl, _, rfl, _, _, rfl, rfl, _, rfl, _, _, rfl, rfl, s, _, 5, rfl, hS.same s34, by decide, fun H5 k2 s5' _ _ => ?_⟩
      have s35 := s34.trans s5'
      have hd5 := s5' _ _ (s4' _ _ hd3)
      refine ⟨_, _, rfl, rfl, _, _, rfl, rfl, .inl ⟨hs0, hs1⟩, _, _, rfl, rfl, ?_⟩
      have hout : ns[i] ∉ ns.take i := fun m => by
        have h1 := nodup
        rw [← List.take_append_drop i ns] at h1
        exact (List.nodup_append.mp h1).2.2 _ m _ (by rw [List.drop_eq_getElem_cons hi']; exact List.mem_cons_self) rfl
      have e1 : addN (ns.take i) ns[i] = ns.take (i + 1) := by
        unfold addN
        rw [if_neg hout, etake]
      refine ⟨_, rfl, _, rfl, d, _, rfl, dput ns[i] _ hd5 (by rw [List.length_take]; omega), ?_⟩
      refine ⟨_, _, put val ns[i] (k1 - 6 + far * (k2 - 2)), rfl, s35.later nd0, nd0, ?_⟩
      unfold PtAt
      rw [upd_same, e1]
      exact congrArg (fun g => some (HO.dK (dS (ns.take (i + 1)) g))) (put_map (fun n : Int => V.int n) ..)
    · rintro σ H2 ⟨y5, y6, val, rfl, s2, _, hd2⟩
      rw [List.length_map, List.take_length] at hd2
      exact ⟨_, rfl, q H2 d val s2 nd0 hd2⟩
end
end Lo
/-! What numbers the entries of a table can be: sums along ways of at most three rows. -/
namespace Lo
section
variable {α : Type} [DecidableEq α]
variable {M : List (Row α)} {v : α → Int} {zs : List α}
/-- a sum along a way without a side twice, over four sides at most -/
def SV (M : List (Row α)) (a b : α) (s : Int) : Prop := (a, b, s) ∈ M ∨ (∃ m x y, m ≠ a ∧ m ≠ b ∧ (a, m, x) ∈ M ∧ (m, b, y) ∈ M ∧ s = x + y) ∨
  ∃ m n x y z, m ≠ a ∧ m ≠ b ∧ n ≠ a ∧ n ≠ b ∧ m ≠ n ∧ (a, m, x) ∈ M ∧ (m, n, y) ∈ M ∧ (n, b, z) ∈ M ∧ s = x + y + z
theorem SV.mono {M' : List (Row α)} (h : ∀ q ∈ M, q ∈ M') {a b : α} {s : Int} (k : SV M a b s) : SV M' a b s := by
  rcases k with k | ⟨m, x, y, h1, h2, h3, h4, h5⟩ | ⟨m, n, x, y, z, h1, h2, h3, h4, h5, h6, h7, h8, h9⟩
  · exact .inl (h _ k)
  · exact .inr (.inl ⟨m, x, y, h1, h2, h _ h3, h _ h4, h5⟩)
  · exact .inr (.inr ⟨m, n, x, y, z, h1, h2, h3, h4, h5, h _ h6, h _ h7, h _ h8, h9⟩)
theorem sv_told {a b : α} {s : Int} (k : SV M a b s) : Told M a b s := by
  rcases k with k | ⟨m, x, y, h1, h2, h3, h4, rfl⟩ | ⟨m, n, x, y, z, h1, h2, h3, h4, h5, h6, h7, h8, rfl⟩
  · exact told_own k
  · exact told_trans (told_own h3) (told_own h4)
  · exact told_trans (told_trans (told_own h6) (told_own h7)) (told_own h8)
theorem five_no {zs : List α} (hz : zs.length ≤ 4) {a b c d e : α} (ha : a ∈ zs) (hb : b ∈ zs) (hc : c ∈ zs) (hd : d ∈ zs) (he : e ∈ zs) (nd : [a, b, c, d, e].Nodup) : False := by
  have := nodup_le [a, b, c, d, e] zs nd fun x hx => by
    simp only [List.mem_cons, List.not_mem_nil, or_false] at hx
    rcases hx with rfl | rfl | rfl | rfl | rfl
    · exact ha
    · exact hb
    · exact hc
    · exact hd
    · exact he
  simp only [List.length_cons, List.length_nil] at this
  omega
theorem way_sv (hv : Sat M v) (hz : zs.length ≤ 4) (hM : ∀ q ∈ M, q.1 ∈ zs ∧ q.2.1 ∈ zs) : ∀ {a b : α} {s : Int} {n : Nat}, Way M a b s n → a ≠ b → ∃ s', s' ≤ s ∧ SV M a b s' := by
  intro a b s n w
  induction w with
  | nil a => exact fun h => absurd rfl h
  | cons hm w ih =>
    rename_i a m b c s1 n1
    intro ab
    have ca := hv _ hm
    dsimp only at ca
    by_cases mb : m = b
    · subst mb
      have := way_told w v hv
      exact ⟨c, by omega, .inl hm⟩
    obtain ⟨s', hs', k⟩ := ih mb
    by_cases ma : m = a
    · subst ma
      exact ⟨s', by omega, k⟩
    rcases k with k | ⟨x, c1, c2, x1, x2, h1, h2, rfl⟩ | ⟨x, y, c1, c2, c3, x1, x2, y1, y2, xy, h1, h2, h3, rfl⟩
    · exact ⟨c + s', by omega, .inr (.inl ⟨m, c, s', ma, mb, hm, k, rfl⟩)⟩
    · by_cases xa : x = a
      · subst xa
        have := hv _ h1
        dsimp only at this
        exact ⟨c2, by omega, .inl h2⟩
      · exact ⟨c + c1 + c2, by omega, .inr (.inr ⟨m, x, c, c1, c2, ma, mb, xa, x2, fun e => x1 e.symm, hm, h1, h2, rfl⟩)⟩
    · by_cases xa : x = a
      · subst xa
        have := hv _ h1
        dsimp only at this
        exact ⟨c2 + c3, by omega, .inr (.inl ⟨y, c2, c3, fun e => xy e.symm, y2, h2, h3, rfl⟩)⟩
      · by_cases ya : y = a
        · subst ya
          have t1 := hv _ h1
          have t2 := hv _ h2
          dsimp only at t1 t2
          exact ⟨c3, by omega, .inl h3⟩
        · exfalso
          refine five_no hz (hM _ hm).1 (hM _ hm).2 (hM _ h1).2 (hM _ h2).2 (hM _ h3).2 (a := a) (b := m) (c := x) (d := y) (e := b) ?_
          simp only [List.nodup_cons, List.mem_cons, List.not_mem_nil, or_false, not_or, List.nodup_nil, and_true, not_false_eq_true]
          exact ⟨⟨fun e => ma e.symm, fun e => xa e.symm, fun e => ya e.symm, ab⟩, ⟨fun e => x1 e.symm, fun e => y1 e.symm, mb⟩, ⟨xy, x2⟩, y2⟩
/-- an entry is such a sum -/
theorem d_sv (hv : Sat M v) (hz : zs.length ≤ 4) (hM : ∀ q ∈ M, q.1 ∈ zs ∧ q.2.1 ∈ zs) {a b : α} {k : Int} (ab : a ≠ b) (h : D M a b = some k) : SV M a b k := by
  obtain ⟨n, s, w, hs⟩ := told_way hv (d_told hv h)
  obtain ⟨s', hs', sv⟩ := way_sv hv hz hM w ab
  obtain ⟨y, e, hy⟩ := told_d hv (sv_told sv)
  rw [h] at e
  have e := Option.some.inj e
  have : s' = k := by omega
  rw [← this]
  exact sv
/-! ### how many there are -/
def pvs (M : List (Row α)) (a b : α) : List Int := M.filterMap fun q => if q.1 = a ∧ q.2.1 = b then some q.2.2 else none
theorem mem_pvs {a b : α} {c : Int} : c ∈ pvs M a b ↔ (a, b, c) ∈ M := by
  unfold pvs
  rw [List.mem_filterMap]
  constructor
  · rintro ⟨⟨x, y, z⟩, hq, e⟩
    dsimp only at e
    split at e
    · rename_i h
      rw [← h.1, ← h.2, ← Option.some.inj e]
      exact hq
    · cases e
  · intro h
    exact ⟨_, h, if_pos ⟨rfl, rfl⟩⟩
def sums (X Y : List Int) : List Int := X.flatMap fun x => Y.map fun y => x + y
theorem mem_sums {X Y : List Int} {s : Int} : s ∈ sums X Y ↔ ∃ x ∈ X, ∃ y ∈ Y, s = x + y := by
  unfold sums
  rw [List.mem_flatMap]
  constructor
  · rintro ⟨x, hx, h⟩
    obtain ⟨y, hy, e⟩ := List.mem_map.mp h
    exact ⟨x, hx, y, hy, e.symm⟩
  · rintro ⟨x, hx, y, hy, e⟩
    exact ⟨x, hx, List.mem_map.mpr ⟨y, hy, e.symm⟩⟩
theorem len_sums (X Y : List Int) : (sums X Y).length = X.length * Y.length := by
  induction X with
  | nil => simp [sums]
  | cons x X ih =>
    show ((Y.map fun y => x + y) ++ sums X Y).length = (X.length + 1) * Y.length
    rw [List.length_append, List.length_map, ih, Nat.add_mul]
    omega
def V4 (M : List (Row α)) (a b c d : α) : List Int := pvs M a b ++ (sums (pvs M a c) (pvs M c b) ++ (sums (pvs M a d) (pvs M d b) ++ (sums (sums (pvs M a c) (pvs M c d)) (pvs M d b) ++ sums (sums (pvs M a d) (pvs M d c)) (pvs M c b))))
theorem len_V4 (M : List (Row α)) (a b c d : α) : (V4 M a b c d).length = (pvs M a b).length + ((pvs M a c).length * (pvs M c b).length + ((pvs M a d).length * (pvs M d b).length + ((pvs M a c).length * (pvs M c d).length * (pvs M d b).length + (pvs M a d).length * (pvs M d c).length * (pvs M c b).length))) := by
  unfold V4
  simp only [List.length_append, len_sums]
theorem sv_V4 {a b c d : α} {s : Int} (h : SV M a b s) (hM : ∀ q ∈ M, q.2.1 = a ∨ q.2.1 = b ∨ q.2.1 = c ∨ q.2.1 = d) : s ∈ V4 M a b c d := by
  unfold V4
  rcases h with k | ⟨m, x, y, h1, h2, h3, h4, rfl⟩ | ⟨m, n, x, y, z, h1, h2, h3, h4, h5, h6, h7, h8, rfl⟩
  · exact List.mem_append_left _ (mem_pvs.mpr k)
  · refine List.mem_append_right _ ?_
    rcases hM _ h3 with e | e | e | e
    · exact absurd e h1
    · exact absurd e h2
    · have e : m = c := e
      subst e
      exact List.mem_append_left _ (mem_sums.mpr ⟨x, mem_pvs.mpr h3, y, mem_pvs.mpr h4, rfl⟩)
    · have e : m = d := e
      subst e
      exact List.mem_append_right _ (List.mem_append_left _ (mem_sums.mpr ⟨x, mem_pvs.mpr h3, y, mem_pvs.mpr h4, rfl⟩))
  · refine List.mem_append_right _ (List.mem_append_right _ (List.mem_append_right _ ?_))
    rcases hM _ h6 with e | e | e | e
    · exact absurd e h1
    · exact absurd e h2
    · have e : m = c := e
      subst e
      rcases hM _ h7 with e | e | e | e
      · exact absurd e h3
      · exact absurd e h4
      · exact absurd e.symm h5
      · have e : n = d := e
        subst e
        exact List.mem_append_left _ (mem_sums.mpr ⟨x + y, mem_sums.mpr ⟨x, mem_pvs.mpr h6, y, mem_pvs.mpr h7, rfl⟩, z, mem_pvs.mpr h8, rfl⟩)
    · have e : m = d := e
      subst e
      rcases hM _ h7 with e | e | e | e
      · exact absurd e h3
      · exact absurd e h4
      · have e : n = c := e
        subst e
        exact List.mem_append_right _ (mem_sums.mpr ⟨x + y, mem_sums.mpr ⟨x, mem_pvs.mpr h6, y, mem_pvs.mpr h7, rfl⟩, z, mem_pvs.mpr h8, rfl⟩)
      · exact absurd e.symm h5
/-- the rows and what denies them -/
def Lts (G : List (Row α)) : List (Row α) := G ++ G.map cutRow
theorem len_pvs_app (M N : List (Row α)) (a b : α) : (pvs (M ++ N) a b).length = (pvs M a b).length + (pvs N a b).length := by
  unfold pvs
  rw [List.filterMap_append, List.length_append]
theorem len_pvs_cons (q : Row α) (M : List (Row α)) (a b : α) : (pvs (q :: M) a b).length = (if q.1 = a ∧ q.2.1 = b then 1 else 0) + (pvs M a b).length := by
  unfold pvs
  rw [List.filterMap_cons]
  split
  · rename_i h
    split at h
    · cases h
    · rename_i k
      rw [if_neg k]
      omega
  · rename_i c h
    split at h
    · rename_i k
      rw [if_pos k, List.length_cons]
      omega
    · cases h
theorem len_pvs_cut (G : List (Row α)) (a b : α) : (pvs (G.map cutRow) a b).length = (pvs G b a).length := by
  induction G with
  | nil => rfl
  | cons q G ih =>
    rw [List.map_cons, len_pvs_cons, len_pvs_cons, ih]
    show (if q.2.1 = a ∧ q.1 = b then 1 else 0) + _ = (if q.1 = b ∧ q.2.1 = a then 1 else 0) + _
    congr 1
    by_cases h : q.2.1 = a ∧ q.1 = b
    · rw [if_pos h, if_pos ⟨h.2, h.1⟩]
    · rw [if_neg h, if_neg fun z => h ⟨z.2, z.1⟩]
theorem len_lts (G : List (Row α)) (a b : α) : (pvs (Lts G) a b).length = (pvs G a b).length + (pvs G b a).length := by
  unfold Lts
  rw [len_pvs_app, len_pvs_cut]
theorem one_pair (x : α × α) : ∀ Ps : List (α × α), Ps.Nodup → (Ps.map fun p => if x.1 = p.1 ∧ x.2 = p.2 then 1 else 0).sum ≤ 1
  | [], _ => by simp
  | p :: Ps, h => by
    obtain ⟨h1, h2⟩ := List.nodup_cons.mp h
    have ih := one_pair x Ps h2
    rw [List.map_cons, List.sum_cons]
    by_cases k : x.1 = p.1 ∧ x.2 = p.2
    · have e : x = p := Prod.ext k.1 k.2
      have z : (Ps.map fun p => if x.1 = p.1 ∧ x.2 = p.2 then 1 else 0).sum = 0 := by
        clear ih h h2
        induction Ps with
        | nil => rfl
        | cons q Ps ih =>
          rw [List.map_cons, List.sum_cons, ih fun z => h1 (List.mem_cons_of_mem _ z), if_neg fun z => h1 ?_]
          have : x = q := Prod.ext z.1 z.2
          rw [← e, this]
          exact List.mem_cons_self
      rw [if_pos k, z]
      exact Nat.le_refl _
    · rw [if_neg k]
      omega
theorem all_pairs (Ps : List (α × α)) (nd : Ps.Nodup) : ∀ G : List (Row α), (Ps.map fun p => (pvs G p.1 p.2).length).sum ≤ G.length
  | [] => by
    have : ∀ Qs : List (α × α), (Qs.map fun p => (pvs ([] : List (Row α)) p.1 p.2).length).sum = 0 := by
      intro Qs
      induction Qs with
      | nil => rfl
      | cons p Qs ih =>
        rw [List.map_cons, List.sum_cons, ih]
        rfl
    rw [this]
    exact Nat.le_refl _
  | q :: G => by
    have ih := all_pairs Ps nd G
    have h1 := one_pair (q.1, q.2.1) Ps nd
    have : ∀ Qs : List (α × α), (Qs.map fun p => (pvs (q :: G) p.1 p.2).length).sum = (Qs.map fun p => if q.1 = p.1 ∧ q.2.1 = p.2 then 1 else 0).sum + (Qs.map fun p => (pvs G p.1 p.2).length).sum := by
      intro Qs
      induction Qs with
      | nil => rfl
      | cons p Qs ih =>
        rw [List.map_cons, List.sum_cons, ih, List.map_cons, List.sum_cons, List.map_cons, List.sum_cons, len_pvs_cons]
        omega
    rw [this]
    show _ ≤ G.length + 1
    have h1' : (Ps.map fun p => if q.1 = p.1 ∧ q.2.1 = p.2 then 1 else 0).sum ≤ 1 := h1
    omega
theorem four_mul (x y : Nat) : 4 * (x * y) ≤ (x + y) * (x + y) := by
  rcases Nat.le_total x y with h | h
  · obtain ⟨k, rfl⟩ := Nat.exists_eq_add_of_le h
    have : (x + (x + k)) * (x + (x + k)) = 4 * (x * (x + k)) + k * k := by grind
    omega
  · obtain ⟨k, rfl⟩ := Nat.exists_eq_add_of_le h
    have : (y + k + y) * (y + k + y) = 4 * ((y + k) * y) + k * k := by grind
    omega
theorem small_abc : ∀ A, A < 13 → ∀ B, B < 13 → ∀ C, C < 13 → A + B + C ≤ 12 → 4 * (A + B + C) + 4 * (A * B + B * C + C * A) + A * A * (B + C) + B * B * (A + C) + C * C * (A + B) ≤ 624 := by decide +kernel
theorem paths_few {p q r s t u : Nat} (h : p + q + r + s + t + u ≤ 12) : (p + (q * s + (r * t + (q * u * t + r * u * s)))) + (q + (p * s + (r * u + (p * t * u + r * t * s)))) + (r + (p * t + (q * u + (p * s * u + q * s * t)))) + (s + (p * q + (t * u + (p * r * u + t * r * q)))) + (t + (p * r + (s * u + (p * q * u + s * q * r)))) + (u + (q * r + (s * t + (q * p * t + s * p * r)))) ≤ 156 := by
  have a1 := Nat.mul_le_mul_right (q + t + (r + s)) (four_mul p u)
  have a2 := Nat.mul_le_mul_right (p + u + (r + s)) (four_mul q t)
  have a3 := Nat.mul_le_mul_right (p + u + (q + t)) (four_mul r s)
  have b := small_abc (p + u) (by omega) (q + t) (by omega) (r + s) (by omega) (by omega)
  grind
end
end Lo
/-! A list of all rows that the entries can be. -/
namespace Lo
open PySem
section
variable {α : Type} [DecidableEq α]
def prs (a b c d : α) : List ((α × α) × (α × α)) := [((a, b), (c, d)), ((a, c), (b, d)), ((a, d), (b, c)), ((b, c), (a, d)), ((b, d), (a, c)), ((c, d), (a, b)), ((b, a), (c, d)), ((c, a), (b, d)), ((d, a), (b, c)), ((c, b), (a, d)), ((d, b), (a, c)), ((d, c), (a, b))]
noncomputable def entL (G : List (Row α)) (Rs : List (List (Row α))) (a b c d : α) : List (Row α) := (prs a b c d).flatMap fun p => (V4 (Lts G) p.1.1 p.1.2 p.2.1 p.2.2 ++ Rs.filterMap fun R => D R p.1.1 p.1.2).map fun k => (p.1.1, p.1.2, k)
theorem len_fm {β γ : Type} (f : β → Option γ) : ∀ l : List β, (l.filterMap f).length ≤ l.length := fun l => List.length_filterMap_le f l
theorem entL_len {G : List (Row α)} {Rs : List (List (Row α))} {a b c d : α} (nd : [a, b, c, d].Nodup) (hG : G.length ≤ 12) : (entL G Rs a b c d).length ≤ 312 + 12 * Rs.length := by
  simp only [List.nodup_cons, List.mem_cons, List.not_mem_nil, or_false, not_or, List.nodup_nil, and_true, not_false_eq_true] at nd
  obtain ⟨⟨ab, ac, ad⟩, ⟨bc, bd⟩, cd⟩ := nd
  have tot := all_pairs [(a, b), (b, a), (a, c), (c, a), (a, d), (d, a), (b, c), (c, b), (b, d), (d, b), (c, d), (d, c)] (by
    simp only [List.nodup_cons, List.mem_cons, List.not_mem_nil, or_false, not_or, List.nodup_nil, and_true, not_false_eq_true, Prod.mk.injEq, not_and]
    refine ⟨⟨?_, ?_, ?_, ?_, ?_, ?_, ?_, ?_, ?_, ?_, ?_⟩, ⟨?_, ?_, ?_, ?_, ?_, ?_, ?_, ?_, ?_, ?_⟩, ⟨?_, ?_, ?_, ?_, ?_, ?_, ?_, ?_, ?_⟩, ⟨?_, ?_, ?_, ?_, ?_, ?_, ?_, ?_⟩, ⟨?_, ?_, ?_, ?_, ?_, ?_, ?_⟩, ⟨?_, ?_, ?_, ?_, ?_, ?_⟩, ⟨?_, ?_, ?_, ?_, ?_⟩, ⟨?_, ?_, ?_, ?_⟩, ⟨?_, ?_, ?_⟩, ⟨?_, ?_⟩, ?_⟩ <;> grind) G
  simp only [List.map_cons, List.map_nil, List.sum_cons, List.sum_nil] at tot
  have H := len_lts G
  have key := paths_few (p := (pvs G a b).length + (pvs G b a).length) (q := (pvs G a c).length + (pvs G c a).length) (r := (pvs G a d).length + (pvs G d a).length) (s := (pvs G b c).length + (pvs G c b).length) (t := (pvs G b d).length + (pvs G d b).length) (u := (pvs G c d).length + (pvs G d c).length) (by omega)
  have e : ∀ x y, (Rs.filterMap fun R => D R x y).length ≤ Rs.length := fun x y => len_fm _ _
  have e1 := e a b
  have e2 := e a c
  have e3 := e a d
  have e4 := e b c
  have e5 := e b d
  have e6 := e c d
  have e7 := e b a
  have e8 := e c a
  have e9 := e d a
  have e10 := e c b
  have e11 := e d b
  have e12 := e d c
  unfold entL prs
  simp only [List.flatMap_cons, List.flatMap_nil, List.length_append, List.length_map, List.length_nil, len_V4, H]
  have c1 : (pvs G b a).length + (pvs G a b).length = (pvs G a b).length + (pvs G b a).length := Nat.add_comm _ _
  have c2 : (pvs G c a).length + (pvs G a c).length = (pvs G a c).length + (pvs G c a).length := Nat.add_comm _ _
  have c3 : (pvs G d a).length + (pvs G a d).length = (pvs G a d).length + (pvs G d a).length := Nat.add_comm _ _
  have c4 : (pvs G c b).length + (pvs G b c).length = (pvs G b c).length + (pvs G c b).length := Nat.add_comm _ _
  have c5 : (pvs G d b).length + (pvs G b d).length = (pvs G b d).length + (pvs G d b).length := Nat.add_comm _ _
  have c6 : (pvs G d c).length + (pvs G c d).length = (pvs G c d).length + (pvs G d c).length := Nat.add_comm _ _
  simp only [c1, c2, c3, c4, c5, c6]
  generalize (pvs G a b).length + (pvs G b a).length = p at *
  generalize (pvs G a c).length + (pvs G c a).length = q at *
  generalize (pvs G a d).length + (pvs G d a).length = r at *
  generalize (pvs G b c).length + (pvs G c b).length = s at *
  generalize (pvs G b d).length + (pvs G d b).length = t at *
  generalize (pvs G c d).length + (pvs G d c).length = u at *
  clear H e tot c1 c2 c3 c4 c5 c6
  generalize (Rs.filterMap fun R => D R a b).length = w1 at *
  generalize (Rs.filterMap fun R => D R a c).length = w2 at *
  generalize (Rs.filterMap fun R => D R a d).length = w3 at *
  generalize (Rs.filterMap fun R => D R b c).length = w4 at *
  generalize (Rs.filterMap fun R => D R b d).length = w5 at *
  generalize (Rs.filterMap fun R => D R c d).length = w6 at *
  generalize (Rs.filterMap fun R => D R b a).length = w7 at *
  generalize (Rs.filterMap fun R => D R c a).length = w8 at *
  generalize (Rs.filterMap fun R => D R d a).length = w9 at *
  generalize (Rs.filterMap fun R => D R c b).length = w10 at *
  generalize (Rs.filterMap fun R => D R d b).length = w11 at *
  generalize (Rs.filterMap fun R => D R d c).length = w12 at *
  generalize Rs.length = N at *
  have m : ∀ x y : Nat, x * y = y * x := Nat.mul_comm
  grind
theorem entL_mem {G : List (Row α)} {Rs : List (List (Row α))} {a b c d : α} (hG : ∀ q ∈ Lts G, q.2.1 ∈ [a, b, c, d]) {x y : α} {k : Int} (ne : x ≠ y) (hx : x ∈ [a, b, c, d]) (hy : y ∈ [a, b, c, d]) (h : SV (Lts G) x y k ∨ ∃ R ∈ Rs, D R x y = some k) : (x, y, k) ∈ entL G Rs a b c d := by
  have : ∃ c' d', ((x, y), (c', d')) ∈ prs a b c d ∧ ∀ z ∈ [a, b, c, d], z = x ∨ z = y ∨ z = c' ∨ z = d' := by
    unfold prs
    simp only [List.mem_cons, List.not_mem_nil, or_false] at hx hy ⊢
    rcases hx with rfl | rfl | rfl | rfl
    · rcases hy with rfl | rfl | rfl | rfl
      · exact absurd rfl ne
      · exact ⟨c, d, by simp, by grind⟩
      · exact ⟨b, d, by simp, by grind⟩
      · exact ⟨b, c, by simp, by grind⟩
    · rcases hy with rfl | rfl | rfl | rfl
      · exact ⟨c, d, by simp, by grind⟩
      · exact absurd rfl ne
      · exact ⟨a, d, by simp, by grind⟩
      · exact ⟨a, c, by simp, by grind⟩
    · rcases hy with rfl | rfl | rfl | rfl
      · exact ⟨b, d, by simp, by grind⟩
      · exact ⟨a, d, by simp, by grind⟩
      · exact absurd rfl ne
      · exact ⟨a, b, by simp, by grind⟩
    · rcases hy with rfl | rfl | rfl | rfl
      · exact ⟨b, c, by simp, by grind⟩
      · exact ⟨a, c, by simp, by grind⟩
      · exact ⟨a, b, by simp, by grind⟩
      · exact absurd rfl ne
  obtain ⟨c', d', hp, hz⟩ := this
  unfold entL
  refine List.mem_flatMap.mpr ⟨_, hp, List.mem_map.mpr ⟨k, ?_, rfl⟩⟩
  rcases h with h | ⟨R, hR, h⟩
  · exact List.mem_append_left _ (sv_V4 h fun q hq => hz _ (hG q hq))
  · exact List.mem_append_right _ (List.mem_filterMap.mpr ⟨R, hR, h⟩)
end
theorem fresh (zs : List Str) : ∃ x : Str, x ∉ zs := by
  have big : ∀ zs : List Str, ∀ y ∈ zs, y.cps.size ≤ (zs.map fun s => s.cps.size).sum := by
    intro zs
    induction zs with
    | nil => intro y h; exact nomatch h
    | cons z zs ih =>
      intro y h
      rw [List.map_cons, List.sum_cons]
      rcases List.mem_cons.mp h with e | e
      · rw [e]; omega
      · have := ih y e; omega
  refine ⟨⟨(List.replicate ((zs.map fun s => s.cps.size).sum + 1) 0).toArray⟩, fun h => ?_⟩
  have := big zs _ h
  simp at this
  omega
theorem pad (n : Nat) : ∀ (k : Nat) (zs : List Str), zs.Nodup → zs.length + k = n → ∃ ws : List Str, ws.Nodup ∧ ws.length = n ∧ ∀ z ∈ zs, z ∈ ws
  | 0, zs, nd, h => ⟨zs, nd, by omega, fun z hz => hz⟩
  | k + 1, zs, nd, h => by
    obtain ⟨x, hx⟩ := fresh zs
    obtain ⟨ws, h1, h2, h3⟩ := pad n k (x :: zs) (List.nodup_cons.mpr ⟨hx, nd⟩) (by rw [List.length_cons]; omega)
    exact ⟨ws, h1, h2, fun z hz => h3 z (List.mem_cons_of_mem _ hz)⟩
/-- all rows that can be entries -/
theorem few_rows {zs : List Str} (nd : zs.Nodup) (hz : zs.length ≤ 4) {G : List (Row Str)} (hG : G.length ≤ 12) (inG : ∀ q ∈ G, q.1 ∈ zs ∧ q.2.1 ∈ zs) (Rs : List (List (Row Str))) : ∃ E : List (Row Str), E.length ≤ 312 + 12 * Rs.length ∧ (∀ e ∈ E, e.1 ∈ zs ∧ e.2.1 ∈ zs) ∧
    ∀ (x y : Str) (k : Int), x ≠ y → x ∈ zs → y ∈ zs → (SV (Lts G) x y k ∨ ∃ R ∈ Rs, D R x y = some k) → (x, y, k) ∈ E := by
  obtain ⟨ws, n1, n2, n3⟩ := pad 4 (4 - zs.length) zs nd (by omega)
  match ws, n1, n2, n3 with
  | [a, b, c, d], n1, _, n3 =>
    refine ⟨(entL G Rs a b c d).filter fun e => decide (e.1 ∈ zs ∧ e.2.1 ∈ zs), Nat.le_trans (List.length_filter_le _ _) (entL_len n1 hG), fun e he => by simpa using (List.mem_filter.mp he).2, fun x y k ne hx hy h => ?_⟩
    refine List.mem_filter.mpr ⟨entL_mem (fun q hq => ?_) ne (n3 x hx) (n3 y hy) h, by simpa using ⟨hx, hy⟩⟩
    unfold Lts at hq
    rcases List.mem_append.mp hq with m | m
    · exact n3 _ (inG q m).2
    · obtain ⟨g, hg, rfl⟩ := List.mem_map.mp m
      exact n3 _ (inG g hg).1
  | [], _, h, _ => exact absurd h (by decide)
  | [_], _, h, _ => exact absurd h (by simp)
  | [_, _], _, h, _ => exact absurd h (by simp)
  | [_, _, _], _, h, _ => exact absurd h (by simp)
  | _ :: _ :: _ :: _ :: _ :: _, _, h, _ => exact absurd h (by simp)
/-- the entries of some tables, as rows -/
noncomputable def entsOf (zs : List Str) (Rs : List (List (Row Str))) : List (Row Str) := zs.flatMap fun x => zs.flatMap fun y => Rs.filterMap fun R => (D R x y).map fun k => (x, y, k)
theorem entsOf_len (zs : List Str) (Rs : List (List (Row Str))) : (entsOf zs Rs).length ≤ zs.length * (zs.length * Rs.length) := by
  have flat : ∀ {β : Type} (f : β → List (Row Str)) (N : Nat) (l : List β), (∀ x, (f x).length ≤ N) → (l.flatMap f).length ≤ l.length * N := by
    intro β f N l h
    induction l with
    | nil => exact Nat.zero_le _
    | cons x l ih =>
      rw [List.flatMap_cons, List.length_append, List.length_cons, Nat.add_mul]
      have := h x
      omega
  exact flat _ _ _ fun x => flat _ _ _ fun y => len_fm _ _
theorem entsOf_mem {zs : List Str} {Rs : List (List (Row Str))} {R : List (Row Str)} (hR : R ∈ Rs) {x y : Str} {k : Int} (hx : x ∈ zs) (hy : y ∈ zs) (h : D R x y = some k) : (x, y, k) ∈ entsOf zs Rs :=
  List.mem_flatMap.mpr ⟨x, hx, List.mem_flatMap.mpr ⟨y, hy, List.mem_filterMap.mpr ⟨R, hR, by rw [h]; rfl⟩⟩⟩
theorem entsOf_in {zs : List Str} {Rs : List (List (Row Str))} : ∀ e ∈ entsOf zs Rs, e.1 ∈ zs ∧ e.2.1 ∈ zs := fun e he => by
  obtain ⟨x, hx, h⟩ := List.mem_flatMap.mp he
  obtain ⟨y, hy, h⟩ := List.mem_flatMap.mp h
  obtain ⟨R, hR, h⟩ := List.mem_filterMap.mp h
  obtain ⟨k, hk, rfl⟩ := Option.map_eq_some_iff.mp h
  exact ⟨hx, hy⟩
theorem phi_bound {N : Nat} (h : N ≤ 400) : phi N 3 < 16777216 := by
  have h1 := phi_three N
  have h2 : N * N * N ≤ 400 * 400 * 400 := Nat.mul_le_mul (Nat.mul_le_mul h h) h
  omega
end Lo
namespace Lo
open PySem L2
/-- what is asked of the class, for the law -/
structure RLaw6 (K : PySem.W.Frag) (C fSa fPt fAnd fSub fOr fInv fB fC pN fN pP fP : Addr) : Prop where
  mSa : Meth K C "same" fSa
  mPt : Meth K C "point" fPt
  self : PySem.W.selfFirst K C = true
  and_ : PySem.W.findIn K (.ref C) "__and__" = some (some (.ref fAnd))
  andF : PySem.W.isFn K (.ref fAnd) = true
  sub : PySem.W.findIn K (.ref C) "__sub__" = some (some (.ref fSub))
  subF : PySem.W.isFn K (.ref fSub) = true
  or_ : PySem.W.findIn K (.ref C) "__or__" = some (some (.ref fOr))
  orF : PySem.W.isFn K (.ref fOr) = true
  inv : PySem.W.findIn K (.ref C) "__invert__" = some (some (.ref fInv))
  invF : PySem.W.isFn K (.ref fInv) = true
  bool : PySem.W.findIn K (.ref C) "__bool__" = some (some (.ref fB))
  boolF : PySem.W.isFn K (.ref fB) = true
  cI : PySem.W.findIn K (.ref C) "__contains__" = some (some (.ref fC))
  cF : PySem.W.isFn K (.ref fC) = true
  pN : PropOf K C "names" pN fN
  pP : PropOf K C "pieces" pP fP
section
variable {C p p2 d : Addr} {H : Hp} {ns : List Str} {Rs Rs2 : List (List SRow)} {val : Str → Int} {Q : VK} {E : XK}
theorem Reg.obj (h : Reg C H p ns Rs) : ∃ dx fs, H p = some (.ins C dx fs) := by
  obtain ⟨np, tl, RA⟩ := h
  obtain ⟨dx, e⟩ := RA.ob
  exact ⟨dx, _, e⟩
theorem inO_reg (R : Reg C H p ns Rs) (N : NamesR ns) (hd : PtAt H d ns val) (q : ∀ (H' : Hp) (b : Bool), Same H H' → (b = true ↔ US Rs (wz val)) → Q (.bl b) H') : rInO C (spContains C) E (.ref d) (.ref p) H Q := by
  obtain ⟨dx, fs, e⟩ := R.obj
  obtain ⟨np, tl, RA⟩ := R
  exact ⟨p, dx, fs, rfl, e, p, d, np, tl, ns, Rs, _, ns, val, rfl, RA, N, hd, fun x hx => hx, fun x hx => hx, fun H' b s hb => ⟨b, rfl, q H' b s hb⟩⟩
theorem andO_reg (R : Reg C H p ns Rs) (R2 : Reg C H p2 ns Rs2) (N : NamesR ns) (dj : DjR C H p p2) (b : Rs.length * Rs2.length < sizeLine) (q : ∀ (H' : Hp) (r : Addr) (Rs' : List (List SRow)), Same H H' → Reg C H' r ns Rs' → (∀ u, US Rs' u ↔ US Rs u ∧ US Rs2 u) → Rs'.length ≤ Rs.length * Rs2.length → Q (.ref r) H') : rBinO C (spRAnd C) E (.ref p) (.ref p2) H Q := by
  obtain ⟨dx, fs, e⟩ := R.obj
  obtain ⟨dy, gs, e2⟩ := R2.obj
  exact ⟨p, dx, fs, p2, dy, gs, rfl, rfl, e, e2, p, p2, ns, Rs, Rs2, rfl, R, R2, N, dj, b, fun H' r Rs' s _ h us len => ⟨r, rfl, q H' r Rs' s h us len⟩⟩
theorem orO_reg (R : Reg C H p ns Rs) (R2 : Reg C H p2 ns Rs2) (N : NamesR ns) (b : Rs.length + Rs2.length < sizeLine) (q : ∀ (H' : Hp) (r : Addr) (Rs' : List (List SRow)), Same H H' → Reg C H' r ns Rs' → (∀ u, US Rs' u ↔ US Rs u ∨ US Rs2 u) → Rs'.length ≤ Rs.length + Rs2.length → EntIn (Rs ++ Rs2) Rs' → Q (.ref r) H') : rBinO C (spROr C) E (.ref p) (.ref p2) H Q := by
  obtain ⟨dx, fs, e⟩ := R.obj
  obtain ⟨dy, gs, e2⟩ := R2.obj
  exact ⟨p, dx, fs, p2, dy, gs, rfl, rfl, e, e2, p, p2, ns, Rs, Rs2, rfl, R, R2, N, b, fun H' r Rs' s _ h us len ent => ⟨r, rfl, q H' r Rs' s h us len ent⟩⟩
theorem subO_reg (R : Reg C H p ns Rs) (R2 : Reg C H p2 ns Rs2) (N : NamesR ns) (b1 : Rs2.length < sizeLine) (b : Rs.length * ((ns.length + 1) * (ns.length + 1)) ^ Rs2.length < sizeLine) (q : ∀ (H' : Hp) (r : Addr) (Rs' : List (List SRow)), Same H H' → Reg C H' r ns Rs' → (∀ u, US Rs' u ↔ US Rs u ∧ ¬ US Rs2 u) → Q (.ref r) H') : rBinO C (spRSub C) E (.ref p) (.ref p2) H Q := by
  obtain ⟨dx, fs, e⟩ := R.obj
  obtain ⟨dy, gs, e2⟩ := R2.obj
  exact ⟨p, dx, fs, p2, dy, gs, rfl, rfl, e, e2, p, p2, ns, Rs, Rs2, rfl, R, R2, N, b1, b, fun H' r Rs' s _ h us _ => ⟨r, rfl, q H' r Rs' s h us⟩⟩
theorem invO_reg (R : Reg C H p ns Rs) (N : NamesR ns) (b1 : Rs.length < sizeLine) (b : ((ns.length + 1) * (ns.length + 1)) ^ Rs.length < sizeLine) (q : ∀ (H' : Hp) (r : Addr) (Rs' : List (List SRow)), Same H H' → Reg C H' r ns Rs' → (∀ u, US Rs' u ↔ ¬ US Rs u) → Rs'.length ≤ ((ns.length + 1) * (ns.length + 1)) ^ Rs.length → Q (.ref r) H') : rInvO C (spRInvert C) E (.ref p) H Q := by
  obtain ⟨dx, fs, e⟩ := R.obj
  exact ⟨p, dx, fs, rfl, e, p, ns, Rs, rfl, R, N, b1, b, fun H' r Rs' s _ h us len => q H' r Rs' s h us len⟩
theorem invO2_reg {Ec : List SRow} {ds : List (Addr × HO)} (lk : LockOk ds H) (dk : Dks ds) (R : Reg C H p ns Rs) (N : NamesR ns) (n3 : ns.length ≤ 3) (b1 : Rs.length < sizeLine) (en : ∀ O ∈ Rs, ∀ q : SRow, q.1 ≠ q.2.1 → q.1 ∈ ("0" : Str) :: ns → q.2.1 ∈ ("0" : Str) :: ns → D O q.1 q.2.1 = some q.2.2 → q ∈ Ec) (inE : ∀ e ∈ Ec, e.1 ∈ ("0" : Str) :: ns ∧ e.2.1 ∈ ("0" : Str) :: ns) (few : Ec.length ≤ 400)
    (q : ∀ (H' : Hp) (r : Addr) (Rs' Ms Os : List (List SRow)) (G : List SRow), Same H H' → Reg C H' r ns Rs' → (∀ u, US Rs' u ↔ ¬ US Rs u) → Rs'.length ≤ phi Ec.length 3 → (∀ O ∈ Os, O ∈ Rs) → Os.length ≤ Rs.length → LitsOf (("0" : Str) :: ns) Os G → (∀ R' ∈ Ms, ∀ q ∈ R', q ∈ G ∨ ∃ g ∈ G, q = cutRow g) → (∀ R' ∈ Ms, ∃ v, Sat R' v) → EntIn Ms Rs' → AvR C (inD ds) H' r → Q (.ref r) H') : rInvO C (spRInvert2 C) E (.ref p) H Q := by
  obtain ⟨dx, fs, e⟩ := R.obj
  exact ⟨p, dx, fs, rfl, e, p, ns, Rs, Ec, 3, ds, rfl, lk, dk, R, N, b1, en, inE, by rw [List.length_cons]; omega, Nat.lt_of_lt_of_le (phi_bound few) (by decide), fun H' r Rs' Ms Os G s _ h us len m l li ro so ent av => q H' r Rs' Ms Os G s h us len m l li ro so ent av⟩
theorem boolO_reg (R : Reg C H p ns Rs) (q : ∀ b : Bool, (b = true ↔ Rs ≠ []) → Q (.bl b) H) : rBoolO C (spRBool C) E [.ref p] H Q := by
  obtain ⟨dx, fs, e⟩ := R.obj
  exact ⟨p, dx, fs, rfl, e, p, ns, Rs, rfl, R, fun b hb => ⟨b, rfl, q b hb⟩⟩
end
theorem noLock {H : Hp} : LockOk [] H := ⟨List.nodup_nil, fun p h => (nomatch h), fun p h => nomatch h⟩
theorem bnd3 {a b n : Nat} (ha : a ≤ 3) (hb : b ≤ 3) (hn : n ≤ 3) : a * ((n + 1) * (n + 1)) ^ b ≤ 12288 := by
  refine Nat.le_trans (Nat.mul_le_mul ha (Nat.pow_le_pow_left (Nat.mul_le_mul (Nat.succ_le_succ hn) (Nat.succ_le_succ hn)) b)) ?_
  exact Nat.le_trans (Nat.mul_le_mul_left _ (Nat.pow_le_pow_right (by decide) hb)) (by decide)
theorem us_satB {Ss : List (List SRow)} {u : Str → Int} : US (Ss.filter satB) u ↔ US Ss u :=
  ⟨fun ⟨R, h, hu⟩ => ⟨R, (List.mem_filter.mp h).1, hu⟩, fun ⟨R, h, hu⟩ => ⟨R, List.mem_filter.mpr ⟨h, satB_iff.mpr ⟨u, hu⟩⟩, hu⟩⟩
theorem bool_of {a b : Bool} {p : Prop} (h1 : a = true ↔ p) (h2 : b = true ↔ p) : a = b := by
  cases a <;> cases b <;> simp_all
theorem ne_bl {a b : Bool} (h : a = b) : (!decide (V.bl a = V.bl b)) = false := by
  rw [h, decide_eq_true rfl]
  rfl
theorem Reg.empty_iff {C : Addr} {H : Hp} {p : Addr} {ns : List Str} {Rs : List (List SRow)} (h : Reg C H p ns Rs) : Rs = [] ↔ ∀ u, ¬ US Rs u := by
  obtain ⟨np, tl, h⟩ := h
  exact h.tb.empty_iff
end Lo
set_option maxHeartbeats 2000000
namespace Lo
open PySem L2
abbrev sLRight : Stmt := top 58
theorem raw0 {P : Program} {w : World} {K : PySem.W.Frag} {mg : Str → Option Value} {base : Heap} {CX : CXT} {k : Nat} {f : Addr} {fd : FuncData} {ps : List Str} {sp : Sp} (G : FnOk P w K mg base CX k f fd ps sp) (b : Binds K fd ps []) : FnR P w K mg base CX k f sp := (G.raw b .nil).imp fun vs H Q E h => by
  rw [List.append_nil]
  exact h
theorem canLay_bools : ∀ bs : List Bool, PyData.canLayAll0 (bs.map PyData.bool) = true
  | [] => rfl
  | _ :: r => by simp [PyData.canLayAll0, PyData.canLay0, canLay_bools r]
theorem depth_bools : ∀ bs : List Bool, PyData.depthAll (bs.map PyData.bool) = 0
  | [] => rfl
  | _ :: r => by simp [PyData.depthAll, PyData.depth, depth_bools r]
theorem shaped_bools (bs : List Bool) : SeqAt.shaped (.list (bs.map PyData.bool)) = true := by
  simp [SeqAt.shaped, PyData.canLay0, PyData.depth, canLay_bools, depth_bools]
theorem dp_bools {K : PySem.W.Frag} {H : Hp} : ∀ bs : List Bool, DpAll K H (bs.map V.bl) (bs.map PyData.bool)
  | [] => .nil
  | b :: bs => .cons (.bl b) (dp_bools bs)
theorem eqvAll_bools : ∀ bs : List Bool, PyData.eqvAll (bs.map PyData.bool) (bs.map PyData.bool) = true
  | [] => rfl
  | b :: r => by
    have := eqvAll_bools r
    cases b <;> simp [PyData.eqvAll, PyData.eqv, this]
theorem eqv_bools (bs : List Bool) : PyData.eqv (.list (bs.map PyData.bool)) (.list (bs.map PyData.bool)) = true := by
  have := eqvAll_bools bs
  simp [PyData.eqv, this]
theorem bb1 {a b : Bool} (h : a = true ↔ b = true) : a = b := by cases a <;> cases b <;> simp_all
theorem bb_and {a b c : Bool} (h : a = true ↔ b = true ∧ c = true) : a = (b && c) := by cases a <;> cases b <;> cases c <;> simp_all
theorem bb_or {a b c : Bool} (h : a = true ↔ b = true ∨ c = true) : a = (b || c) := by cases a <;> cases b <;> cases c <;> simp_all
theorem bb_sub {a b c : Bool} (h : a = true ↔ b = true ∧ ¬ c = true) : a = (b && !c) := by cases a <;> cases b <;> cases c <;> simp_all
theorem bb_not {a b : Bool} (h : a = true ↔ ¬ b = true) : a = (!b) := by cases a <;> cases b <;> simp_all
theorem bb_nand {a b c : Bool} (h : a = true ↔ ¬ (b = true ∧ c = true)) : a = !(b && c) := by cases a <;> cases b <;> cases c <;> simp_all
theorem bb_orn {a b c : Bool} (h : a = true ↔ ¬ b = true ∨ ¬ c = true) : a = (!b || !c) := by cases a <;> cases b <;> cases c <;> simp_all
theorem tv_var {i : Nat} {σ : St} {H : Hp} {Q : VK} {v : V} (h : σ[i]? = some (some v)) (q : Q v H) : tVar i σ H Q := ⟨v, h, q⟩
theorem tv_and {i j : Nat} {σ : St} {H : Hp} {Q : VK} {a b : Bool} (h : σ[i]? = some (some (.bl a))) (h' : σ[j]? = some (some (.bl b))) (q : Q (.bl (a && b)) H) : tAndV (tVar i) (tVar j) σ H Q := by
  refine ⟨_, h, a, rfl, ?_⟩
  cases a with
  | true => exact iteT ⟨_, h', q⟩
  | false => exact iteF q
theorem tv_or {i j : Nat} {σ : St} {H : Hp} {Q : VK} {a b : Bool} (h : σ[i]? = some (some (.bl a))) (h' : σ[j]? = some (some (.bl b))) (q : Q (.bl (a || b)) H) : tOrV (tVar i) (tVar j) σ H Q := by
  refine ⟨_, h, a, rfl, ?_⟩
  cases a with
  | true => exact iteT q
  | false => exact iteF ⟨_, h', q⟩
theorem tv_sub {i j : Nat} {σ : St} {H : Hp} {Q : VK} {a b : Bool} (h : σ[i]? = some (some (.bl a))) (h' : σ[j]? = some (some (.bl b))) (q : Q (.bl (a && !b)) H) : tAndV (tVar i) (tNotV (tVar j)) σ H Q := by
  refine ⟨_, h, a, rfl, ?_⟩
  cases a with
  | true => exact iteT ⟨_, h', b, rfl, q⟩
  | false => exact iteF q
theorem tv_not {i : Nat} {σ : St} {H : Hp} {Q : VK} {a : Bool} (h : σ[i]? = some (some (.bl a))) (q : Q (.bl (!a)) H) : tNotV (tVar i) σ H Q := ⟨_, h, a, rfl, q⟩
section
variable {P : Program} {w : World} {K : PySem.W.Frag} {mg : Str → Option Value} {base : Heap}
/-! ### _law_right -/
def spLRight (K : PySem.W.Frag) (C : Addr) : Sp := fun vs H Q _ => ∃ (p1 p2 L1 L2 d : Addr) (ns : List Str) (Ss Os : List (List SRow)) (val : Str → Int), vs = [.ref p1, .ref p2, .ref L1, .ref L2, .ref d] ∧ Reg C H p1 ns (Ss.filter satB) ∧ Reg C H p2 ns (Os.filter satB) ∧ NamesR ns ∧ ns.length ≤ 3 ∧ DjR C H p1 p2 ∧ Syss H L1 Ss ∧ Syss H L2 Os ∧ PtAt H d ns val ∧
  (∀ R ∈ Ss, ∀ r ∈ R, In2 ns r) ∧ (∀ R ∈ Os, ∀ r ∈ R, In2 ns r) ∧ Ss.length ≤ 3 ∧ Os.length ≤ 3 ∧ ∀ H', Same H H' → Q (.bl true) H'
abbrev nLRight : List Str := ["one", "other", "systems", "others", "point", "first", "second", "told", "both", "due"]
theorem scLRight : FnScope nLRight ["one", "other", "systems", "others", "point"] (defScope sLRight) := ⟨rfl, rfl, rfl, by decide +kernel, rfl, by decide +kernel, by decide +kernel⟩
theorem ok_lright {C fSa fPt fAnd fSub fOr fInv fB fC pN fN pP fPc f fIn : Addr} {fd fdIn fdAnd fdSub fdOr fdInv fdC : FuncData} (F : Fun K "_law_right" "_law_right" sLRight f fd) (Y : RLaw6 K C fSa fPt fAnd fSub fOr fInv fB fC pN fN pP fPc)
    (GIn : FnOk P w K mg base CX0 3 fIn fdIn ["systems", "point"] spLInside) (kIn : PySem.W.keepIn K (.ref fIn) = true) (bIn : Binds K fdIn ["systems", "point"] []) (gIn : mg "_law_inside" = some (.ref fIn))
    (GAnd : FnOk P w K mg base CX0 9 fAnd fdAnd ["self", "other"] (spRAnd C)) (bAnd : Binds K fdAnd ["self", "other"] [])
    (GSub : FnOk P w K mg base CX0 9 fSub fdSub ["self", "other"] (spRSub C)) (bSub : Binds K fdSub ["self", "other"] [])
    (GOr : FnOk P w K mg base CX0 9 fOr fdOr ["self", "other"] (spROr C)) (bOr : Binds K fdOr ["self", "other"] [])
    (GInv : FnOk P w K mg base CX0 9 fInv fdInv ["self"] (spRInvert C)) (GInv2 : FnOk P w K mg base CX0 9 fInv fdInv ["self"] (spRInvert2 C)) (bInv : Binds K fdInv ["self"] [])
    (GC : FnOk P w K mg base CX0 2 fC fdC ["self", "point"] (spContains C)) (bC : Binds K fdC ["self", "point"] []) :
    FnOk P w K mg base CX0 10 f fd ["one", "other", "systems", "others", "point"] (spLRight K C) := by
  refine F.ok scLRight (fun vs H Q E h => ?_) (fun cdv A outer s0 H vs Q E hr h => ?_)
  · obtain ⟨p1, p2, L1, L2, d, ns, Ss, Os, val, rfl, _⟩ := h
    rfl
  · obtain ⟨p1, p2, L1, L2, d, ns, Ss, Os, val, rfl, R1, R2, N, n3, dj, hL1, hL2, hd, i1, i2, l1, l2, q⟩ := h
    have nd := scLRight.nd
    have r2 := hr.mono (show 2 ≤ 9 by decide)
    have r3 := hr.mono (show 3 ≤ 9 by decide)
    have GAnd' := raw0 GAnd bAnd
    have GSub' := raw0 GSub bSub
    have GOr' := raw0 GOr bOr
    have GInv' := raw0 GInv bInv
    have GInv2' := raw0 GInv2 bInv
    have yAnd : PySem.W.findIn K (.ref C) (PySem.dunder Operator.BitAnd.info.2) = some (some (.ref fAnd)) := Y.and_
    have ySub : PySem.W.findIn K (.ref C) (PySem.dunder Operator.Sub.info.2) = some (some (.ref fSub)) := Y.sub
    have yOr : PySem.W.findIn K (.ref C) (PySem.dunder Operator.BitOr.info.2) = some (some (.ref fOr)) := Y.or_
    refine ⟨_, (pss_cons (ps_par (i := 5) (j := 6) rfl nd rfl rfl (by decide) rfl rfl (pa_cons (pe_call GIn r3 (by rfl) gIn kIn bIn .nil pass0 (pa_cons (pv 2) (pa_cons (pv 4) pa_nil))) (pa_cons (pe_call GIn r3 (by rfl) gIn kIn bIn .nil pass0 (pa_cons (pv 3) (pa_cons (pv 4) pa_nil))) pa_nil)) (by rfl))
      (pss_cons (ps_set (i := 7) nd rfl (.inl rfl) (pe_lst (pa_cons (pe_cmpR (op_inO Y.cI Y.cF GC r2 bC pass0) (pv 4) (pv 0) (by rfl)) (pa_cons (pe_cmpR (op_inO Y.cI Y.cF GC r2 bC pass0) (pv 4) (pv 1) (by rfl)) (pa_cons (pe_cmpR (op_inO Y.cI Y.cF GC r2 bC pass0) (pv 4) (pe_op (op_binO Y.self yAnd Y.andF GAnd' hr pass0) (pv 0) (pv 1)) (by rfl)) (pa_cons (pe_cmpR (op_inO Y.cI Y.cF GC r2 bC pass0) (pv 4) (pe_op (op_binO Y.self yOr Y.orF GOr' hr pass0) (pv 0) (pv 1)) (by rfl)) (pa_cons (pe_cmpR (op_inO Y.cI Y.cF GC r2 bC pass0) (pv 4) (pe_op (op_binO Y.self ySub Y.subF GSub' hr pass0) (pv 0) (pv 1)) (by rfl)) pa_nil)))))))
      (pss_cons (ps_set (i := 7) nd rfl (.inl rfl) (pe_op op_cat (pv 7) (pe_lst (pa_cons (pe_cmpR (op_inO Y.cI Y.cF GC r2 bC pass0) (pv 4) (pe_op (op_binO Y.self ySub Y.subF GSub' hr pass0) (pv 1) (pv 0)) (by rfl)) (pa_cons (pe_cmpR (op_inO Y.cI Y.cF GC r2 bC pass0) (pv 4) (pe_un (un_invO Y.inv Y.invF GInv' hr pass0) (pv 0)) (by rfl)) (pa_cons (pe_cmpR (op_inO Y.cI Y.cF GC r2 bC pass0) (pv 4) (pe_un (un_invO Y.inv Y.invF GInv' hr pass0) (pv 1)) (by rfl)) (pa_cons (pe_cmpR (op_inO Y.cI Y.cF GC r2 bC pass0) (pv 4) (pe_un (un_invO Y.inv Y.invF GInv2' hr pass0) (pe_op (op_binO Y.self yAnd Y.andF GAnd' hr pass0) (pv 0) (pv 1))) (by rfl)) (pa_cons (pe_cmpR (op_inO Y.cI Y.cF GC r2 bC pass0) (pv 4) (pe_op (op_binO Y.self yOr Y.orF GOr' hr pass0) (pe_un (un_invO Y.inv Y.invF GInv' hr pass0) (pv 0)) (pe_un (un_invO Y.inv Y.invF GInv' hr pass0) (pv 1))) (by rfl)) pa_nil))))))))
      (pss_cons (ps_set (i := 8) nd rfl (.inl rfl) (pe_and (pv 5) (pe_one (pv 6))))
      (pss_cons (ps_set (i := 9) nd rfl (.inl rfl) (pe_lst (pa_cons (pv 5) (pa_cons (pv 6) (pa_cons (pv 8) (pa_cons (pe_or (pv 5) (pe_one (pv 6))) (pa_cons (pe_and (pv 5) (pe_one (pe_not (pv 6)))) (pa_cons (pe_and (pv 6) (pe_one (pe_not (pv 5)))) pa_nil))))))))
      (pss_cons (ps_set (i := 9) nd rfl (.inl rfl) (pe_op op_cat (pv 9) (pe_lst (pa_cons (pe_not (pv 5)) (pa_cons (pe_not (pv 6)) (pa_cons (pe_not (pv 8)) (pa_cons (pe_not (pv 8)) pa_nil)))))))
      (pss_one (ps_ret (pe_cmpR (op_eqD hr.units) (pv 7) (pv 9) (nomark _)))))))))), ?_⟩
    have f1 : (Ss.filter satB).length ≤ 3 := Nat.le_trans (List.length_filter_le _ _) l1
    have f2 : (Os.filter satB).length ≤ 3 := Nat.le_trans (List.length_filter_le _ _) l2
    have szE : sizeLine = 16777216 := by decide
    have m33 : (Ss.filter satB).length * (Os.filter satB).length ≤ 3 * 3 := Nat.mul_le_mul f1 f2
    have q1 : (Ss.filter satB).length * ((ns.length + 1) * (ns.length + 1)) ^ (Os.filter satB).length ≤ 12288 := bnd3 f1 f2 n3
    have q2 : (Os.filter satB).length * ((ns.length + 1) * (ns.length + 1)) ^ (Ss.filter satB).length ≤ 12288 := bnd3 f2 f1 n3
    have q3 : ((ns.length + 1) * (ns.length + 1)) ^ (Ss.filter satB).length ≤ 12288 := by
      have := bnd3 (a := 1) (by decide) f1 n3
      omega
    have q4 : ((ns.length + 1) * (ns.length + 1)) ^ (Os.filter satB).length ≤ 12288 := by
      have := bnd3 (a := 1) (by decide) f2 n3
      omega
    -- first, second
    refine ⟨.ref L1, rfl, .ref d, rfl, L1, d, Ss, ns, val, rfl, hL1, hd, i1, by omega, fun H1 b1 s1 hb1 => ⟨.ref L2, rfl, .ref d, rfl, L2, d, Os, ns, val, rfl, hL2.same s1, s1 _ _ hd, i2, by omega, fun H2 b2 s2 hb2 => ⟨_, _, rfl, ?_⟩⟩⟩
    have t2 := s1.trans s2
    -- told
    refine ⟨.ref d, rfl, .ref p1, rfl, inO_reg (R1.same t2) N (t2 _ _ hd) fun H3 a1 s3 ha1 => ?_⟩
    have t3 := t2.trans s3
    refine ⟨.ref d, rfl, .ref p2, rfl, inO_reg (R2.same t3) N (t3 _ _ hd) fun H4 a2 s4 ha2 => ?_⟩
    have t4 := t3.trans s4
    refine ⟨.ref d, rfl, .ref p1, rfl, .ref p2, rfl, andO_reg (R1.same t4) (R2.same t4) N (dj.same t4 R1 R2) (by omega) fun H5 r5 X5 s5 h5 us5 len5 => inO_reg h5 N ((t4.trans s5) _ _ hd) fun H6 a3 s6 ha3 => ?_⟩
    have t6 := t4.trans (s5.trans s6)
    refine ⟨.ref d, rfl, .ref p1, rfl, .ref p2, rfl, orO_reg (R1.same t6) (R2.same t6) N (by omega) fun H7 r7 X7 s7 h7 us7 len7 _ => inO_reg h7 N ((t6.trans s7) _ _ hd) fun H8 a4 s8 ha4 => ?_⟩
    have t8 := t6.trans (s7.trans s8)
    refine ⟨.ref d, rfl, .ref p1, rfl, .ref p2, rfl, subO_reg (R1.same t8) (R2.same t8) N (by omega) (by omega) fun H9 r9 X9 s9 h9 us9 => inO_reg h9 N ((t8.trans s9) _ _ hd) fun H10 a5 s10 ha5 => ?_⟩
    have t10 := t8.trans (s9.trans s10)
    refine ⟨by show 5 ≤ sizeLine; decide, fun la hla => ?_⟩
    have sa := same_upd (o := HO.lst [V.bl a1, V.bl a2, V.bl a3, V.bl a4, V.bl a5]) hla
    have ea := upd_same (H := H10) (a := la) (o := HO.lst [V.bl a1, V.bl a2, V.bl a3, V.bl a4, V.bl a5])
    generalize upd H10 la (.lst [V.bl a1, V.bl a2, V.bl a3, V.bl a4, V.bl a5]) = H11 at sa ea ⊢
    have t11 := t10.trans sa
    refine ⟨.ref la, rfl, ?_⟩
    refine ⟨.ref d, rfl, .ref p2, rfl, .ref p1, rfl, subO_reg (R2.same t11) (R1.same t11) N (by omega) (by omega) fun H12 r12 X12 s12 h12 us12 => inO_reg h12 N ((t11.trans s12) _ _ hd) fun H13 a6 s13 ha6 => ?_⟩
    have u13 := s12.trans s13
    have t13 := t11.trans u13
    refine ⟨.ref d, rfl, .ref p1, rfl, invO_reg (R1.same t13) N (by omega) (by omega) fun H14 r14 X14 s14 h14 us14 len14 => inO_reg h14 N ((t13.trans s14) _ _ hd) fun H15 a7 s15 ha7 => ?_⟩
    have u15 := u13.trans (s14.trans s15)
    have t15 := t11.trans u15
    refine ⟨.ref d, rfl, .ref p2, rfl, invO_reg (R2.same t15) N (by omega) (by omega) fun H16 r16 X16 s16 h16 us16 len16 => inO_reg h16 N ((t15.trans s16) _ _ hd) fun H17 a8 s17 ha8 => ?_⟩
    have u17 := u15.trans (s16.trans s17)
    have t17 := t11.trans u17
    refine ⟨.ref d, rfl, .ref p1, rfl, .ref p2, rfl, andO_reg (R1.same t17) (R2.same t17) N (dj.same t17 R1 R2) (by omega) fun H18 r18 X18 s18 h18 us18 len18 => ?_⟩
    refine invO2_reg (Ec := entsOf (("0" : Str) :: ns) X18) (ds := []) noLock (fun p h => nomatch h) h18 N n3 (by omega) (fun O hO qr _ hx hy hk => entsOf_mem hO hx hy hk) entsOf_in (Nat.le_trans (entsOf_len _ _) (Nat.le_trans (Nat.mul_le_mul (show (("0" : Str) :: ns).length ≤ 4 by rw [List.length_cons]; omega) (Nat.mul_le_mul (show (("0" : Str) :: ns).length ≤ 4 by rw [List.length_cons]; omega) (show X18.length ≤ 9 by omega))) (by decide))) fun H19 r19 X19 _ _ _ s19 h19 us19 _ _ _ _ _ _ _ _ => ?_
    refine inO_reg h19 N ((t17.trans (s18.trans s19)) _ _ hd) fun H20 a9 s20 ha9 => ?_
    have u20 := u17.trans (s18.trans (s19.trans s20))
    have t20 := t11.trans u20
    refine ⟨.ref d, rfl, .ref p1, rfl, invO_reg (R1.same t20) N (by omega) (by omega) fun H21 r21 X21 s21 h21 us21 len21 => ?_⟩
    have t21 := t20.trans s21
    refine ⟨.ref p2, rfl, invO_reg (R2.same t21) N (by omega) (by omega) fun H22 r22 X22 s22 h22 us22 len22 => ?_⟩
    have t22 := t21.trans s22
    refine orO_reg (h21.same s22) h22 N (by omega) fun H23 r23 X23 s23 h23 us23 len23 _ => inO_reg h23 N ((t22.trans s23) _ _ hd) fun H24 a10 s24 ha10 => ?_
    have u24 := u20.trans (s21.trans (s22.trans (s23.trans s24)))
    refine ⟨by show 5 ≤ sizeLine; decide, fun lb hlb => ?_⟩
    have sb := same_upd (o := HO.lst [V.bl a6, V.bl a7, V.bl a8, V.bl a9, V.bl a10]) hlb
    have eb := upd_same (H := H24) (a := lb) (o := HO.lst [V.bl a6, V.bl a7, V.bl a8, V.bl a9, V.bl a10])
    generalize upd H24 lb (.lst [V.bl a6, V.bl a7, V.bl a8, V.bl a9, V.bl a10]) = H25 at sb eb ⊢
    have u25 := u24.trans sb
    refine ⟨la, lb, _, _, rfl, rfl, u25 _ _ ea, eb, by show 10 ≤ sizeLine; decide, fun lc hlc => ?_⟩
    have sc := same_upd (o := HO.lst ([V.bl a1, V.bl a2, V.bl a3, V.bl a4, V.bl a5] ++ [V.bl a6, V.bl a7, V.bl a8, V.bl a9, V.bl a10])) hlc
    have ec := upd_same (H := H25) (a := lc) (o := HO.lst ([V.bl a1, V.bl a2, V.bl a3, V.bl a4, V.bl a5] ++ [V.bl a6, V.bl a7, V.bl a8, V.bl a9, V.bl a10]))
    generalize upd H25 lc (.lst ([V.bl a1, V.bl a2, V.bl a3, V.bl a4, V.bl a5] ++ [V.bl a6, V.bl a7, V.bl a8, V.bl a9, V.bl a10])) = H26 at sc ec ⊢
    have t26 := t11.trans (u25.trans sc)
    -- what they are
    have k1 : US (Ss.filter satB) (wz val) ↔ b1 = true := us_satB.trans hb1.symm
    have k2 : US (Os.filter satB) (wz val) ↔ b2 = true := us_satB.trans hb2.symm
    rw [us23, us21, us22, k1, k2] at ha10
    rw [us19, us18, k1, k2] at ha9
    rw [us16, k2] at ha8
    rw [us14, k1] at ha7
    rw [us12, k1, k2] at ha6
    rw [us9, k1, k2] at ha5
    rw [us7, k1, k2] at ha4
    rw [us5, k1, k2] at ha3
    rw [k2] at ha2
    rw [k1] at ha1
    obtain rfl : a1 = b1 := bb1 ha1
    obtain rfl : a2 = b2 := bb1 ha2
    obtain rfl := bb_and ha3
    obtain rfl := bb_or ha4
    obtain rfl := bb_sub ha5
    obtain rfl := bb_sub ha6
    obtain rfl := bb_not ha7
    obtain rfl := bb_not ha8
    obtain rfl := bb_nand ha9
    obtain rfl := bb_orn ha10
    clear k1 k2 hb1 hb2
    have fin : ∀ (H' : Hp) (ld : Addr) (bs : List Bool), Same H26 H' → H' ld = some (.lst (bs.map V.bl)) → bs = [a1, a2, (a1 && a2), (a1 || a2), (a1 && !a2), (a2 && !a1), (!a1), (!a2), !(a1 && a2), (!a1 || !a2)] → rEqD K (.ref lc) (.ref ld) H' Q := fun H' ld bs s' hld e => by
      subst e
      have h1 := s' _ _ ec
      refine ⟨_, _, .lst (SqL.of h1) (dp_bools [a1, a2, (a1 && a2), (a1 || a2), (a1 && !a2), (a2 && !a1), (!a1), (!a2), !(a1 && a2), (!a1 || !a2)]), .lst (SqL.of hld) (dp_bools _), shaped_bools _, shaped_bools _, ?_⟩
      rw [eqv_bools]
      exact q H' (t26.trans s')
    refine tv_and (H := H26) rfl rfl ?_
    refine ⟨_, rfl, ?_⟩
    refine ⟨_, rfl, ?_⟩
    refine ⟨_, rfl, ?_⟩
    refine tv_or (H := H26) rfl rfl ?_
    refine tv_sub (H := H26) rfl rfl ?_
    refine tv_sub (H := H26) rfl rfl ?_
    refine ⟨by show 6 ≤ sizeLine; decide, fun l1 hl1 => ?_⟩
    have sd := same_upd (o := HO.lst [V.bl a1, V.bl a2, V.bl (a1 && a2), V.bl (a1 || a2), V.bl (a1 && !a2), V.bl (a2 && !a1)]) hl1
    have ed := upd_same (H := H26) (a := l1) (o := HO.lst [V.bl a1, V.bl a2, V.bl (a1 && a2), V.bl (a1 || a2), V.bl (a1 && !a2), V.bl (a2 && !a1)])
    generalize upd H26 l1 (.lst [V.bl a1, V.bl a2, V.bl (a1 && a2), V.bl (a1 || a2), V.bl (a1 && !a2), V.bl (a2 && !a1)]) = H27 at sd ed ⊢
    refine ⟨_, rfl, ?_⟩
    refine ⟨_, rfl, _, rfl, ?_⟩
    refine ⟨_, rfl, _, rfl, ?_⟩
    refine ⟨_, rfl, _, rfl, ?_⟩
    refine ⟨_, rfl, _, rfl, ?_⟩
    refine ⟨by show 4 ≤ sizeLine; decide, fun l2 hl2 => ?_⟩
    have se := same_upd (o := HO.lst [V.bl !a1, V.bl !a2, V.bl !(a1 && a2), V.bl !(a1 && a2)]) hl2
    have ee := upd_same (H := H27) (a := l2) (o := HO.lst [V.bl !a1, V.bl !a2, V.bl !(a1 && a2), V.bl !(a1 && a2)])
    generalize upd H27 l2 (.lst [V.bl !a1, V.bl !a2, V.bl !(a1 && a2), V.bl !(a1 && a2)]) = H28 at se ee ⊢
    refine ⟨l1, l2, _, _, rfl, rfl, se _ _ ed, ee, by show 10 ≤ sizeLine; decide, fun l3 hl3 => ?_⟩
    refine ⟨_, rfl, ?_⟩
    refine ⟨_, rfl, ?_⟩
    exact fin _ _ _ (sd.trans (se.trans (same_upd hl3))) (upd_same (o := HO.lst (List.map V.bl [a1, a2, (a1 && a2), (a1 || a2), (a1 && !a2), (a2 && !a1), (!a1), (!a2), !(a1 && a2), !(a1 && a2)]))) (by cases a1 <;> cases a2 <;> rfl)
end
end Lo
namespace Lo
open PySem L2
/-! ### things locked, regions -/
theorem unlock_reg {C : Addr} {ds : List (Addr × HO)} {H HL H' HU : Hp} {q : Addr} {ns : List Str} {Rs : List (List SRow)} (l : LockOf ds H HL) (s : Same HL H') (u : UnlockOf ds H' HU) (R : Reg C H' q ns Rs) : Reg C HU q ns Rs ∧ AvR C (inD ds) HU q := by
  obtain ⟨np, tl, RA⟩ := R
  obtain ⟨dx, e⟩ := RA.ob
  obtain ⟨t1, t2⟩ := unlock_tabs l s u RA.tb
  have e1 : HU q = some (.ins C dx (rflds np tl)) := by
    rw [u.off q (lock_out l s e fun a v z => nomatch z)]
    exact e
  have e2 : HU np = some (.tup (ns.map V.str)) := by
    rw [u.off np (lock_out l s RA.nm fun a v z => nomatch z)]
    exact RA.nm
  have RB : RegAt C HU q np tl ns Rs (("0" : Str) :: ns) := ⟨⟨dx, e1⟩, e2, t1⟩
  exact ⟨⟨np, tl, RB⟩, avr_of RB t2⟩
theorem all_things {H : Hp} {zs : List Str} : ∀ ts : List Addr, (∀ t ∈ ts, ∃ R, TabR H t R zs) → ∃ as : List Addr, (∀ a ∈ as, ∃ kvs, H a = some (.dK kvs)) ∧ ∀ t ∈ ts, ∀ a, ObT H t a → a ∈ as
  | [], _ => ⟨[], (fun a h => nomatch h), fun t h => nomatch h⟩
  | t :: ts, h => by
    obtain ⟨as, h1, h2⟩ := all_things ts fun t ht => h t (List.mem_cons_of_mem _ ht)
    obtain ⟨R, ns, ra, rk, rv, G, _⟩ := h t List.mem_cons_self
    refine ⟨t :: (ns.map ra ++ as), fun a ha => ?_, fun t' ht' a ha => ?_⟩
    · rcases List.mem_cons.mp ha with e | m
      · exact e ▸ ⟨_, G.dict⟩
      · rcases List.mem_append.mp m with m | m
        · obtain ⟨x, hx, rfl⟩ := List.mem_map.mp m
          exact ⟨_, G.row x hx⟩
        · exact h1 a m
    · rcases List.mem_cons.mp ht' with e | m
      · subst e
        rcases G.obj.mp ha with e | ⟨x, hx, e⟩
        · exact e ▸ List.mem_cons_self
        · exact e ▸ List.mem_cons_of_mem _ (List.mem_append_left _ (List.mem_map.mpr ⟨x, hx, rfl⟩))
      · exact List.mem_cons_of_mem _ (List.mem_append_right _ (h2 t' m a ha))
/-- what is to be locked that a new region shares nothing with p -/
theorem reg_locks {C : Addr} {H : Hp} {p : Addr} {ns : List Str} {Rs : List (List SRow)} (R : Reg C H p ns Rs) : ∃ ds, LockOk ds H ∧ Dks ds ∧ ∀ (H' : Hp) (q : Addr), Same H H' → AvR C (inD ds) H' q → DjR C H' p q := by
  obtain ⟨np, tl, RA⟩ := R
  obtain ⟨dx, e⟩ := RA.ob
  obtain ⟨ts, h1, h2, h3⟩ := id RA.tb
  have each : ∀ t ∈ ts, ∃ R, TabR H t R (("0" : Str) :: ns) := fun t ht => RA.tb.mem h1 ht
  obtain ⟨as, a1, a2⟩ := all_things ts each
  obtain ⟨ds, lk, dk, m⟩ := lock_list as a1
  refine ⟨ds, lk, dk, fun H' q s av dx1 np1 tl1 dx2 np2 tl2 f1 f2 ts' os g1 g2 t ht o ho a ha hb => ?_⟩
  rw [s _ _ e] at f1
  have f1 := Option.some.inj f1
  injection f1 with _ _ f1
  rw [← (rflds_inj f1).2] at g1
  have := lst_eq (s _ _ h1) g1
  subst this
  obtain ⟨R, hR⟩ := each t ht
  exact av dx2 np2 tl2 f2 os g2 o ho a hb ((m a).mpr (a2 t ht a (ha.back (fun o => s _ _) hR.dict)))
theorem dj_nil {C : Addr} {H : Hp} {p q : Addr} {ns : List Str} (R : Reg C H q ns []) : DjR C H p q := by
  obtain ⟨np, tl, RA⟩ := R
  obtain ⟨dx, e⟩ := RA.ob
  obtain ⟨ts, h1, h2, h3⟩ := id RA.tb
  intro dx1 np1 tl1 dx2 np2 tl2 f1 f2 ts' os g1 g2 t ht o ho
  rw [e] at f2
  have f2 := Option.some.inj f2
  injection f2 with _ _ f2
  rw [← (rflds_inj f2).2] at g2
  have := lst_eq h1 g2
  subst this
  obtain rfl : ts = [] := List.length_eq_zero_iff.mp h2
  cases ho
theorem lock_syss {ds : List (Addr × HO)} {H HL : Hp} (k : LockOk ds H) (dk : Dks ds) (l : LockOf ds H HL) {L : Addr} {Ss : List (List SRow)} (h : Syss H L Ss) : Syss HL L Ss := by
  obtain ⟨ls, h1, h2, h3⟩ := h
  exact ⟨ls, lock_in k dk l h1 (fun kvs z => nomatch z), h2, fun i a R x y => lock_sys k dk l (h3 i a R x y)⟩
theorem make_reg {K : PySem.W.Frag} {C np L : Addr} {H : Hp} {ns : List Str} {Ss : List (List SRow)} {Q : VK} {E : XK} (hn : H np = some (.tup (ns.map V.str))) (NR : NamesR ns) (hS : Syss H L Ss) (few : Ss.length ≤ 100) (ok : ∀ R ∈ Ss, Good R ∧ ∀ r ∈ R, In2 ns r)
    (p dx : Addr) (npn : H p = none) (ndx : H dx = none) (ne : dx ≠ p) (q : ∀ (H' : Hp), Same H H' → Reg C H' p ns (Ss.filter satB) → Q .non H') :
    spRInit K C [.ref p, .ref np, .ref L] (upd (upd H dx (.own p)) p (.ins C dx [])) Q E := by
  have sD := same_upd (o := HO.own p) ndx
  have nx2 : upd H dx (.own p) p = none := by
    rw [upd_ne ne.symm]
    exact npn
  have sP := sD.trans (same_upd (o := HO.ins C dx []) nx2)
  exact ⟨p, np, L, dx, ns, Ss, rfl, upd_same, SqT.of (sP _ _ hn), NR, hS.same sP, few, ok, fun H3 np' tl keep RA => q H3 (same_new npn fun b o z n => keep b o (sP _ _ z) n) ⟨np', tl, RA⟩⟩
theorem make_reg2 {K : PySem.W.Frag} {C np L : Addr} {H : Hp} {ns : List Str} {Ss : List (List SRow)} {Q : VK} {E : XK} (hn : H np = some (.lst (ns.map V.str))) (NR : NamesR ns) (hS : SyssT H L Ss) (few : Ss.length ≤ 100) (ok : ∀ R ∈ Ss, Good R ∧ ∀ r ∈ R, In2 ns r)
    (p dx : Addr) (npn : H p = none) (ndx : H dx = none) (ne : dx ≠ p) (q : ∀ (H' : Hp), Same H H' → Reg C H' p ns (Ss.filter satB) → Q .non H') :
    spRInit2 K C [.ref p, .ref np, .ref L] (upd (upd H dx (.own p)) p (.ins C dx [])) Q E := by
  have sD := same_upd (o := HO.own p) ndx
  have nx2 : upd H dx (.own p) p = none := by
    rw [upd_ne ne.symm]
    exact npn
  have sP := sD.trans (same_upd (o := HO.ins C dx []) nx2)
  exact ⟨p, np, L, dx, ns, Ss, rfl, upd_same, SqL.of (sP _ _ hn), NR, hS.same sP, few, ok, fun H3 np' tl keep RA => q H3 (same_new npn fun b o z n => keep b o (sP _ _ z) n) ⟨np', tl, RA⟩⟩
theorem Sys.app {H : Hp} {c : Addr} {as bs : List Addr} {R S : List SRow} (h1 : as.length = R.length) (h2 : ∀ (i : Nat) (p : Addr) (r : SRow), as[i]? = some p → R[i]? = some r → RowT H p r) (k1 : bs.length = S.length) (k2 : ∀ (i : Nat) (p : Addr) (r : SRow), bs[i]? = some p → S[i]? = some r → RowT H p r)
    (hc : H c = some (.lst (as.map V.ref ++ bs.map V.ref))) : Sys RowT H c (R ++ S) := by
  refine ⟨as ++ bs, by rw [hc, List.map_append], by rw [List.length_append, List.length_append, h1, k1], fun i p r a b => ?_⟩
  by_cases k : i < as.length
  · rw [List.getElem?_append_left k] at a
    rw [List.getElem?_append_left (by omega)] at b
    exact h2 i p r a b
  · rw [List.getElem?_append_right (by omega)] at a
    rw [List.getElem?_append_right (by omega), ← h1] at b
    exact k2 _ p r a b
theorem Syss.app {H : Hp} {c : Addr} {as bs : List Addr} {R S : List (List SRow)} (h1 : as.length = R.length) (h2 : ∀ (i : Nat) (p : Addr) (r : List SRow), as[i]? = some p → R[i]? = some r → Sys RowT H p r) (k1 : bs.length = S.length) (k2 : ∀ (i : Nat) (p : Addr) (r : List SRow), bs[i]? = some p → S[i]? = some r → Sys RowT H p r)
    (hc : H c = some (.lst (as.map V.ref ++ bs.map V.ref))) : Syss H c (R ++ S) := by
  refine ⟨as ++ bs, by rw [hc, List.map_append], by rw [List.length_append, List.length_append, h1, k1], fun i p r a b => ?_⟩
  by_cases k : i < as.length
  · rw [List.getElem?_append_left k] at a
    rw [List.getElem?_append_left (by omega)] at b
    exact h2 i p r a b
  · rw [List.getElem?_append_right (by omega)] at a
    rw [List.getElem?_append_right (by omega), ← h1] at b
    exact k2 _ p r a b
theorem Syss.push {H : Hp} {L p : Addr} {ls : List Addr} {Ss : List (List SRow)} {R : List SRow} (h1 : H L = some (.lst (ls.map V.ref))) (h2 : ls.length = Ss.length) (hn : L ∉ ls)
    (h3 : ∀ (i : Nat) (l : Addr) (R : List SRow), ls[i]? = some l → Ss[i]? = some R → Sys RowT H l R) (hp : Sys RowT H p R) (np : p ≠ L) :
    (ls ++ [p]).length = (Ss ++ [R]).length ∧ L ∉ ls ++ [p] ∧ ∀ (i : Nat) (l : Addr) (R' : List SRow), (ls ++ [p])[i]? = some l → (Ss ++ [R])[i]? = some R' → Sys RowT (upd H L (.lst (ls.map V.ref ++ [.ref p]))) l R' := by
  refine ⟨by rw [List.length_append, List.length_append, h2]; rfl, fun m => ?_, fun i l R' a b => ?_⟩
  · rcases List.mem_append.mp m with m | m
    · exact hn m
    · exact np (List.mem_singleton.mp m).symm
  · by_cases k : i < ls.length
    · rw [List.getElem?_append_left k] at a
      rw [List.getElem?_append_left (by omega)] at b
      exact (h3 i l R' a b).offL h1 fun e => hn (e ▸ List.mem_of_getElem? a)
    · have hi2 : i = ls.length := by
        have := (List.getElem?_eq_some_iff.mp a).1
        rw [List.length_append, List.length_singleton] at this
        omega
      subst hi2
      rw [List.getElem?_append_right (Nat.le_refl _), Nat.sub_self] at a
      rw [h2, List.getElem?_append_right (Nat.le_refl _), Nat.sub_self] at b
      obtain rfl := Option.some.inj a
      obtain rfl := Option.some.inj b
      exact hp.offL h1 np
theorem flat_len (Os : List (List SRow)) : ∀ Ts : List (List SRow), (Ts.flatMap fun S => Os.map fun O => S ++ O).length = Ts.length * Os.length
  | [] => (Nat.zero_mul _).symm
  | T :: Ts => by
    rw [List.flatMap_cons, List.length_append, flat_len Os Ts, List.length_map, List.length_cons, Nat.succ_mul]
    omega
theorem phi48 {N : Nat} (h : N ≤ 48) : phi N 3 ≤ 18473 := by
  have h1 := phi_three N
  have h2 : N * N * N ≤ 48 * 48 * 48 := Nat.mul_le_mul (Nat.mul_le_mul h h) h
  omega
theorem ents48 {ns : List Str} (n3 : ns.length ≤ 3) {As : List (List SRow)} (l : As.length ≤ 3) : (entsOf (("0" : Str) :: ns) As).length ≤ 48 :=
  Nat.le_trans (entsOf_len _ _) (Nat.le_trans (Nat.mul_le_mul (show (("0" : Str) :: ns).length ≤ 4 by rw [List.length_cons]; omega) (Nat.mul_le_mul (show (("0" : Str) :: ns).length ≤ 4 by rw [List.length_cons]; omega) l)) (by decide))
theorem bool_no {b : Bool} {p : Prop} (h : b = true ↔ p) (n : ¬ p) : b = false := by
  cases b with
  | false => rfl
  | true => exact absurd (h.mp rfl) n
/-- tuple(x) -/
def rTupOf (K : PySem.W.Frag) : List V → Hp → VK → Prop := fun xs H Q => ∃ p ys, xs = [.ref p] ∧ ((SqL K H p ys ∧ ∀ l, H l = none → Q (.ref l) (upd H l (.tup ys))) ∨ (SqT K H p ys ∧ Q (.ref p) H))
theorem wz_self {u : Str → Int} (h : u ("0" : Str) = 0) : wz u = u := by
  funext x
  by_cases e : x = ("0" : Str)
  · rw [e]
    unfold wz
    rw [put_at, h]
  · exact put_off e
theorem lits_few {zs : List Str} {ns : List Str} {Os : List (List SRow)} {G : List SRow} (h : LitsOf zs Os G) (l : Os.length ≤ 3) (ok : ∀ O ∈ Os, OkS ns 4 O) : G.length ≤ 12 ∧ ∀ q ∈ G, q.1 ∈ zs ∧ q.2.1 ∈ zs := by
  obtain ⟨fs, e1, rfl, e2⟩ := h
  refine ⟨?_, fun q hq => ?_⟩
  · have key : ∀ fs : List (List SRow), (∀ F ∈ fs, F.length ≤ 4) → fs.flatten.length ≤ 4 * fs.length := by
      intro fs
      induction fs with
      | nil => exact fun _ => Nat.zero_le _
      | cons F fs ih =>
        intro h
        have h1 := h F List.mem_cons_self
        have h2 := ih fun F' hF' => h F' (List.mem_cons_of_mem _ hF')
        rw [List.flatten_cons, List.length_append, List.length_cons]
        omega
    have := key fs fun F hF => by
      obtain ⟨_, O, hO, few⟩ := e2 F hF
      exact Nat.le_trans (few.least O fun u => Iff.rfl) (ok O hO).2
    omega
  · obtain ⟨F, hF, hq⟩ := List.mem_flatten.mp hq
    exact ((e2 F hF).1 q hq).2
/-- the entries of one | ~one are few -/
theorem few_ents {ns : List Str} (z0 : (("0" : Str) :: ns).Nodup) (n3 : ns.length ≤ 3) {As Xs Ys Ms Os : List (List SRow)} {G : List SRow} (l : As.length ≤ 3) (sub : ∀ O ∈ Os, O ∈ As) (ol : Os.length ≤ As.length) (ok : ∀ O ∈ As, OkS ns 4 O) (lits : LitsOf (("0" : Str) :: ns) Os G)
    (rows : ∀ R' ∈ Ms, ∀ q ∈ R', q ∈ G ∨ ∃ g ∈ G, q = cutRow g) (sol : ∀ R' ∈ Ms, ∃ v, Sat R' v) (e1 : EntIn Ms Xs) (e2 : EntIn (As ++ Xs) Ys) :
    ∃ Ec : List SRow, Ec.length ≤ 400 ∧ (∀ e ∈ Ec, e.1 ∈ ("0" : Str) :: ns ∧ e.2.1 ∈ ("0" : Str) :: ns) ∧ ∀ O ∈ Ys, ∀ q : SRow, q.1 ≠ q.2.1 → q.1 ∈ ("0" : Str) :: ns → q.2.1 ∈ ("0" : Str) :: ns → D O q.1 q.2.1 = some q.2.2 → q ∈ Ec := by
  have hz : (("0" : Str) :: ns).length ≤ 4 := by rw [List.length_cons]; omega
  obtain ⟨g12, inG⟩ := lits_few lits (Nat.le_trans ol l) fun O hO => ok O (sub O hO)
  obtain ⟨Ec, c1, c2, c3⟩ := few_rows z0 hz g12 inG As
  refine ⟨Ec, by omega, c2, fun O hO q ne hx hy hk => ?_⟩
  obtain ⟨R, hR, hk⟩ := e2 O hO q.1 q.2.1 q.2.2 ne hk
  rcases List.mem_append.mp hR with m | m
  · exact c3 q.1 q.2.1 q.2.2 ne hx hy (.inr ⟨R, m, hk⟩)
  · obtain ⟨M, hM, hk⟩ := e1 R m q.1 q.2.1 q.2.2 ne hk
    obtain ⟨v, hv⟩ := sol M hM
    have inL : ∀ q ∈ M, q ∈ Lts G := fun q hq => by
      unfold Lts
      rcases rows M hM q hq with h | ⟨g, hg, rfl⟩
      · exact List.mem_append_left _ h
      · exact List.mem_append_right _ (List.mem_map.mpr ⟨g, hg, rfl⟩)
    have inM : ∀ q ∈ M, q.1 ∈ ("0" : Str) :: ns ∧ q.2.1 ∈ ("0" : Str) :: ns := fun q hq => by
      rcases rows M hM q hq with h | ⟨g, hg, rfl⟩
      · exact inG q h
      · exact ⟨(inG g hg).2, (inG g hg).1⟩
    exact c3 q.1 q.2.1 q.2.2 ne hx hy (.inl ((d_sv hv hz inM ne hk).mono inL))
end Lo
set_option maxHeartbeats 4000000
namespace Lo
open PySem L2
abbrev sLaw6 : Stmt := top 59
/-- what is asked of the classmethods -/
structure RCm6 (K : PySem.W.Frag) (C mcpN fNo mcpW fWh : Addr) (mc : Value) : Prop where
  rd : ClX.CRead K C mc
  cmN : ClX.CMet K C mc "nothing" mcpN fNo
  cmW : ClX.CMet K C mc "whole" mcpW fWh
section
variable {P : Program} {w : World} {K : PySem.W.Frag} {mg : Str → Option Value} {base : Heap}
abbrev nLaw6 : List Str := ["script", "names", "systems", "others", "one", "other", "region", "rows", "some", "point", "system", "both", "turn", "empty", "whole", "row"]
theorem scLaw6 : FnScope nLaw6 ["script"] (defScope sLaw6) := ⟨rfl, rfl, rfl, by decide +kernel, rfl, by decide +kernel, by decide +kernel⟩
def spLaw6 (K : PySem.W.Frag) : Sp := fun vs H Q _ => ∃ (s : Addr), vs = [.ref s] ∧ Scr K H s ∧ ∀ H', Q (.bl true) H'
theorem ok_law6 {C fSa fPt fAnd fSub fOr fInv fB fC pN fN pP fPc fI mcpN fNo mcpW fWh : Addr} {mc : Value} {f fP fD fS fT fIn fPo fR : Addr} {fd fdI fdP fdD fdS fdT fdIn fdPo fdR fdSa fdPt fdAnd fdOr fdInv fdB fdN fdPc fdNo fdWh : FuncData} (F : Fun K "law" "law" sLaw6 f fd) (T : Blt mg) (hany : mg "any" = none) (X : RTxt K mg C fI) (Y : RLaw6 K C fSa fPt fAnd fSub fOr fInv fB fC pN fN pP fPc) (Z : RCm6 K C mcpN fNo mcpW fWh mc)
    (GP : FnOk P w K mg base CX0 2 fP fdP ["script", "at"] (spPool K)) (kP : PySem.W.keepIn K (.ref fP) = true) (bP : Binds K fdP ["script", "at"] []) (gP : mg "_law_pool" = some (.ref fP))
    (GD : FnOk P w K mg base CX0 1 fD fdD ["script", "at", "many"] (spDraw K)) (kD : PySem.W.keepIn K (.ref fD) = true) (bD : Binds K fdD ["script", "at", "many"] []) (gD : mg "_law_draw" = some (.ref fD))
    (GS : FnOk P w K mg base CX0 3 fS fdS ["script", "at", "names", "most"] (spLParts K)) (kS : PySem.W.keepIn K (.ref fS) = true) (bS : Binds K fdS ["script", "at", "names", "most"] []) (gS : mg "_law_parts" = some (.ref fS))
    (GT : FnOk P w K mg base CX0 1 fT fdT ["names", "system"] spLTable) (kT : PySem.W.keepIn K (.ref fT) = true) (bT : Binds K fdT ["names", "system"] []) (gT : mg "_law_table" = some (.ref fT))
    (GIn : FnOk P w K mg base CX0 3 fIn fdIn ["systems", "point"] spLInside) (kIn : PySem.W.keepIn K (.ref fIn) = true) (bIn : Binds K fdIn ["systems", "point"] []) (gIn : mg "_law_inside" = some (.ref fIn))
    (GPo : FnOk P w K mg base CX0 2 fPo fdPo ["script", "at", "names"] (spLPointT K)) (kPo : PySem.W.keepIn K (.ref fPo) = true) (bPo : Binds K fdPo ["script", "at", "names"] []) (gPo : mg "_law_point" = some (.ref fPo))
    (GR : FnOk P w K mg base CX0 10 fR fdR ["one", "other", "systems", "others", "point"] (spLRight K C)) (kR : PySem.W.keepIn K (.ref fR) = true) (bR : Binds K fdR ["one", "other", "systems", "others", "point"] []) (gR : mg "_law_right" = some (.ref fR))
    (GI : FnOk P w K mg base CX0 6 fI fdI ["self", "names", "systems"] (spRInit K C)) (GI2 : FnOk P w K mg base CX0 6 fI fdI ["self", "names", "systems"] (spRInit2 K C)) (bI : Binds K fdI ["self", "names", "systems"] [])
    (GSa : FnOk P w K mg base CX0 6 fSa fdSa ["self", "other"] (spRSame C)) (bSa : Binds K fdSa ["self", "other"] [])
    (GPt : FnOk P w K mg base CX0 2 fPt fdPt ["self"] (spRPoint C)) (bPt : Binds K fdPt ["self"] [])
    (GAnd : FnOk P w K mg base CX0 9 fAnd fdAnd ["self", "other"] (spRAnd C)) (bAnd : Binds K fdAnd ["self", "other"] [])
    (GOr : FnOk P w K mg base CX0 9 fOr fdOr ["self", "other"] (spROr C)) (bOr : Binds K fdOr ["self", "other"] [])
    (GInv : FnOk P w K mg base CX0 9 fInv fdInv ["self"] (spRInvert C)) (GInv2 : FnOk P w K mg base CX0 9 fInv fdInv ["self"] (spRInvert2 C)) (bInv : Binds K fdInv ["self"] [])
    (GB : FnOk P w K mg base CX0 1 fB fdB ["self"] (spRBool C)) (bB : Binds K fdB ["self"] [])
    (GN : FnOk P w K mg base CX0 1 fN fdN ["self"] (spRNames C)) (bN : Binds K fdN ["self"] [])
    (GPc : FnOk P w K mg base CX0 4 fPc fdPc ["self"] (spRPieces C)) (bPc : Binds K fdPc ["self"] [])
    (GNo : FnOk P w K mg base CX0 8 fNo fdNo ["cls", "names"] (spNothing K C)) (bNo : Binds K fdNo ["cls", "names"] [])
    (GWh : FnOk P w K mg base CX0 8 fWh fdWh ["cls", "names"] (spRWhole K C)) (bWh : Binds K fdWh ["cls", "names"] []) :
    FnOk P w K mg base CX0 11 f fd ["script"] (spLaw6 K) := by
  refine F.ok scLaw6 (fun vs H Q E h => ?_) (fun cdv A outer s0 H vs Q E hr h => ?_)
  · obtain ⟨s, rfl, _⟩ := h
    rfl
  · obtain ⟨s, rfl, hS, q⟩ := h
    have nd := scLaw6.nd
    have hu := hu_of hr
    have hu' := Nat.lt_of_succ_lt hu
    have r1 := hr.mono (show 1 ≤ 10 by decide)
    have r2 := hr.mono (show 2 ≤ 10 by decide)
    have r3 := hr.mono (show 3 ≤ 10 by decide)
    have r5 := hr.mono (show 5 ≤ 10 by decide)
    have r6 := hr.mono (show 6 ≤ 10 by decide)
    have r7 := hr.mono (show 7 ≤ 10 by decide)
    have r8 := hr.mono (show 8 ≤ 10 by decide)
    have r9 := hr.mono (show 9 ≤ 10 by decide)
    have GB' := raw0 GB bB
    have GAnd' := raw0 GAnd bAnd
    have GOr' := raw0 GOr bOr
    have GInv' := raw0 GInv bInv
    have GInv2' := raw0 GInv2 bInv
    have GNo' := raw0 GNo bNo
    have GWh' := raw0 GWh bWh
    have yAnd : PySem.W.findIn K (.ref C) (PySem.dunder Operator.BitAnd.info.2) = some (some (.ref fAnd)) := Y.and_
    have yOr : PySem.W.findIn K (.ref C) (PySem.dunder Operator.BitOr.info.2) = some (some (.ref fOr)) := Y.or_
    have sz1 : 1 ≤ sizeLine := by decide
    have sz2 : 2 ≤ sizeLine := by decide
    have body : PSs (cxOf CX0 P w K mg base nLaw6 "law" (defScope sLaw6) f cdv A outer s0 H E).nox (defBody sLaw6) _ := (C8.pss_cut (ps_set (i := 1) nd rfl (by first | exact .inl rfl | exact .inr rfl) (pe_slice sl_tupA (pe_call GP r2 (by rfl) gP kP bP .nil pass0 (pa_cons (pv 0) (pa_cons pe_int pa_nil))) po_none (po_some (pe_op op_add pe_int (pe_call GD r1 (by rfl) gD kD bD .nil pass0 (pa_cons (pv 0) (pa_cons pe_int (pa_cons pe_int pa_nil))))))))
      (C8.pss_cut (ps_par (i := 2) (j := 3) rfl nd rfl rfl (by decide) rfl rfl (pa_cons (pe_call GS r3 (by rfl) gS kS bS .nil pass0 (pa_cons (pv 0) (pa_cons pe_int (pa_cons (pv 1) (pa_cons pe_int pa_nil))))) (pa_cons (pe_call GS r3 (by rfl) gS kS bS .nil pass0 (pa_cons (pv 0) (pa_cons pe_int (pa_cons (pv 1) (pa_cons pe_int pa_nil))))) pa_nil)) (by rfl))
      (C8.pss_cut (ps_par (i := 4) (j := 5) rfl nd rfl rfl (by decide) rfl rfl (pa_cons (pe_make X.make GI r7 (by rfl) X.mg bI .nil pass0 (pa_cons (pv 1) (pa_cons (pv 2) pa_nil))) (pa_cons (pe_locks (pe_make X.make GI2 r7 (by rfl) X.mg bI .nil pass0 (pa_cons (pe_callTy call_list_of (by rfl) T.list PyProof.Rows.boot_list (pa_cons (pv 1) pa_nil)) (pa_cons (pe_lc (own := [("system", 10)]) (g := gName 10) (tt := tYes) rfl nd (pi_list (pv 3)) (blkOk_by (N := nLaw6) (sc := defScope sLaw6) (by decide +kernel)) (fun _ _ _ _ _ => pg_name (i := 10) nd rfl (.inl rfl)) (fun _ _ _ _ _ => pts_nil) (fun _ _ _ _ _ => (pe_callTy (show CallR _ (.type "tuple") (rTupOf K) from call_tuple_of) (by rfl) T.tuple PyProof.Rows.boot_tuple (pa_cons (pv 10) pa_nil)))) pa_nil)))) pa_nil)) (by rfl))
      (C8.pss_cut (ps_for PassesOwn.never rfl (pi_tup (pe_tup (pa_cons (pe_tup (pa_cons (pv 4) (pa_cons (pv 2) pa_nil))) (pa_cons (pe_tup (pa_cons (pv 5) (pa_cons (pv 3) pa_nil))) pa_nil)))) (pg_tup rfl (pgs_cons (pg_name (i := 6) nd rfl (by first | exact .inl rfl | exact .inr rfl)) (pgs_cons (pg_name (i := 7) nd rfl (by first | exact .inl rfl | exact .inr rfl)) pgs_nil))) (C8.pss_cut (ps_setLc (own := [("system", 10)]) (i := 8) (g := gName 10) rfl nd rfl rfl (by rfl) (pi_list (pv 7)) (blkOk_by (N := nLaw6) (sc := defScope sLaw6) (by decide +kernel)) (fun _ _ _ _ _ => pg_name (i := 10) nd rfl (.inl rfl)) (fun _ _ _ _ _ => (pts_one (pt_cmpR op_notN (pe_call GT r1 (by rfl) gT kT bT .nil pass0 (pa_cons (pv 1) (pa_cons (pv 10) pa_nil))) pe_non (nomark _)))) (fun _ _ _ _ _ => (pv 10)))
      (C8.pss_cut (ps_if (PW.pt (pw_or (pt_cmpR op_ne (pe_callTy (call_boolO Y.bool Y.boolF GB' r3 pass0) (by rfl) T.bool PyProof.Rows.boot_bool (pa_cons (pv 6) pa_nil)) (pe_cmpR (op_neD hr.units) (pv 8) (pe_lst pa_nil) (nomark _)) (nomark _)) (pw_or1 (pt_cmpR (op_neD hr.units) (pe_prop (pv 6) X.cl Y.pN GN r2 bN .nil pass0 (by rfl)) (pv 1) (nomark _))))) (pss_one (ps_ret pe_bl)) pss_nil)
      (C8.pss_cut (ps_set (i := 9) nd rfl (by first | exact .inl rfl | exact .inr rfl) (pe_meth0 (pv 6) X.cl Y.mPt GPt r2 bPt .nil pass0))
      (C8.pss_cut (ps_if (PW.pt (pw_or (pt_cmpR op_ne (pe_cmpR op_isN (pv 9) pe_non (nomark _)) (pe_cmpR (op_eqNil hu') (pv 8) (pe_lst pa_nil) (nomark _)) (nomark _)) (pw_or1 (PW.pt (pw_and (pt_cmpR op_notN (pv 9) pe_non (nomark _)) (pw_and1 (pt_not (pt_val (pe_call GIn r3 (by rfl) gIn kIn bIn .nil pass0 (pa_cons (pv 7) (pa_cons (pv 9) pa_nil))))))))))) (pss_one (ps_ret pe_bl)) pss_nil)
      (pss_one (ps_for PassesOwn.never rfl (pi_list (pe_prop (pv 6) X.cl Y.pP GPc r5 bPc .nil pass0 (by rfl))) (pg_name (i := 10) nd rfl (by first | exact .inl rfl | exact .inr rfl)) (pss_one (ps_if (pt_cmpR op_isN (pe_call GT r1 (by rfl) gT kT bT .nil pass0 (pa_cons (pv 1) (pa_cons (pv 10) pa_nil))) pe_non (nomark _)) (pss_one (ps_ret pe_bl)) pss_nil)))))))))
      (pss_cons (ps_set (i := 11) nd rfl (by first | exact .inl rfl | exact .inr rfl) (pe_lst pa_nil))
      (C8.pss_cut (ps_for PassesOwn.never rfl (pi_list (pv 2)) (pg_name (i := 10) nd rfl (by first | exact .inl rfl | exact .inr rfl)) (pss_one (ps_set (i := 11) nd rfl (by first | exact .inl rfl | exact .inr rfl) (pe_op op_cat (pv 11) (pe_lc (own := [("row", 15)]) (g := gName 15) (tt := tYes) rfl nd (pi_list (pv 3)) (blkOk_by (N := nLaw6) (sc := defScope sLaw6) (by decide +kernel)) (fun _ _ _ _ _ => pg_name (i := 15) nd rfl (.inl rfl)) (fun _ _ _ _ _ => pts_nil) (fun _ _ _ _ _ => (pe_op op_cat (pv 10) (pv 15))))))))
      (C8.pss_cut (ps_if (pt_cmpR op_ne (pe_callTy (call_boolO Y.bool Y.boolF GB' r3 pass0) (by rfl) T.bool PyProof.Rows.boot_bool (pa_cons (pe_op (op_binO Y.self yAnd Y.andF GAnd' r9 pass0) (pv 4) (pv 5)) pa_nil)) (pe_callB (cr_any rfl) (by rfl) hany PyProof.Rows.boot_any (pa_cons (pe_lc (own := [("system", 10)]) (g := gName 10) (tt := tYes) rfl nd (pi_list (pv 11)) (blkOk_by (N := nLaw6) (sc := defScope sLaw6) (by decide +kernel)) (fun _ _ _ _ _ => pg_name (i := 10) nd rfl (.inl rfl)) (fun _ _ _ _ _ => pts_nil) (fun _ _ _ _ _ => (pe_cmpR op_notN (pe_call GT r1 (by rfl) gT kT bT .nil pass0 (pa_cons (pv 1) (pa_cons (pv 10) pa_nil))) pe_non (nomark _)))) pa_nil)) (nomark _)) (pss_one (ps_ret pe_bl)) pss_nil)
      (C8.pss_cut (ps_for PassesOwn.never rfl (pi_range1 (by rfl) T.range (pa_cons pe_int pa_nil)) (pg_name (i := 12) nd rfl (by first | exact .inl rfl | exact .inr rfl)) (pss_cons (ps_set (i := 9) nd rfl (by first | exact .inl rfl | exact .inr rfl) (pe_call GPo r2 (by rfl) gPo kPo bPo .nil pass0 (pa_cons (pv 0) (pa_cons (pe_op op_add pe_int (pe_op op_mul pe_int (pv 12))) (pa_cons (pv 1) pa_nil)))))
      (pss_one (ps_if (pt_not (pt_val (pe_call GR hr (by rfl) gR kR bR .nil pass0 (pa_cons (pv 4) (pa_cons (pv 5) (pa_cons (pv 2) (pa_cons (pv 3) (pa_cons (pv 9) pa_nil)))))))) (pss_one (ps_ret pe_bl)) pss_nil))))
      (C8.pss_cut (ps_for PassesOwn.never rfl (pi_tup (pe_tup (pa_cons (pv 4) (pa_cons (pv 5) pa_nil)))) (pg_name (i := 6) nd rfl (by first | exact .inl rfl | exact .inr rfl)) (C8.pss_cut (ps_set (i := 9) nd rfl (by first | exact .inl rfl | exact .inr rfl) (pe_meth0 (pv 6) X.cl Y.mPt GPt r2 bPt .nil pass0))
      (pss_one (ps_if (PW.pt (pw_and (pt_cmpR op_notN (pv 9) pe_non (nomark _)) (pw_and1 (pt_not (pt_val (pe_call GR hr (by rfl) gR kR bR .nil pass0 (pa_cons (pv 4) (pa_cons (pv 5) (pa_cons (pv 2) (pa_cons (pv 3) (pa_cons (pv 9) pa_nil))))))))))) (pss_one (ps_ret pe_bl)) pss_nil))))
      (C8.pss_cut (ps_par (i := 13) (j := 14) rfl nd rfl rfl (by decide) rfl rfl (pa_cons (ClX.pe_cmeth (pe_glob (v := .ref C) (by rfl) X.mg rfl) Z.rd Z.cmN GNo' r8 pass0 (pa_cons (pv 1) pa_nil)) (pa_cons (pe_locks (ClX.pe_cmeth (pe_glob (v := .ref C) (by rfl) X.mg rfl) Z.rd Z.cmW GWh' r8 pass0 (pa_cons (pv 1) pa_nil))) pa_nil)) (by rfl))
      (C8.pss_cut (ps_if (PW.pt (pw_or (pt_val (pe_callTy (call_boolO Y.bool Y.boolF GB' r3 pass0) (by rfl) T.bool PyProof.Rows.boot_bool (pa_cons (pv 13) pa_nil))) (pw_or (pt_not (pt_val (pe_callTy (call_boolO Y.bool Y.boolF GB' r3 pass0) (by rfl) T.bool PyProof.Rows.boot_bool (pa_cons (pv 14) pa_nil)))) (pw_or (pt_val (pe_callTy (call_boolO Y.bool Y.boolF GB' r3 pass0) (by rfl) T.bool PyProof.Rows.boot_bool (pa_cons (pe_op (op_binO Y.self yAnd Y.andF GAnd' r9 pass0) (pv 4) (pe_un (un_invO Y.inv Y.invF GInv2' r9 pass0) (pv 4))) pa_nil))) (pw_or (pt_val (pe_callTy (call_boolO Y.bool Y.boolF GB' r3 pass0) (by rfl) T.bool PyProof.Rows.boot_bool (pa_cons (pe_un (un_invO Y.inv Y.invF GInv2' r9 pass0) (pe_op (op_binO Y.self yOr Y.orF GOr' r9 pass0) (pv 4) (pe_un (un_invO Y.inv Y.invF GInv2' r9 pass0) (pv 4)))) pa_nil))) (pw_or1 (pt_val (pe_callTy (call_boolO Y.bool Y.boolF GB' r3 pass0) (by rfl) T.bool PyProof.Rows.boot_bool (pa_cons (pe_un (un_invO Y.inv Y.invF GInv' r9 pass0) (pv 14)) pa_nil))))))))) (pss_one (ps_ret pe_bl)) pss_nil)
      (pss_one (ps_ret (pe_and (pe_meth (pv 14) X.cl Y.mSa GSa r6 bSa .nil pass0 (pa_cons (pe_un (un_invO Y.inv Y.invF GInv' r9 pass0) (pv 13)) pa_nil)) (pe_and (pe_meth (pe_op (op_binO Y.self yAnd Y.andF GAnd' r9 pass0) (pv 4) (pv 14)) X.cl Y.mSa GSa r6 bSa .nil pass0 (pa_cons (pv 4) pa_nil)) (pe_and (pe_meth (pe_op (op_binO Y.self yOr Y.orF GOr' r9 pass0) (pv 4) (pv 13)) X.cl Y.mSa GSa r6 bSa .nil pass0 (pa_cons (pv 4) pa_nil)) (pe_one (pe_not (pe_callTy (call_boolO Y.bool Y.boolF GB' r3 pass0) (by rfl) T.bool PyProof.Rows.boot_bool (pa_cons (pe_op (op_binO Y.self yAnd Y.andF GAnd' r9 pass0) (pv 4) (pv 13)) pa_nil))))))))))))))))))))
    refine ⟨_, body, ?_⟩
    -- names
    refine ⟨fun σ' H' => ∃ (np : Addr) (ns : List Str), σ' = [some (.ref s), some (.ref np), none, none, none, none, none, none, none, none, none, none, none, none, none, none] ∧ Same H H' ∧ H' np = some (.tup (ns.map V.str)) ∧ Names ns ∧ ns.length ≤ 3, ?_, ?_⟩
    · refine ⟨.ref s, rfl, s, _, rfl, hS, fun H2 p xs s2 hp hx => ?_⟩
      refine ⟨.ref s, rfl, s, _, 2, rfl, hS.same s2, by decide, fun H3 k s3 k0 k1 => ?_⟩
      have hp3 := s3 _ _ hp
      have lx := pools_len xs hx
      obtain ⟨k', rfl⟩ : ∃ k' : Nat, k = (k' : Nat) := ⟨k.toNat, by omega⟩
      have ek : (2 : Int) + (k' : Nat) = ((2 + k' : Nat) : Int) := by omega
      refine ⟨_, _, rfl, rfl, (2 : Int) + (k' : Nat), rfl, p, _, rfl, SqT.of hp3, fun hc => ?_, fun hc p' np' => ?_⟩
      · exfalso
        have h2 := hc.2
        rw [ek, HT.sIx_nat, List.length_map, lx] at h2
        omega
      · refine ⟨p', xs.take (2 + k'), rfl, (s2.trans s3).trans (same_upd np'), ?_, names_of_pool hx (by omega) (by omega), by rw [List.length_take]; omega⟩
        rw [upd_same, ek, cut_take, List.map_take]
    rintro σ1 H1 ⟨np, ns, rfl, s1, hnp, N, n3⟩
    have l2 := N.two
    have NR := N.toR
    -- systems, others
    refine ⟨fun σ' H' => ∃ (L O : Addr) (Ss Os : List (List SRow)), σ' = [some (.ref s), some (.ref np), some (.ref L), some (.ref O), none, none, none, none, none, none, none, none, none, none, none, none] ∧ Same H1 H' ∧ Syss H' L Ss ∧ Syss H' O Os ∧ (∀ R ∈ Ss, OkS ns 4 R) ∧ (∀ R ∈ Os, OkS ns 4 R) ∧ Ss.length ≤ 3 ∧ Os.length ≤ 3, ?_, ?_⟩
    · refine ⟨.ref s, rfl, .ref np, rfl, s, np, 100, 3, ns, rfl, hS.same s1, hnp, N, by decide, by decide, fun H2 L ls Ss s2 nL hL hll hnd hnew hcnt hat hok => ?_⟩
      have s02 := s1.trans s2
      refine ⟨.ref s, rfl, .ref np, rfl, s, np, 200, 3, ns, rfl, hS.same s02, s2 _ _ hnp, N, by decide, by decide, fun H3 O os Os s3 nO hO hoo hnd' hnew' hcnt' hat' hok' => ?_⟩
      exact ⟨_, _, rfl, L, O, Ss, Os, rfl, s2.trans s3, Syss.same s3 ⟨ls, hL, hll, hat⟩, ⟨os, hO, hoo, hat'⟩, hok, hok', by omega, by omega⟩
    rintro σ2 H2 ⟨L, O, Ss, Os, rfl, s2, hSy, hOy, okS, okO, lenS, lenO⟩
    have s02 := s1.trans s2
    have hnp2 := s2 _ _ hnp
    have gS : ∀ R ∈ Ss, Good R ∧ ∀ r ∈ R, In2 ns r := fun R hR => ⟨(okS R hR).good (by decide), fun r hr => ((okS R hR).1 r hr).2.2⟩
    have gO : ∀ R ∈ Os, Good R ∧ ∀ r ∈ R, In2 ns r := fun R hR => ⟨(okO R hR).good (by decide), fun r hr => ((okO R hR).1 r hr).2.2⟩
    -- the regions
    refine ⟨fun σ' H' => ∃ (p1 p2 : Addr), σ' = [some (.ref s), some (.ref np), some (.ref L), some (.ref O), some (.ref p1), some (.ref p2), none, none, none, none, none, none, none, none, none, none] ∧ Same H2 H' ∧ Reg C H' p1 ns (Ss.filter satB) ∧ Reg C H' p2 ns (Os.filter satB) ∧ DjR C H' p1 p2, ?_, ?_⟩
    · refine ⟨_, rfl, _, rfl, fun p1 dx a b c => make_reg hnp2 NR hSy (by omega) gS p1 dx a b c fun H4 s4 RA => ⟨rfl, ?_⟩⟩
      obtain ⟨ds, lk, dk, dj⟩ := reg_locks RA
      refine ⟨ds, lk, fun HL l => ?_⟩
      have hOL := lock_syss lk dk l (hOy.same s4)
      have hnL := lock_in lk dk l (s4 _ _ hnp2) (fun kvs z => nomatch z)
      refine ⟨_, rfl, np, _, rfl, .inr (SqT.of hnL), fun rl nrl => ?_⟩
      have sR := same_upd (o := HO.lst (ns.map V.str)) nrl
      have hrl := upd_same (H := HL) (a := rl) (o := HO.lst (ns.map V.str))
      obtain ⟨os, o1, o2, o3⟩ := hOL.same sR
      have hnL' := sR _ _ hnL
      generalize upd HL rl (.lst (ns.map V.str)) = H5 at *
      refine ⟨_, rfl, O, rfl, ⟨_, SqL.of o1⟩, fun D nD => ?_⟩
      refine lc_list (K := K) (a := O) (xs := os.map V.ref) (fun j H' => Same H5 H' ∧ ∃ qs : List Addr, H' D = some (.lst (qs.map V.ref)) ∧ qs.length = j ∧ ∀ (i : Nat) (l : Addr) (R : List SRow), qs[i]? = some l → Os[i]? = some R → SysT H' l R)
        ⟨same_upd nD, [], upd_same, rfl, fun i l R e => nomatch e⟩ (fun j H' _ h => SqL.of (h.1 _ _ o1)) ?_ ?_
      · rintro j v H6 hj ⟨s6, qs, q1, q2, q4⟩
        obtain ⟨a, rfl, ha, hja⟩ := pick_ref hj
        obtain ⟨R, hR⟩ : ∃ R, Os[j]? = some R := ⟨_, List.getElem?_eq_getElem (by omega)⟩
        obtain ⟨rs, w1, w2, w3⟩ := (o3 j a R ha hR).sameT s6
        refine ⟨rfl, ?_⟩
        unfold tYes
        refine iteT ⟨_, rfl, a, _, rfl, .inl ⟨SqL.of w1, fun t nt => ?_⟩⟩
        have sP := same_upd (o := HO.tup (rs.map V.ref)) nt
        have tD : t ≠ D := fun z => by
          rw [z, q1] at nt
          cases nt
        have ok : SysT (upd H6 t (.tup (rs.map V.ref))) t R := ⟨rs, upd_same, w2, fun i t' r a b => sP _ _ (w3 i t' r a b)⟩
        have past : ∀ {o : HO} {b : Addr} {S : List SRow}, SysT (upd H6 t (.tup (rs.map V.ref))) b S → SysT (upd (upd H6 t (.tup (rs.map V.ref))) D o) b S := fun {o b S} h => by
          obtain ⟨ps, h1, h2, h3⟩ := h
          have hD := sP _ _ q1
          refine ⟨ps, ?_, h2, fun i p r a b => ?_⟩
          · rw [upd_ne (ne_of h1 hD (by intro z; cases z))]
            exact h1
          · have z := h3 i p r a b
            show upd _ _ _ _ = _
            rw [upd_ne (ne_of z hD (by intro z; cases z))]
            exact z
        refine ⟨_, sP _ _ q1, by rw [List.length_map, q2]; exact small_sz (by omega), (s6.trans sP).later nD, qs ++ [t], by rw [upd_same, List.map_append]; rfl, by rw [List.length_append, q2]; rfl, fun i b S hb hS => ?_⟩
        by_cases k : i < qs.length
        · rw [List.getElem?_append_left k] at hb
          exact past ((q4 i b S hb hS).same sP)
        · have hi : i = qs.length := by
            have := (List.getElem?_eq_some_iff.mp hb).1
            rw [List.length_append, List.length_singleton] at this
            omega
          subst hi
          rw [List.getElem?_append_right (Nat.le_refl _), Nat.sub_self] at hb
          rw [q2, hR] at hS
          obtain rfl := Option.some.inj hb
          obtain rfl := Option.some.inj hS
          exact past ok
      rintro H6 ⟨s6, qs, q1, q2, q4⟩
      rw [List.length_map] at q2
      refine fun p2 dx a b c => make_reg2 (s6 _ _ hrl) NR ⟨qs, q1, by omega, q4⟩ (by omega) gO p2 dx a b c fun H7 s7 RB => ⟨rfl, ?_⟩
      have sL := (sR.trans s6).trans s7
      refine ⟨lock_keeps l sL, fun HU u => ?_⟩
      obtain ⟨RB', av⟩ := unlock_reg l sL u RB
      have sU := lock_same lk l sL u
      exact ⟨_, _, rfl, p1, p2, rfl, s4.trans sU, RA.same sU, RB', dj HU p2 sU av⟩
    rintro σ4 H4 ⟨p1, p2, rfl, s4, RA, RB, dj⟩
    have s04 := s02.trans s4
    have hnp4 := s4 _ _ hnp2
    have hSy4 := hSy.same s4
    have hOy4 := hOy.same s4
    have lenA : (Ss.filter satB).length ≤ 3 := Nat.le_trans (List.length_filter_le _ _) lenS
    have lenB : (Os.filter satB).length ≤ 3 := Nat.le_trans (List.length_filter_le _ _) lenO
    have nSa : ∀ (np tl : Addr), (rflds np tl).lookup ("same" : Str) = none := fun np tl => rflds_no np tl (by decide) (by decide)
    have nPt : ∀ (np tl : Addr), (rflds np tl).lookup ("point" : Str) = none := fun np tl => rflds_no np tl (by decide) (by decide)
    clear hnp hnp2 hSy hOy
    have z0 : (("0" : Str) :: ns).Nodup := List.nodup_cons.mpr ⟨fun m => (NR.ok _ m).2.1 rfl, NR.nd⟩
    -- what _law_table answers
    have tab : ∀ {H' : Hp} {a : Addr} {R : List SRow} {Q' : VK}, Same H4 H' → Sys RowT H' a R → Good R → (∀ r ∈ R, In2 ns r) → (∀ (H'' : Hp) (x : V), Same H' H'' → ((x = .non ∧ ∀ u, ¬ Sat R u) ∨ ∃ d, x = .ref d ∧ ∃ v, Sat R v) → Q' x H'') → spLTable [.ref np, .ref a] H' Q' E0 := fun {H' a R Q'} sm h1 h2 h3 k =>
      ⟨np, a, ns, R, rfl, sm _ _ hnp4, h1, h2, z0, by omega, fun x ⟨r, hr, e⟩ => e.elim (fun e => e ▸ (h3 r hr).1) (fun e => e ▸ (h3 r hr).2), fun H'' x s' hx => k H'' x s' (hx.elim .inl fun ⟨d, _, _, e, _, v, _⟩ => .inr ⟨d, e, v⟩)⟩
    -- each of the two
    refine ⟨fun σ' H' => ∃ (y6 y7 y8 y9 y10 : Option V), σ' = [some (.ref s), some (.ref np), some (.ref L), some (.ref O), some (.ref p1), some (.ref p2), y6, y7, y8, y9, y10, none, none, none, none, none] ∧ Same H4 H', ?_, ?_⟩
    · refine ⟨_, rfl, _, rfl, sz2, fun t1 nt1 => ⟨_, rfl, _, rfl, sz2, fun t2 nt2 => ⟨sz2, fun t3 nt3 => ?_⟩⟩⟩
      have sA := same_upd (o := HO.tup [V.ref p1, V.ref L]) nt1
      have eA := upd_same (H := H4) (a := t1) (o := HO.tup [V.ref p1, V.ref L])
      generalize upd H4 t1 (.tup [V.ref p1, V.ref L]) = Ha at *
      have sB := same_upd (o := HO.tup [V.ref p2, V.ref O]) nt2
      have eB := upd_same (H := Ha) (a := t2) (o := HO.tup [V.ref p2, V.ref O])
      generalize upd Ha t2 (.tup [V.ref p2, V.ref O]) = Hb at *
      have sC := same_upd (o := HO.tup [V.ref t1, V.ref t2]) nt3
      have eC := upd_same (H := Hb) (a := t3) (o := HO.tup [V.ref t1, V.ref t2])
      generalize upd Hb t3 (.tup [V.ref t1, V.ref t2]) = Hc at *
      have eB' := sC _ _ eB
      have eA' := sC _ _ (sB _ _ eA)
      have sc := (sA.trans sB).trans sC
      refine ⟨t3, rfl, ⟨_, SqT.of eC⟩, for_tup (K := K) (a := t3) (xs := [V.ref t1, V.ref t2]) (fun i σ H' => ∃ (y6 y7 y8 y9 y10 : Option V), σ = [some (.ref s), some (.ref np), some (.ref L), some (.ref O), some (.ref p1), some (.ref p2), y6, y7, y8, y9, y10, none, none, none, none, none] ∧ Same Hc H')
        ⟨_, _, _, _, _, rfl, Same.refl _⟩ (fun i σ H' _ ⟨_, _, _, _, _, _, sm⟩ => SqT.of (sm _ _ eC)) ?_ ?_⟩
      · rintro i x σ H5 hi ⟨y6, y7, y8, y9, y10, rfl, s5⟩
        obtain ⟨t, p, M, Rs, rfl, ht, RP, hM, gM, okM, lenM⟩ : ∃ (t p M : Addr) (Rs : List (List SRow)), x = .ref t ∧ Hc t = some (.tup [V.ref p, V.ref M]) ∧ Reg C H4 p ns (Rs.filter satB) ∧ Syss H4 M Rs ∧ (∀ R ∈ Rs, Good R ∧ ∀ r ∈ R, In2 ns r) ∧ (∀ R ∈ Rs, OkS ns 4 R) ∧ Rs.length ≤ 3 := by
          match i, hi with
          | 0, hi => exact ⟨t1, p1, L, Ss, (Option.some.inj hi).symm, eA', RA, hSy4, gS, okS, lenS⟩
          | 1, hi => exact ⟨t2, p2, O, Os, (Option.some.inj hi).symm, eB', RB, hOy4, gO, okO, lenO⟩
        clear hi eA' eB'
        have s45 := sc.trans s5
        refine ⟨t, _, rfl, SqT.of (s5 _ _ ht), rfl, _, _, rfl, _, _, rfl, rfl, ?_⟩
        have RP5 := RP.same s45
        have hM5 := hM.same s45
        obtain ⟨npp, tlp, RPA⟩ := id RP5
        obtain ⟨dxp, hp⟩ := RPA.ob
        -- some
        refine ⟨fun σ' H' => ∃ (sm : Addr), σ' = [some (.ref s), some (.ref np), some (.ref L), some (.ref O), some (.ref p1), some (.ref p2), some (.ref p), some (.ref M), some (.ref sm), y9, y10, none, none, none, none, none] ∧ Same H5 H' ∧ Syss H' sm (Rs.filter satB), ?_, ?_⟩
        · obtain ⟨ls, m1, m2, m3⟩ := id hM5
          refine ⟨_, rfl, M, rfl, ⟨_, SqL.of m1⟩, fun D nD => ?_⟩
          refine lc_list (K := K) (a := M) (xs := ls.map V.ref) (fun j H' => Same H5 H' ∧ ∃ qs : List Addr, H' D = some (.lst (qs.map V.ref)) ∧ qs.length ≤ j ∧ qs.length = ((Rs.take j).filter satB).length ∧ D ∉ qs ∧ ∀ (i : Nat) (l : Addr) (R : List SRow), qs[i]? = some l → ((Rs.take j).filter satB)[i]? = some R → Sys RowT H' l R)
            ⟨same_upd nD, [], upd_same, Nat.le_refl _, rfl, List.not_mem_nil, fun i l R e => nomatch e⟩ (fun j H' _ h => SqL.of (h.1 _ _ m1)) ?_ ?_
          · rintro j v H6 hj ⟨s6, qs, q1, q0, q2, q3, q4⟩
            obtain ⟨a, rfl, ha, hja⟩ := pick_ref hj
            obtain ⟨R, hR⟩ : ∃ R, Rs[j]? = some R := ⟨_, List.getElem?_eq_getElem (by omega)⟩
            have hRm := List.mem_of_getElem? hR
            have etake : (Rs.take (j + 1)).filter satB = (Rs.take j).filter satB ++ [R].filter satB := by rw [List.take_add_one, hR, List.filter_append]; rfl
            have hRS := (m3 j a R ha hR).sameT s6
            refine ⟨rfl, ?_⟩
            refine ⟨_, rfl, _, rfl, tab (s45.trans s6) hRS (gM R hRm).1 (gM R hRm).2 fun H7 x s7 hx => ⟨rfl, _, rfl, ?_⟩⟩
            rcases hx with ⟨rfl, no⟩ | ⟨d, rfl, yes⟩
            · refine iteF ⟨s6.trans s7, qs, s7 _ _ q1, by omega, ?_, q3, fun i l R a b => ?_⟩
              · rw [etake, List.filter_cons, if_neg (by rw [satB_not no]; decide), List.filter_nil, List.append_nil]
                exact q2
              · rw [etake, List.filter_cons, if_neg (by rw [satB_not no]; decide), List.filter_nil, List.append_nil] at b
                exact (q4 i l R a b).sameT s7
            · have aD : a ≠ D := fun z => by
                obtain ⟨rs, w1, _⟩ := m3 j a R ha hR
                rw [z, nD] at w1
                cases w1
              have ef : [R].filter satB = [R] := by rw [List.filter_cons, if_pos (satB_iff.mpr yes), List.filter_nil]
              obtain ⟨z1, z2, z3⟩ := Syss.push (s7 _ _ q1) q2 q3 (fun i l R a b => (q4 i l R a b).sameT s7) (hRS.sameT s7) aD
              refine iteT ⟨_, rfl, _, s7 _ _ q1, by rw [List.length_map]; exact small_sz (by omega), (s6.trans s7).later nD, qs ++ [a], by rw [upd_same, List.map_append]; rfl, by rw [List.length_append]; show qs.length + 1 ≤ _; omega, ?_, z2, ?_⟩
              · rw [etake, ef, List.length_append, List.length_append, q2]
                rfl
              · rw [etake, ef]
                exact z3
          · rintro H6 ⟨s6, qs, q1, q0, q2, q3, q4⟩
            rw [List.length_map, m2, List.take_length] at q2 q4
            exact ⟨D, rfl, s6, ⟨qs, q1, q2, q4⟩⟩
        rintro σ6 H6 ⟨sm, rfl, s6, hsm⟩
        have okF : ∀ R ∈ Rs.filter satB, ∀ r ∈ R, OkR r := fun R hR r hr => ((okM R (List.mem_filter.mp hR).1).1 r hr).2.1
        have usP : ∀ u, US (Rs.filter satB) u ↔ US Rs u := fun u => us_satB
        have lenP : (Rs.filter satB).length ≤ 3 := Nat.le_trans (List.length_filter_le _ _) lenM
        generalize Rs.filter satB = Ps at *
        have s46 := s45.trans s6
        have RP6 := RP5.same s6
        have hM6 := hM5.same s6
        have RPA6 := RPA.same s6
        have hp6 := s6 _ _ hp
        -- truth, names
        refine ⟨fun σ' H' => σ' = [some (.ref s), some (.ref np), some (.ref L), some (.ref O), some (.ref p1), some (.ref p2), some (.ref p), some (.ref M), some (.ref sm), y9, y10, none, none, none, none, none] ∧ Same H6 H', ?_, ?_⟩
        · refine ⟨_, rfl, boolO_reg RP6 fun b eb => ?_⟩
          refine ⟨_, rfl, Nat.zero_le _, fun e ne => ?_⟩
          have t7 := same_upd (o := HO.lst []) ne
          refine ⟨_, _, dp_syss (hsm.same t7), .lst (SqL.of upd_same) .nil, shaped_syss okF, by rfl, ?_⟩
          rw [eqv_syss0]
          refine ⟨rfl, _, rfl, ?_⟩
          rw [show b = !decide (Ps = []) by cases Ps <;> cases b <;> simp_all]
          rw [ne_bl rfl]
          refine iteF ?_
          refine ⟨_, rfl, p, dxp, _, rfl, t7 _ _ hp6, p, npp, tlp, ns, Ps, _, rfl, RPA6.same t7, ?_⟩
          refine ⟨_, rfl, _, _, dp_names (SqT.of (t7 _ _ RPA6.nm)), dp_names (SqT.of (s46.trans t7 _ _ hnp4)), shaped_names fun z hz => (NR.ok z hz).2.2, shaped_names fun z hz => (NR.ok z hz).2.2, ?_⟩
          rw [eqv_names]
          exact ⟨_, rfl, iteF ⟨rfl, t7⟩⟩
        rintro σ7 H7 ⟨rfl, s7⟩
        -- its point
        refine ⟨fun σ' H' => ∃ v9 : V, σ' = [some (.ref s), some (.ref np), some (.ref L), some (.ref O), some (.ref p1), some (.ref p2), some (.ref p), some (.ref M), some (.ref sm), some v9, y10, none, none, none, none, none] ∧ Same H6 H' ∧ ((v9 = .non ∧ Ps = []) ∨ ∃ (d : Addr) (u : Str → Int), v9 = .ref d ∧ Ps ≠ [] ∧ PtAt H' d ns u ∧ US Ps u ∧ u ("0" : Str) = 0), ?_, ?_⟩
        · exact ⟨_, rfl, p, dxp, _, rfl, s7 _ _ hp6, nPt _ _, p, ns, Ps, rfl, RP6.same s7, NR, fun e => ⟨_, rfl, s7, .inl ⟨rfl, e⟩⟩, fun H8 d u ne s8 nd hd hu h0 => ⟨_, rfl, s7.trans s8, .inr ⟨d, u, rfl, ne, hd, hu, h0⟩⟩⟩
        rintro σ8 H8 ⟨v9, rfl, s8, hv⟩
        refine ⟨fun σ' H' => σ' = [some (.ref s), some (.ref np), some (.ref L), some (.ref O), some (.ref p1), some (.ref p2), some (.ref p), some (.ref M), some (.ref sm), some v9, y10, none, none, none, none, none] ∧ Same H6 H', ?_, ?_⟩
        · obtain ⟨qs, q1, q2, q3⟩ := hsm.same s8
          refine ⟨_, rfl, rfl, _, rfl, Nat.zero_le _, fun e ne => ⟨sm, e, qs.map V.ref, rfl, rfl, ?_⟩⟩
          have sE := same_upd (o := HO.lst []) ne
          refine ⟨SqL.of (sE _ _ q1), SqL.of upd_same, ?_⟩
          have t8 := s8.trans sE
          have e9 : decide (v9 = .non) = (qs.map V.ref).isEmpty := by
            rcases hv with ⟨rfl, e⟩ | ⟨d, u, rfl, ne', _⟩
            · rw [e] at q2
              obtain rfl := List.length_eq_zero_iff.mp q2
              rfl
            · cases qs with
              | nil => exact absurd (List.length_eq_zero_iff.mp q2.symm) ne'
              | cons a b => rfl
          refine ⟨rfl, _, rfl, ?_⟩
          rw [ne_bl e9]
          refine iteF ?_
          rcases hv with ⟨rfl, e⟩ | ⟨d, u, rfl, ne', hd, hu, h0⟩
          · exact ⟨_, rfl, rfl, _, rfl, iteF ⟨rfl, t8⟩⟩
          · refine ⟨_, rfl, rfl, _, rfl, iteT ?_⟩
            refine ⟨_, rfl, _, rfl, M, d, Rs, ns, u, rfl, hM6.same t8, sE _ _ hd, fun R hR => (gM R hR).2, small_sz (by omega), fun H9 b s9 eb => ⟨b, rfl, ?_⟩⟩
            rw [eb.mpr (by rw [wz_self h0]; exact (usP u).mp hu)]
            exact iteF ⟨rfl, t8.trans s9⟩
        rintro σ9 H9 ⟨rfl, s9⟩
        -- its pieces
        refine ⟨_, rfl, p, dxp, _, rfl, s9 _ _ hp6, p, ns, Ps, rfl, RP6.same s9, NR, small_sz (by omega), fun H10 ql Fs s10 hFs lenF usF okFs satF => ?_⟩
        obtain ⟨fs, f1, f2, f3⟩ := id hFs
        refine ⟨ql, rfl, ⟨_, SqL.of f1⟩, for_list (K := K) (a := ql) (xs := fs.map V.ref) (fun i σ H' => ∃ (y10 : Option V), σ = [some (.ref s), some (.ref np), some (.ref L), some (.ref O), some (.ref p1), some (.ref p2), some (.ref p), some (.ref M), some (.ref sm), some v9, y10, none, none, none, none, none] ∧ Same H10 H')
          ⟨_, rfl, Same.refl _⟩ (fun i σ H' _ ⟨_, _, sm⟩ => SqL.of (sm _ _ f1)) ?_ ?_⟩
        · rintro k x σ H11 hk ⟨y10, rfl, s11⟩
          obtain ⟨a, rfl, ha, hka⟩ := pick_ref hk
          obtain ⟨R, hR⟩ : ∃ R, Fs[k]? = some R := ⟨_, List.getElem?_eq_getElem (by omega)⟩
          have hRm := List.mem_of_getElem? hR
          have rin := (okFs R hRm).1
          have n0 : ∀ x ∈ ("0" : Str) :: ns, x ≠ ("" : Str) := fun x hx => (List.mem_cons.mp hx).elim (fun e => by rw [e]; decide) fun m => (NR.ok x m).1
          have gR : Good R := ⟨fun r hr => ⟨(rin r hr).1, n0 _ (rin r hr).2.1, n0 _ (rin r hr).2.2⟩, Nat.le_trans (okFs R hRm).2 (Nat.le_trans (Nat.mul_le_mul (Nat.succ_le_succ n3) (Nat.succ_le_succ n3)) (by decide))⟩
          refine ⟨_, rfl, _, rfl, tab ((s46.trans s9).trans (s10.trans s11)) ((f3 k a R ha hR).sameT s11) gR (fun r hr => (rin r hr).2) fun H12 x s12 hx => ?_⟩
          rcases hx with ⟨rfl, no⟩ | ⟨d, rfl, yes⟩
          · obtain ⟨u, hu⟩ := satF R hRm
            exact absurd hu (no u)
          · exact ⟨rfl, _, rfl, iteF ⟨_, rfl, s11.trans s12⟩⟩
        · rintro σ H11 ⟨y10, rfl, s11⟩
          exact ⟨_, _, _, _, _, rfl, (s5.trans s6).trans (s9.trans (s10.trans s11))⟩
      · rintro σ H5 ⟨y6, y7, y8, y9, y10, rfl, s5⟩
        exact ⟨_, _, _, _, _, rfl, sc.trans s5⟩
    rintro σ5 H5 ⟨y6, y7, y8, y9, y10, rfl, s5⟩
    -- both
    refine ⟨Nat.zero_le _, fun b0 nb0 => ?_⟩
    have sB0 := same_upd (o := HO.lst []) nb0
    have hB0 := upd_same (H := H5) (a := b0) (o := HO.lst [])
    have s56 := s5.trans sB0
    generalize upd H5 b0 (.lst []) = H6 at *
    refine ⟨fun σ' H' => ∃ (bl : Addr) (y10 : Option V), σ' = [some (.ref s), some (.ref np), some (.ref L), some (.ref O), some (.ref p1), some (.ref p2), y6, y7, y8, y9, y10, some (.ref bl), none, none, none, none] ∧ Same H4 H' ∧ Syss H' bl (Ss.flatMap fun S => Os.map fun O => S ++ O), ?_, ?_⟩
    · obtain ⟨ls, m1, m2, m3⟩ := hSy4.same s56
      refine ⟨_, rfl, L, rfl, ⟨_, SqL.of m1⟩, for_list (K := K) (a := L) (xs := ls.map V.ref) (fun i σ H' => ∃ (bl : Addr) (y10 : Option V), σ = [some (.ref s), some (.ref np), some (.ref L), some (.ref O), some (.ref p1), some (.ref p2), y6, y7, y8, y9, y10, some (.ref bl), none, none, none, none] ∧ Same H6 H' ∧ Syss H' bl ((Ss.take i).flatMap fun S => Os.map fun O => S ++ O))
        ⟨_, _, rfl, Same.refl _, [], hB0, rfl, fun i l R e => nomatch e⟩ (fun i σ H' _ ⟨_, _, _, sm, _⟩ => SqL.of (sm _ _ m1)) ?_ ?_⟩
      · rintro i x σ H7 hi ⟨bl, y10, rfl, s7, hbl⟩
        obtain ⟨a, rfl, ha, hia⟩ := pick_ref hi
        obtain ⟨S, hS⟩ : ∃ S, Ss[i]? = some S := ⟨_, List.getElem?_eq_getElem (by omega)⟩
        have hSm := List.mem_of_getElem? hS
        have etake : (Ss.take (i + 1)).flatMap (fun S => Os.map fun O => S ++ O) = (Ss.take i).flatMap (fun S => Os.map fun O => S ++ O) ++ Os.map fun O => S ++ O := by rw [List.take_add_one, hS, List.flatMap_append]; simp
        have hAS := (m3 i a S ha hS).sameT s7
        have s67 := s56.trans s7
        obtain ⟨os, o1, o2, o3⟩ := hOy4.same s67
        refine ⟨_, rfl, _, rfl, O, rfl, ⟨_, SqL.of o1⟩, fun D nD => ?_⟩
        obtain ⟨as, a1, a2, a3⟩ := hAS
        refine lc_list (K := K) (a := O) (xs := os.map V.ref) (fun j H' => Same H7 H' ∧ ∃ qs : List Addr, H' D = some (.lst (qs.map V.ref)) ∧ qs.length = ((Os.take j).map fun O => S ++ O).length ∧ D ∉ qs ∧ ∀ (i : Nat) (l : Addr) (R : List SRow), qs[i]? = some l → ((Os.take j).map fun O => S ++ O)[i]? = some R → Sys RowT H' l R)
          ⟨same_upd nD, [], upd_same, rfl, List.not_mem_nil, fun i l R e => nomatch e⟩ (fun j H' _ h => SqL.of (h.1 _ _ o1)) ?_ ?_
        · rintro j v H8 hj ⟨s8, qs, q1, q2, q3, q4⟩
          obtain ⟨b, rfl, hb, hjb⟩ := pick_ref hj
          obtain ⟨R, hR⟩ : ∃ R, Os[j]? = some R := ⟨_, List.getElem?_eq_getElem (by omega)⟩
          have ej : (Os.take (j + 1)).map (fun O => S ++ O) = (Os.take j).map (fun O => S ++ O) ++ [S ++ R] := by rw [List.take_add_one, hR, List.map_append]; rfl
          obtain ⟨bs, c1, c2, c3⟩ := (o3 j b R hb hR).sameT s8
          refine ⟨rfl, ?_⟩
          unfold tYes
          refine iteT ⟨_, rfl, _, rfl, a, b, _, _, rfl, rfl, s8 _ _ a1, c1, ?_, fun c nc => ?_⟩
          · have x1 := (okS S hSm).2
            have x2 := (okO R (List.mem_of_getElem? hR)).2
            rw [List.length_map, List.length_map, a2, c2]
            exact Nat.le_of_lt (small_sz (by omega))
          have sP := same_upd (o := HO.lst (as.map V.ref ++ bs.map V.ref)) nc
          have cD : c ≠ D := fun z => by
            rw [z, q1] at nc
            cases nc
          have hc : Sys RowT (upd H8 c (.lst (as.map V.ref ++ bs.map V.ref))) c (S ++ R) := Sys.app a2 (fun i p r x y => sP _ _ (s8 _ _ (a3 i p r x y))) c2 (fun i p r x y => sP _ _ (c3 i p r x y)) upd_same
          obtain ⟨z1, z2, z3⟩ := Syss.push (sP _ _ q1) q2 q3 (fun i l R a b => (q4 i l R a b).sameT sP) hc cD
          refine ⟨_, sP _ _ q1, ?_, (s8.trans sP).later nD, qs ++ [c], by rw [upd_same, List.map_append]; rfl, ?_, z2, ?_⟩
          · rw [List.length_map, q2, List.length_map, List.length_take]
            exact small_sz (by omega)
          · rw [ej]
            exact z1
          · rw [ej]
            exact z3
        · rintro H8 ⟨s8, qs, q1, q2, q3, q4⟩
          rw [show (os.map V.ref).length = Os.length by rw [List.length_map, o2], List.take_length] at q2 q4
          obtain ⟨bs, b1, b2, b3⟩ := hbl.same s8
          refine ⟨bl, D, _, _, rfl, rfl, b1, q1, ?_, fun c nc => ?_⟩
          · rw [List.length_map, List.length_map, b2, q2]
            rw [flat_len, List.length_map, List.length_take]
            have : min i Ss.length * Os.length ≤ 3 * 3 := Nat.mul_le_mul (by omega) lenO
            exact Nat.le_of_lt (small_sz (by omega))
          have sC := same_upd (o := HO.lst (bs.map V.ref ++ qs.map V.ref)) nc
          refine ⟨c, _, rfl, (s7.trans s8).trans sC, ?_⟩
          rw [etake]
          exact Syss.app b2 (fun i l R a b => (b3 i l R a b).sameT sC) q2 (fun i l R a b => (q4 i l R a b).sameT sC) upd_same
      · rintro σ H7 ⟨bl, y10, rfl, s7, hbl⟩
        rw [List.length_map, m2, List.take_length] at hbl
        exact ⟨bl, _, rfl, s56.trans s7, hbl⟩
    rintro σ7 H7 ⟨bl, y10, rfl, s7, hbl⟩
    have memB : ∀ R ∈ (Ss.flatMap fun S => Os.map fun O => S ++ O), ∃ S ∈ Ss, ∃ O ∈ Os, R = S ++ O := fun R hR => by
      obtain ⟨S, hS, h⟩ := List.mem_flatMap.mp hR
      obtain ⟨O, hO, rfl⟩ := List.mem_map.mp h
      exact ⟨S, hS, O, hO, rfl⟩
    have inB : ∀ S ∈ Ss, ∀ O ∈ Os, S ++ O ∈ (Ss.flatMap fun S => Os.map fun O => S ++ O) := fun S hS O hO => List.mem_flatMap.mpr ⟨S, hS, List.mem_map.mpr ⟨O, hO, rfl⟩⟩
    have len9 : (Ss.flatMap fun S => Os.map fun O => S ++ O).length ≤ 9 := by
      rw [flat_len]
      exact Nat.le_trans (Nat.mul_le_mul lenS lenO) (by decide)
    generalize (Ss.flatMap fun S => Os.map fun O => S ++ O) = Bs at *
    -- the meet
    refine ⟨fun σ' H' => σ' = [some (.ref s), some (.ref np), some (.ref L), some (.ref O), some (.ref p1), some (.ref p2), y6, y7, y8, y9, y10, some (.ref bl), none, none, none, none] ∧ Same H4 H', ?_, ?_⟩
    · refine ⟨_, rfl, _, rfl, andO_reg (RA.same s7) (RB.same s7) NR (dj.same s7 RA RB) (Nat.lt_of_le_of_lt (Nat.mul_le_mul lenA lenB) (by decide)) fun H8 r X8 s8 h8 us8 len8 => ?_⟩
      refine boolO_reg h8 fun b eb => ?_
      have s78 := s7.trans s8
      obtain ⟨bs, b1, b2, b3⟩ := hbl.same s8
      refine ⟨_, rfl, bl, rfl, ⟨_, SqL.of b1⟩, fun D nD => ?_⟩
      refine lc_list (K := K) (a := bl) (xs := bs.map V.ref) (fun j H' => Same H8 H' ∧ ∃ ts : List Bool, H' D = some (.lst (ts.map V.bl)) ∧ ts.length = j ∧ (ts.any id = true ↔ ∃ R ∈ Bs.take j, ∃ u, Sat R u))
        ⟨same_upd nD, [], upd_same, rfl, ⟨(fun z => nomatch z), fun ⟨R, h, _⟩ => absurd h List.not_mem_nil⟩⟩ (fun j H' _ h => SqL.of (h.1 _ _ b1)) ?_ ?_
      · rintro j v H9 hj ⟨s9, ts, t1, t2, t3⟩
        obtain ⟨a, rfl, ha, hja⟩ := pick_ref hj
        obtain ⟨R, hR⟩ : ∃ R, Bs[j]? = some R := ⟨_, List.getElem?_eq_getElem (by omega)⟩
        have hRm := List.mem_of_getElem? hR
        obtain ⟨S, hSm, O', hOm, eR⟩ := memB R hRm
        have etake : Bs.take (j + 1) = Bs.take j ++ [R] := by rw [List.take_add_one, hR]; rfl
        have gR : Good R ∧ ∀ r ∈ R, In2 ns r := by
          have x1 := (okS S hSm).2
          have x2 := (okO O' hOm).2
          rw [eR]
          refine ⟨⟨fun r hr => ?_, by rw [List.length_append]; omega⟩, fun r hr => ?_⟩
          · exact (List.mem_append.mp hr).elim ((gS S hSm).1.row r) ((gO O' hOm).1.row r)
          · exact (List.mem_append.mp hr).elim ((gS S hSm).2 r) ((gO O' hOm).2 r)
        refine ⟨rfl, ?_⟩
        unfold tYes
        refine iteT ⟨_, rfl, _, rfl, tab (s78.trans s9) ((b3 j a R ha hR).sameT s9) gR.1 gR.2 fun H10 x s10 hx => ⟨rfl, ?_⟩⟩
        obtain ⟨y, ey, yes⟩ : ∃ y : Bool, (!decide (x = V.non)) = y ∧ (y = true ↔ ∃ u, Sat R u) := by
          rcases hx with ⟨rfl, no⟩ | ⟨d, rfl, yes⟩
          · exact ⟨false, rfl, ⟨(fun z => nomatch z), fun ⟨u, hu⟩ => absurd hu (no u)⟩⟩
          · exact ⟨true, rfl, ⟨fun _ => yes, fun _ => rfl⟩⟩
        rw [ey]
        refine ⟨_, s10 _ _ t1, by rw [List.length_map, t2]; exact small_sz (by omega), (s9.trans s10).later nD, ts ++ [y], by rw [upd_same, List.map_append]; rfl, by rw [List.length_append, t2]; rfl, ?_⟩
        rw [etake, List.any_append, Bool.or_eq_true, t3]
        simp only [List.any_cons, List.any_nil, Bool.or_false, id]
        rw [yes]
        constructor
        · rintro (⟨R', h1, h2⟩ | h)
          · exact ⟨R', List.mem_append_left _ h1, h2⟩
          · exact ⟨R, List.mem_append_right _ List.mem_cons_self, h⟩
        · rintro ⟨R', h1, h2⟩
          rcases List.mem_append.mp h1 with m | m
          · exact .inl ⟨R', m, h2⟩
          · exact .inr (List.mem_singleton.mp m ▸ h2)
      rintro H9 ⟨s9, ts, t1, t2, t3⟩
      rw [List.length_map, b2, List.take_length] at t3
      refine ⟨D, ts, rfl, SqL.of t1, rfl, _, rfl, ?_⟩
      rw [ne_bl (bool_of eb (t3.trans ⟨fun ⟨R, hR, u, hu⟩ => ?_, fun ne => ?_⟩))]
      · exact iteF ⟨rfl, s78.trans s9⟩
      · obtain ⟨S, hSm, O', hOm, rfl⟩ := memB R hR
        obtain ⟨x1, x2⟩ := sat_appAll.mp hu
        exact fun e => (h8.empty_iff.mp e) u ((us8 u).mpr ⟨us_satB.mpr ⟨S, hSm, x1⟩, us_satB.mpr ⟨O', hOm, x2⟩⟩)
      · obtain ⟨u, hu⟩ : ∃ u, US X8 u := Classical.byContradiction fun n => ne (h8.empty_iff.mpr fun u hu => n ⟨u, hu⟩)
        obtain ⟨x1, x2⟩ := (us8 u).mp hu
        obtain ⟨S, hSm, h1⟩ := us_satB.mp x1
        obtain ⟨O', hOm, h2⟩ := us_satB.mp x2
        exact ⟨_, inB S hSm O' hOm, u, sat_appAll.mpr ⟨h1, h2⟩⟩
    rintro σ8 H8 ⟨rfl, s8⟩
    -- eight points
    refine ⟨fun σ' H' => ∃ (y9 y12 : Option V), σ' = [some (.ref s), some (.ref np), some (.ref L), some (.ref O), some (.ref p1), some (.ref p2), y6, y7, y8, y9, y10, some (.ref bl), y12, none, none, none] ∧ Same H4 H', ?_, ?_⟩
    · refine ⟨_, rfl, by decide, by decide, for_range (lo := 0) (fun i σ H' => ∃ (y9 y12 : Option V), σ = [some (.ref s), some (.ref np), some (.ref L), some (.ref O), some (.ref p1), some (.ref p2), y6, y7, y8, y9, y10, some (.ref bl), y12, none, none, none] ∧ Same H4 H') ⟨_, _, rfl, s8⟩ ?_ ?_⟩
      · rintro i σ H9 hi ⟨y9, y12, rfl, s9⟩
        refine ⟨_, rfl, _, rfl, _, _, rfl, rfl, .inl ⟨by decide, by decide⟩, _, _, rfl, rfl, _, rfl, s, np, _, ns, rfl, hS.same (s04.trans s9), s9 _ _ hnp4, NR.nd, by omega, fun H10 d u s10 nd10 hd => ?_⟩
        refine ⟨_, rfl, _, rfl, _, rfl, _, rfl, _, rfl, ?_⟩
        have sm := s9.trans s10
        refine ⟨p1, p2, L, O, d, ns, Ss, Os, u, rfl, RA.same sm, RB.same sm, NR, n3, dj.same sm RA RB, hSy4.same sm, hOy4.same sm, hd, fun R hR => (gS R hR).2, fun R hR => (gO R hR).2, lenS, lenO, fun H11 s11 => ?_⟩
        exact ⟨true, rfl, iteF ⟨_, _, rfl, (s9.trans s10).trans s11⟩⟩
      · rintro σ H9 ⟨y9, y12, rfl, s9⟩
        exact ⟨_, _, rfl, s9⟩
    rintro σ9 H9 ⟨y9', y12, rfl, s9⟩
    -- a point of each
    refine ⟨fun σ' H' => ∃ (y6 y9 : Option V), σ' = [some (.ref s), some (.ref np), some (.ref L), some (.ref O), some (.ref p1), some (.ref p2), y6, y7, y8, y9, y10, some (.ref bl), y12, none, none, none] ∧ Same H4 H', ?_, ?_⟩
    · refine ⟨_, rfl, _, rfl, sz2, fun t3 nt3 => ?_⟩
      have sC := same_upd (o := HO.tup [V.ref p1, V.ref p2]) nt3
      have eC := upd_same (H := H9) (a := t3) (o := HO.tup [V.ref p1, V.ref p2])
      generalize upd H9 t3 (.tup [V.ref p1, V.ref p2]) = Hc at *
      have sc := s9.trans sC
      refine ⟨t3, rfl, ⟨_, SqT.of eC⟩, for_tup (K := K) (a := t3) (xs := [V.ref p1, V.ref p2]) (fun i σ H' => ∃ (y6 y9 : Option V), σ = [some (.ref s), some (.ref np), some (.ref L), some (.ref O), some (.ref p1), some (.ref p2), y6, y7, y8, y9, y10, some (.ref bl), y12, none, none, none] ∧ Same Hc H')
        ⟨_, _, rfl, Same.refl _⟩ (fun i σ H' _ ⟨_, _, _, sm⟩ => SqT.of (sm _ _ eC)) ?_ ?_⟩
      · rintro i x σ H10 hi ⟨y6, y9, rfl, s10⟩
        obtain ⟨p, Ps, rfl, RP⟩ : ∃ (p : Addr) (Ps : List (List SRow)), x = .ref p ∧ Reg C H4 p ns Ps := by
          match i, hi with
          | 0, hi => exact ⟨p1, _, (Option.some.inj hi).symm, RA⟩
          | 1, hi => exact ⟨p2, _, (Option.some.inj hi).symm, RB⟩
        clear hi
        have s410 := sc.trans s10
        have RP10 := RP.same s410
        obtain ⟨npp, tlp, RPA⟩ := id RP10
        obtain ⟨dxp, hp⟩ := RPA.ob
        refine ⟨fun σ' H' => ∃ v9 : V, σ' = [some (.ref s), some (.ref np), some (.ref L), some (.ref O), some (.ref p1), some (.ref p2), some (.ref p), y7, y8, some v9, y10, some (.ref bl), y12, none, none, none] ∧ Same H10 H' ∧ (v9 = .non ∨ ∃ (d : Addr) (u : Str → Int), v9 = .ref d ∧ PtAt H' d ns u), ?_, ?_⟩
        · exact ⟨_, rfl, p, dxp, _, rfl, hp, nPt _ _, p, ns, Ps, rfl, RP10, NR, fun e => ⟨_, rfl, Same.refl _, .inl rfl⟩, fun H8 d u ne s8 nd hd hu h0 => ⟨_, rfl, s8, .inr ⟨d, u, rfl, hd⟩⟩⟩
        rintro σ11 H11 ⟨v9, rfl, s11, hv⟩
        rcases hv with rfl | ⟨d, u, rfl, hd⟩
        · exact ⟨_, rfl, rfl, _, rfl, iteF ⟨_, _, rfl, s10.trans s11⟩⟩
        · refine ⟨_, rfl, rfl, _, rfl, iteT ?_⟩
          refine ⟨_, rfl, _, rfl, _, rfl, _, rfl, _, rfl, ?_⟩
          have sm := s410.trans s11
          refine ⟨p1, p2, L, O, d, ns, Ss, Os, u, rfl, RA.same sm, RB.same sm, NR, n3, dj.same sm RA RB, hSy4.same sm, hOy4.same sm, hd, fun R hR => (gS R hR).2, fun R hR => (gO R hR).2, lenS, lenO, fun H12 s12 => ?_⟩
          exact ⟨true, rfl, iteF ⟨_, _, rfl, (s10.trans s11).trans s12⟩⟩
      · rintro σ H10 ⟨y6, y9, rfl, s10⟩
        exact ⟨_, _, rfl, sc.trans s10⟩
    rintro σ10 H10 ⟨y6', y9'', rfl, s10⟩
    -- nothing, the whole
    refine ⟨fun σ' H' => ∃ (pe pw : Addr) (Ws : List (List SRow)), σ' = [some (.ref s), some (.ref np), some (.ref L), some (.ref O), some (.ref p1), some (.ref p2), y6', y7, y8, y9'', y10, some (.ref bl), y12, some (.ref pe), some (.ref pw), none] ∧ Same H4 H' ∧ Reg C H' pe ns [] ∧ Reg C H' pw ns Ws ∧ (∀ u, US Ws u) ∧ Ws.length = 1 ∧ DjR C H' p1 pw, ?_, ?_⟩
    · refine ⟨rfl, _, rfl, np, ns, rfl, SqT.of (s10 _ _ hnp4), NR, fun H11 pe npe tle s11 nq RE => ?_⟩
      have s411 := s10.trans s11
      obtain ⟨ds, lk, dk, djl⟩ := reg_locks (RA.same s411)
      refine ⟨ds, lk, fun HL l => ?_⟩
      refine ⟨rfl, _, rfl, np, ns, rfl, SqT.of (lock_in lk dk l (s411 _ _ hnp4) (fun kvs z => nomatch z)), NR, fun H12 pw Ws s12 nq RW us len => ?_⟩
      refine ⟨lock_keeps l s12, fun HU u => ?_⟩
      obtain ⟨RW', av⟩ := unlock_reg l s12 u RW
      have sU := lock_same lk l s12 u
      exact ⟨_, _, rfl, pe, pw, Ws, rfl, s411.trans sU, Reg.same sU ⟨_, _, RE⟩, RW', us, len, djl HU pw sU av⟩
    rintro σ11 H11 ⟨pe, pw, Ws, rfl, s11, RE, RW, usW, lenW, djW⟩
    have RA11 := RA.same s11
    obtain ⟨ds, lk, dk, djl⟩ := reg_locks RA11
    have okA : ∀ R ∈ Ss.filter satB, OkS ns 4 R := fun R hR => okS R (List.mem_filter.mp hR).1
    generalize Ss.filter satB = As at *
    have szE : (18473 : Nat) * 3 < sizeLine := by decide
    have e48 := ents48 n3 lenA
    have p48 := phi48 e48
    -- of one: nothing in common with what lies outside, and everything together
    refine ⟨fun σ' H' => σ' = [some (.ref s), some (.ref np), some (.ref L), some (.ref O), some (.ref p1), some (.ref p2), y6', y7, y8, y9'', y10, some (.ref bl), y12, some (.ref pe), some (.ref pw), none] ∧ Same H11 H', ?_, ?_⟩
    · refine ⟨_, rfl, boolO_reg RE fun b eb => ⟨b, rfl, ?_⟩⟩
      rw [bool_no eb fun n => n rfl]
      refine iteF ?_
      refine ⟨_, rfl, boolO_reg RW fun b eb => ⟨b, rfl, ?_⟩⟩
      rw [eb.mpr fun n => by rw [n] at lenW; cases lenW]
      refine iteF ?_
      refine ⟨_, rfl, _, rfl, invO2_reg (Ec := entsOf (("0" : Str) :: ns) As) lk dk RA11 NR n3 (small_sz (by omega)) (fun O hO qr _ hx hy hk => entsOf_mem hO hx hy hk) entsOf_in (by omega) fun H12 r12 X12 Ms Os' G s12 h12 us12 len12 _ _ _ _ _ _ av12 => ?_⟩
      refine andO_reg (RA11.same s12) h12 NR (djl H12 r12 s12 av12) ?_ fun H13 r13 X13 s13 h13 us13 len13 => ?_
      · refine Nat.lt_of_le_of_lt ?_ szE
        rw [Nat.mul_comm]
        exact Nat.mul_le_mul (Nat.le_trans len12 p48) lenA
      refine boolO_reg h13 fun b eb => ⟨b, rfl, ?_⟩
      rw [bool_no eb fun n => n (h13.empty_iff.mpr fun u hu => ((us12 u).mp ((us13 u).mp hu).2) ((us13 u).mp hu).1)]
      refine iteF ?_
      have t13 := s12.trans s13
      refine ⟨_, rfl, _, rfl, invO2_reg (Ec := entsOf (("0" : Str) :: ns) As) noLock (fun p h => nomatch h) (RA11.same t13) NR n3 (small_sz (by omega)) (fun O hO qr _ hx hy hk => entsOf_mem hO hx hy hk) entsOf_in (by omega) fun H14 r14 X14 Ms Os' G s14 h14 us14 len14 sub14 ol14 lits14 rows14 sol14 ent14 _ => ?_⟩
      have t14 := t13.trans s14
      have b14 : As.length + X14.length < sizeLine := by omega
      refine orO_reg (RA11.same t14) h14 NR b14 fun H15 r15 X15 s15 h15 us15 len15 ent15 => ?_
      obtain ⟨Ec, c1, c2, c3⟩ := few_ents z0 n3 lenA sub14 ol14 okA lits14 rows14 sol14 ent14 ent15
      refine invO2_reg (Ec := Ec) noLock (fun p h => nomatch h) h15 NR n3 (Nat.lt_of_le_of_lt len15 b14) c3 c2 c1 fun H16 r16 X16 _ _ _ s16 h16 us16 _ _ _ _ _ _ _ _ => ?_
      refine boolO_reg h16 fun b eb => ⟨b, rfl, ?_⟩
      rw [bool_no eb fun n => n (h16.empty_iff.mpr fun u hu => (us16 u).mp hu ((us15 u).mpr (Classical.byCases .inl fun h => .inr ((us14 u).mpr h))))]
      refine iteF ?_
      have t16 := (t14.trans s15).trans s16
      refine ⟨_, rfl, invO_reg (RW.same t16) NR (by rw [lenW]; decide) ?_ fun H17 r17 X17 s17 h17 us17 _ => ?_⟩
      · have := bnd3 (a := 1) (by decide) (show Ws.length ≤ 3 by omega) n3
        have e : (12288 : Nat) < sizeLine := by decide
        omega
      refine boolO_reg h17 fun b eb => ⟨b, rfl, ?_⟩
      rw [bool_no eb fun n => n (h17.empty_iff.mpr fun u hu => (us17 u).mp hu (usW u))]
      exact iteF ⟨rfl, t16.trans s17⟩
    rintro σ12 H12 ⟨rfl, s12⟩
    have lt3 : ∀ {a b : Nat}, a ≤ 3 → b ≤ 3 → a * ((ns.length + 1) * (ns.length + 1)) ^ b < sizeLine := fun ha hb => Nat.lt_of_le_of_lt (bnd3 ha hb n3) (by decide)
    have RE12 := RE.same s12
    have RW12 := RW.same s12
    have RA12 := RA11.same s12
    have dj12 := djW.same s12 RA11 RW
    obtain ⟨npw, tlw, RWA⟩ := id RW12
    obtain ⟨dxw, hpw⟩ := RWA.ob
    -- the whole is what lies outside nothing
    refine ⟨_, rfl, pw, dxw, _, rfl, hpw, nSa _ _, _, rfl, invO_reg RE12 NR (by decide) (show 1 < sizeLine by decide) fun H13 r13 X13 s13 h13 us13 len13 => ?_⟩
    have l13 : X13.length ≤ 1 := len13
    refine ⟨pw, r13, ns, Ws, X13, rfl, RW12.same s13, h13, NR, small_sz (by omega), small_sz (by omega), lt3 (by omega) (by omega), lt3 (by omega) (by omega), fun H14 b s14 eb => ?_⟩
    rw [eb.mpr fun u => ⟨fun _ => (us13 u).mpr us_nil, fun _ => usW u⟩]
    refine ⟨true, rfl, iteT ?_⟩
    have t14 := s13.trans s14
    -- in the whole
    refine ⟨_, rfl, _, rfl, andO_reg (RA12.same t14) (RW12.same t14) NR (dj12.same t14 RA12 RW12) ?_ fun H15 r15 X15 s15 h15 us15 len15 => ?_⟩
    · rw [lenW, Nat.mul_one]
      exact small_sz (by omega)
    rw [lenW, Nat.mul_one] at len15
    obtain ⟨npx, tlx, RX⟩ := id h15
    obtain ⟨dxx, hpx⟩ := RX.ob
    have t15 := t14.trans s15
    refine ⟨r15, dxx, _, rfl, hpx, nSa _ _, _, rfl, r15, p1, ns, X15, As, rfl, h15, RA12.same t15, NR, small_sz (by omega), small_sz (by omega), lt3 (by omega) (by omega), lt3 (by omega) (by omega), fun H16 b s16 eb => ?_⟩
    rw [eb.mpr fun u => (us15 u).trans ⟨fun h => h.1, fun h => ⟨h, usW u⟩⟩]
    refine ⟨true, rfl, iteT ?_⟩
    have t16 := t15.trans s16
    -- with nothing
    refine ⟨_, rfl, _, rfl, orO_reg (RA12.same t16) (RE12.same t16) NR (small_sz (show As.length + 0 < 1000 by omega)) fun H17 r17 X17 s17 h17 us17 len17 _ => ?_⟩
    have l17 : X17.length ≤ As.length + 0 := len17
    obtain ⟨npy, tly, RY⟩ := id h17
    obtain ⟨dxy, hpy⟩ := RY.ob
    have t17 := t16.trans s17
    refine ⟨r17, dxy, _, rfl, hpy, nSa _ _, _, rfl, r17, p1, ns, X17, As, rfl, h17, RA12.same t17, NR, small_sz (by omega), small_sz (by omega), lt3 (by omega) (by omega), lt3 (by omega) (by omega), fun H18 b s18 eb => ?_⟩
    rw [eb.mpr fun u => (us17 u).trans ⟨fun h => h.elim id fun h => absurd h us_nil, .inl⟩]
    refine ⟨true, rfl, iteT ?_⟩
    have t18 := t17.trans s18
    refine ⟨_, rfl, _, rfl, andO_reg (RA12.same t18) (RE12.same t18) NR (dj_nil (RE12.same t18)) (show As.length * 0 < sizeLine by rw [Nat.mul_zero]; decide) fun H19 r19 X19 s19 h19 us19 _ => ?_⟩
    refine boolO_reg h19 fun b eb => ⟨b, rfl, ?_⟩
    rw [bool_no eb fun n => n (h19.empty_iff.mpr fun u hu => us_nil ((us19 u).mp hu).2)]
    exact q _
end
end Lo
namespace Lo
open PySem L2
/-- a def of the top, as it stands behind it -/
structure Df (K : PySem.W.Frag) (x : Str) (st : Stmt) (f : Addr) (fd : FuncData) : Prop where
  ns : PySem.W.nsIn K mainGlobals x = some (some (.ref f))
  fn : Fun K x x st f fd
theorem df_mk {K : PySem.W.Frag} {x : Str} {st : Stmt} {f : Addr} {oc : Value} {od an : Option Addr} {osl : Array (Option Value)} {kV doc pm cdv ct : Value} (a : PySem.W.nsIn K mainGlobals x = some (some (.ref f)))
    (l : K.lookup f = some ⟨oc, od, .func (PySem.W.fnOf x x (defArgs st) (defBody st) (defScope st) .none kV doc pm an cdv ct), osl⟩) (c : PySem.W.codeIn K cdv x = true) (k : PySem.W.keepIn K (.ref f) = true) :
    Df K x st f (PySem.W.fnOf x x (defArgs st) (defBody st) (defScope st) .none kV doc pm an cdv ct) := ⟨a, fun_mk l c k⟩
set_option maxHeartbeats 0 in
theorem all_mk {l : PySem.W.OpenLaw} {w : World} {K : PySem.W.Frag} {h : Heap} {mg : Str → Option Value} {fa f1 f2 f3 f4 f5 f6 f7 f8 f9 f10 f11 f12 f13 f14 f15 f16 f17 f18 f19 f20 f21 f22 f23 f24 f25 f26 f27 f28 f29 f30 f31 f32 f33 f34 f35 f36 f37 f38 f39 f40 f41 f42 f43 f44 f45 C mpy mpx gi ga gp gd gs go gv gb gc gn ge gy gx pn pe : Addr} {t_many t_crowd : Nat} {rn re resty restx : List Value} {mc : Value} (X0 : K.In h) (G : h.Ns mainGlobals mg) (hfa : mg "law" = some (.ref fa))
    {fd1 fd2 fd3 fd4 fd5 fd6 fd7 fd8 fd9 fd10 fd11 fd12 fd13 fd14 fd15 fd16 fd17 fd18 fd19 fd20 fd21 fd22 fd23 fd24 fd25 fd26 fd27 fd28 fd29 fd30 fd31 fd32 fd33 fd34 fd35 fd36 fd37 fd38 fd39 fd40 fd41 fd42 fd43 fd44 : FuncData}
    (D1 : Df K "is_whole" sWhole f1 fd1)
    (D2 : Df K "is_side" sSide f2 fd2)
    (D3 : Df K "is_difference" sDiff f3 fd3)
    (D4 : Df K "is_name" sIsName f4 fd4)
    (D5 : Df K "read_names" sReadN f5 fd5)
    (D6 : Df K "tightened" sTightened f6 fd6)
    (D7 : Df K "_with_rows" sWithRows f7 fd7)
    (D8 : Df K "_lowered" sLowered f8 fd8)
    (D9 : Df K "table_of" sTableOf f9 fd9)
    (D10 : Df K "_in_order" sInOrder f10 fd10)
    (D11 : Df K "_leader" sLeader f11 fd11)
    (D12 : Df K "_groups" sGroups f12 fd12)
    (D13 : Df K "_follows" sFollows f13 fd13)
    (D14 : Df K "fewest_of" sFewestOf f14 fd14)
    (D15 : Df K "met" sMet f15 fd15)
    (D16 : Df K "both_of" sBothOf f16 fd16)
    (D17 : Df K "lies_in" sLiesIn f17 fd17)
    (D18 : Df K "solves" sSolvesT f18 fd18)
    (D19 : Df K "some_point" sSomePoint f19 fd19)
    (D20 : Df K "hull_of" sHullOf f20 fd20)
    (D21 : Df K "cut_off" sCutOff f21 fd21)
    (D22 : Df K "subtracted" sSubtracted f22 fd22)
    (D23 : Df K "_lies_in_one" sLiesInOne f23 fd23)
    (D24 : Df K "absorbed" sAbsorbed f24 fd24)
    (D25 : Df K "one_of" sOneOf f25 fd25)
    (D26 : Df K "_partner" sPartner f26 fd26)
    (D27 : Df K "united" sUnited f27 fd27)
    (D28 : Df K "simplified" sSimplified f28 fd28)
    (D29 : Df K "outside" sOutside f29 fd29)
    (D30 : Df K "_fits" sFits f30 fd30)
    (D31 : Df K "_checked" sChecked f31 fd31)
    (D32 : Df K "_read_tables" sReadTs f32 fd32)
    (D33 : Df K "region_of" sRegionOf f33 fd33)
    (D34 : Df K "_check_alike" sCheckAlike f34 fd34)
    (D35 : Df K "_law_draw" sDraw f35 fd35)
    (D36 : Df K "_law_pool" sPool f36 fd36)
    (D37 : Df K "_law_system" sSystem f37 fd37)
    (D38 : Df K "_law_table" sLTable f38 fd38)
    (D39 : Df K "_law_worth" sLWorth f39 fd39)
    (D40 : Df K "_law_solves" sLSolves f40 fd40)
    (D41 : Df K "_law_parts" sLParts f41 fd41)
    (D42 : Df K "_law_point" sLPoint f42 fd42)
    (D43 : Df K "_law_inside" sLInside f43 fd43)
    (D44 : Df K "_law_right" sLRight f44 fd44)
    {od an : Option Addr} {sl : Array (Option Value)} {oc kV dc pm cd ct : Value}
    (aL : PySem.W.nsIn K mainGlobals "law" = some (some (.ref f45))) (lL : K.lookup f45 = some ⟨oc, od, .func (PySem.W.fnOf "law" "law" (defArgs sLaw6) (defBody sLaw6) (defScope sLaw6) .none kV dc pm an cd ct), sl⟩) (cL : PySem.W.codeIn K cd "law" = true) (kL : PySem.W.keepIn K (.ref f45) = true)
    (z_isi : PySem.W.nsIn K mainGlobals "isinstance" = some none)
    (z_int : PySem.W.nsIn K mainGlobals "int" = some none)
    (z_bool : PySem.W.nsIn K mainGlobals "bool" = some none)
    (z_str : PySem.W.nsIn K mainGlobals "str" = some none)
    (z_tuple : PySem.W.nsIn K mainGlobals "tuple" = some none)
    (z_list : PySem.W.nsIn K mainGlobals "list" = some none)
    (z_len : PySem.W.nsIn K mainGlobals "len" = some none)
    (z_enum : PySem.W.nsIn K mainGlobals "enumerate" = some none)
    (z_range : PySem.W.nsIn K mainGlobals "range" = some none)
    (z_all : PySem.W.nsIn K mainGlobals "all" = some none)
    (z_sorted : PySem.W.nsIn K mainGlobals "sorted" = some none)
    (z_set : PySem.W.nsIn K mainGlobals "set" = some none)
    (z_sum : PySem.W.nsIn K mainGlobals "sum" = some none)
    (z_dict : PySem.W.nsIn K mainGlobals "dict" = some none)
    (z_max : PySem.W.nsIn K mainGlobals "max" = some none)
    (z_min : PySem.W.nsIn K mainGlobals "min" = some none)
    (z_any : PySem.W.nsIn K mainGlobals "any" = some none)
    (n_many : PySem.W.nsIn K mainGlobals "MANY" = some (some (.int 40 t_many)))
    (n_crowd : PySem.W.nsIn K mainGlobals "CROWD" = some (some (.int 400 t_crowd)))
    (cC : PySem.W.nsIn K mainGlobals "Region" = some (some (.ref C)))
    (pg : PySem.W.plainGet K C Str.empty = true)
    (hd : PySem.W.hasDictIn K C = true)
    (po : PySem.W.plainOver K C = true)
    (sa : PySem.W.findIn K (.ref C) "__setattr__" = some (some (.builtin "object.__setattr__")))
    (mk : PySem.W.makesIn K C = true)
    (kc : PySem.W.keepIn K (.ref C) = true)
    (nN : PySem.W.findIn K (.ref C) "_names" = some none)
    (nT : PySem.W.findIn K (.ref C) "_tables" = some none)
    (sf : PySem.W.selfFirst K C = true)
    (ty : PySem.W.typeIn K (.ref C) = some mc)
    (rd : PySem.W.readsIn K C mc = true)
    (rg : PySem.W.specialIn K (.ref C) "__getattribute__" = some (some (.builtin "type.__getattribute__")))
    (wy : PySem.W.findCls K (.ref C) mc "nothing" = some (.get (.builtin "classmethod.__get__") (.ref mpy) .none (.ref C)))
    (rcy : PySem.W.recIn K mpy "classmethod" = some (.ref gy :: resty))
    (fiy : PySem.W.fnIn K gy = true)
    (wx : PySem.W.findCls K (.ref C) mc "whole" = some (.get (.builtin "classmethod.__get__") (.ref mpx) .none (.ref C)))
    (rcx : PySem.W.recIn K mpx "classmethod" = some (.ref gx :: restx))
    (fix : PySem.W.fnIn K gx = true)
    (wi : PySem.W.findIn K (.ref C) "__init__" = some (some (.ref gi)))
    (wa : PySem.W.findIn K (.ref C) "same" = some (some (.ref ga)))
    (wp : PySem.W.findIn K (.ref C) "point" = some (some (.ref gp)))
    (wd : PySem.W.findIn K (.ref C) "__and__" = some (some (.ref gd)))
    (ws : PySem.W.findIn K (.ref C) "__sub__" = some (some (.ref gs)))
    (wo : PySem.W.findIn K (.ref C) "__or__" = some (some (.ref go)))
    (wv : PySem.W.findIn K (.ref C) "__invert__" = some (some (.ref gv)))
    (wb : PySem.W.findIn K (.ref C) "__bool__" = some (some (.ref gb)))
    (wc : PySem.W.findIn K (.ref C) "__contains__" = some (some (.ref gc)))
    (wn : PySem.W.findIn K (.ref C) "names" = some (some (.ref pn)))
    (qn : PySem.W.specialIn K (.ref pn) "__get__" = some (some (.builtin "property.__get__")))
    (un : PySem.W.takesIn K (.ref pn) = some true)
    (vn : PySem.W.recIn K pn "property" = some (.ref gn :: rn))
    (we : PySem.W.findIn K (.ref C) "pieces" = some (some (.ref pe)))
    (qe : PySem.W.specialIn K (.ref pe) "__get__" = some (some (.builtin "property.__get__")))
    (ue : PySem.W.takesIn K (.ref pe) = some true)
    (ve : PySem.W.recIn K pe "property" = some (.ref ge :: re))
    {odi ani : Option Addr} {sli : Array (Option Value)} {oci kVi dci pmi cdi cti : Value}
    (l_i : K.lookup gi = some ⟨oci, odi, .func (PySem.W.fnOf "__init__" "Region.__init__" (defArgs sRInit) (defBody sRInit) (defScope sRInit) .none kVi dci pmi ani cdi cti), sli⟩)
    (c_i : PySem.W.codeIn K cdi "Region.__init__" = true)
    (k_i : PySem.W.keepIn K (.ref gi) = true)
    {oda ana : Option Addr} {sla : Array (Option Value)} {oca kVa dca pma cda cta : Value}
    (l_a : K.lookup ga = some ⟨oca, oda, .func (PySem.W.fnOf "same" "Region.same" (defArgs sRSame) (defBody sRSame) (defScope sRSame) .none kVa dca pma ana cda cta), sla⟩)
    (c_a : PySem.W.codeIn K cda "Region.same" = true)
    (k_a : PySem.W.keepIn K (.ref ga) = true)
    {odp anp : Option Addr} {slp : Array (Option Value)} {ocp kVp dcp pmp cdp ctp : Value}
    (l_p : K.lookup gp = some ⟨ocp, odp, .func (PySem.W.fnOf "point" "Region.point" (defArgs sRPoint) (defBody sRPoint) (defScope sRPoint) .none kVp dcp pmp anp cdp ctp), slp⟩)
    (c_p : PySem.W.codeIn K cdp "Region.point" = true)
    (k_p : PySem.W.keepIn K (.ref gp) = true)
    {odd and : Option Addr} {sld : Array (Option Value)} {ocd kVd dcd pmd cdd ctd : Value}
    (l_d : K.lookup gd = some ⟨ocd, odd, .func (PySem.W.fnOf "__and__" "Region.__and__" (defArgs sRAnd) (defBody sRAnd) (defScope sRAnd) .none kVd dcd pmd and cdd ctd), sld⟩)
    (c_d : PySem.W.codeIn K cdd "Region.__and__" = true)
    (k_d : PySem.W.keepIn K (.ref gd) = true)
    {ods ans : Option Addr} {sls : Array (Option Value)} {ocs kVs dcs pms cds cts : Value}
    (l_s : K.lookup gs = some ⟨ocs, ods, .func (PySem.W.fnOf "__sub__" "Region.__sub__" (defArgs sRSub) (defBody sRSub) (defScope sRSub) .none kVs dcs pms ans cds cts), sls⟩)
    (c_s : PySem.W.codeIn K cds "Region.__sub__" = true)
    (k_s : PySem.W.keepIn K (.ref gs) = true)
    {odo ano : Option Addr} {slo : Array (Option Value)} {oco kVo dco pmo cdo cto : Value}
    (l_o : K.lookup go = some ⟨oco, odo, .func (PySem.W.fnOf "__or__" "Region.__or__" (defArgs sROr) (defBody sROr) (defScope sROr) .none kVo dco pmo ano cdo cto), slo⟩)
    (c_o : PySem.W.codeIn K cdo "Region.__or__" = true)
    (k_o : PySem.W.keepIn K (.ref go) = true)
    {odv anv : Option Addr} {slv : Array (Option Value)} {ocv kVv dcv pmv cdv ctv : Value}
    (l_v : K.lookup gv = some ⟨ocv, odv, .func (PySem.W.fnOf "__invert__" "Region.__invert__" (defArgs sRInvert) (defBody sRInvert) (defScope sRInvert) .none kVv dcv pmv anv cdv ctv), slv⟩)
    (c_v : PySem.W.codeIn K cdv "Region.__invert__" = true)
    (k_v : PySem.W.keepIn K (.ref gv) = true)
    {odb anb : Option Addr} {slb : Array (Option Value)} {ocb kVb dcb pmb cdb ctb : Value}
    (l_b : K.lookup gb = some ⟨ocb, odb, .func (PySem.W.fnOf "__bool__" "Region.__bool__" (defArgs sRBool) (defBody sRBool) (defScope sRBool) .none kVb dcb pmb anb cdb ctb), slb⟩)
    (c_b : PySem.W.codeIn K cdb "Region.__bool__" = true)
    (k_b : PySem.W.keepIn K (.ref gb) = true)
    {odc anc : Option Addr} {slc : Array (Option Value)} {occ kVc dcc pmc cdc ctc : Value}
    (l_c : K.lookup gc = some ⟨occ, odc, .func (PySem.W.fnOf "__contains__" "Region.__contains__" (defArgs sRContains) (defBody sRContains) (defScope sRContains) .none kVc dcc pmc anc cdc ctc), slc⟩)
    (c_c : PySem.W.codeIn K cdc "Region.__contains__" = true)
    (k_c : PySem.W.keepIn K (.ref gc) = true)
    {odn ann : Option Addr} {sln : Array (Option Value)} {ocn kVn dcn pmn cdn ctn : Value}
    (l_n : K.lookup gn = some ⟨ocn, odn, .func (PySem.W.fnOf "names" "Region.names" (defArgs sRNames) (defBody sRNames) (defScope sRNames) .none kVn dcn pmn ann cdn ctn), sln⟩)
    (c_n : PySem.W.codeIn K cdn "Region.names" = true)
    (k_n : PySem.W.keepIn K (.ref gn) = true)
    {ode ane : Option Addr} {sle : Array (Option Value)} {oce kVe dce pme cde cte : Value}
    (l_e : K.lookup ge = some ⟨oce, ode, .func (PySem.W.fnOf "pieces" "Region.pieces" (defArgs sRPieces) (defBody sRPieces) (defScope sRPieces) .none kVe dce pme ane cde cte), sle⟩)
    (c_e : PySem.W.codeIn K cde "Region.pieces" = true)
    (k_e : PySem.W.keepIn K (.ref ge) = true)
    {ody any : Option Addr} {sly : Array (Option Value)} {ocy kVy dcy pmy cdy cty : Value}
    (l_y : K.lookup gy = some ⟨ocy, ody, .func (PySem.W.fnOf "nothing" "Region.nothing" (defArgs sRNothing) (defBody sRNothing) (defScope sRNothing) .none kVy dcy pmy any cdy cty), sly⟩)
    (c_y : PySem.W.codeIn K cdy "Region.nothing" = true)
    (k_y : PySem.W.keepIn K (.ref gy) = true)
    {odx anx : Option Addr} {slx : Array (Option Value)} {ocx kVx dcx pmx cdx ctx : Value}
    (l_x : K.lookup gx = some ⟨ocx, odx, .func (PySem.W.fnOf "whole" "Region.whole" (defArgs sRWhole) (defBody sRWhole) (defScope sRWhole) .none kVx dcx pmx anx cdx ctx), slx⟩)
    (c_x : PySem.W.codeIn K cdx "Region.whole" = true)
    (k_x : PySem.W.keepIn K (.ref gx) = true)
    (i_i : PySem.W.isFn K (.ref gi) = true)
    (i_a : PySem.W.isFn K (.ref ga) = true)
    (i_p : PySem.W.isFn K (.ref gp) = true)
    (i_d : PySem.W.isFn K (.ref gd) = true)
    (i_s : PySem.W.isFn K (.ref gs) = true)
    (i_o : PySem.W.isFn K (.ref go) = true)
    (i_v : PySem.W.isFn K (.ref gv) = true)
    (i_b : PySem.W.isFn K (.ref gb) = true)
    (i_c : PySem.W.isFn K (.ref gc) = true)
    : ∃ fd : FuncData, (∀ (s : Shared) (v : Value), BindsTo s fd ⟨[v], []⟩ [("script", v)]) ∧ ∀ base : Heap, K.In base → base.Ns mainGlobals mg → FnOk l.prog w K mg base CX0 11 fa fd ["script"] (spLaw6 K) := by
  have e := hfa.symm.trans (PySem.W.mg_of X0 G aL)
  cases e
  have T : Blt mg := ⟨PySem.W.mg_none_of X0 G z_isi, PySem.W.mg_none_of X0 G z_int, PySem.W.mg_none_of X0 G z_bool, PySem.W.mg_none_of X0 G z_str, PySem.W.mg_none_of X0 G z_tuple, PySem.W.mg_none_of X0 G z_list, PySem.W.mg_none_of X0 G z_len, PySem.W.mg_none_of X0 G z_enum, PySem.W.mg_none_of X0 G z_range, PySem.W.mg_none_of X0 G z_all⟩
  have U : Blt2 mg := ⟨PySem.W.mg_none_of X0 G z_sorted, PySem.W.mg_none_of X0 G z_set, PySem.W.mg_none_of X0 G z_sum, PySem.W.mg_none_of X0 G z_dict⟩
  have Fi := fun_mk (st := sRInit) l_i c_i k_i
  have bi := Fi.binds (ps := ["self", "names", "systems"]) fun _ _ _ _ _ _ us hl => match us, hl with | [_, _, _], _ => rfl
  have Fa := fun_mk (st := sRSame) l_a c_a k_a
  have ba := Fa.binds (ps := ["self", "other"]) fun _ _ _ _ _ _ us hl => match us, hl with | [_, _], _ => rfl
  have Fp := fun_mk (st := sRPoint) l_p c_p k_p
  have bp := Fp.binds (ps := ["self"]) fun _ _ _ _ _ _ us hl => match us, hl with | [_], _ => rfl
  have Fd := fun_mk (st := sRAnd) l_d c_d k_d
  have bd := Fd.binds (ps := ["self", "other"]) fun _ _ _ _ _ _ us hl => match us, hl with | [_, _], _ => rfl
  have Fs := fun_mk (st := sRSub) l_s c_s k_s
  have bs := Fs.binds (ps := ["self", "other"]) fun _ _ _ _ _ _ us hl => match us, hl with | [_, _], _ => rfl
  have Fo := fun_mk (st := sROr) l_o c_o k_o
  have bo := Fo.binds (ps := ["self", "other"]) fun _ _ _ _ _ _ us hl => match us, hl with | [_, _], _ => rfl
  have Fv := fun_mk (st := sRInvert) l_v c_v k_v
  have bv := Fv.binds (ps := ["self"]) fun _ _ _ _ _ _ us hl => match us, hl with | [_], _ => rfl
  have Fb := fun_mk (st := sRBool) l_b c_b k_b
  have bb := Fb.binds (ps := ["self"]) fun _ _ _ _ _ _ us hl => match us, hl with | [_], _ => rfl
  have Fc := fun_mk (st := sRContains) l_c c_c k_c
  have bc := Fc.binds (ps := ["self", "point"]) fun _ _ _ _ _ _ us hl => match us, hl with | [_, _], _ => rfl
  have Fn := fun_mk (st := sRNames) l_n c_n k_n
  have bn := Fn.binds (ps := ["self"]) fun _ _ _ _ _ _ us hl => match us, hl with | [_], _ => rfl
  have Fe := fun_mk (st := sRPieces) l_e c_e k_e
  have be := Fe.binds (ps := ["self"]) fun _ _ _ _ _ _ us hl => match us, hl with | [_], _ => rfl
  have Fy := fun_mk (st := sRNothing) l_y c_y k_y
  have by_ := Fy.binds (ps := ["cls", "names"]) fun _ _ _ _ _ _ us hl => match us, hl with | [_, _], _ => rfl
  have Fx := fun_mk (st := sRWhole) l_x c_x k_x
  have bx := Fx.binds (ps := ["cls", "names"]) fun _ _ _ _ _ _ us hl => match us, hl with | [_, _], _ => rfl
  have X : RTxt K mg C gi := ⟨⟨pg, hd, po, sa⟩, nN, nT, ⟨mk, wi, i_i, kc⟩, PySem.W.mg_of X0 G cC⟩
  have pn_n : PropOf K C "names" pn gn := ⟨wn, qn, un, ⟨rn, vn⟩⟩
  have pn_e : PropOf K C "pieces" pe ge := ⟨we, qe, ue, ⟨re, ve⟩⟩
  have Y : RLaw6 K C ga gp gd gs go gv gb gc pn gn pe ge := ⟨⟨wa, i_a, k_a⟩, ⟨wp, i_p, k_p⟩, sf, wd, i_d, ws, i_s, wo, i_o, wv, i_v, wb, i_b, wc, i_c, pn_n, pn_e⟩
  have Z : RCm6 K C mpy gy mpx gx mc := ⟨⟨rd, rg⟩, ⟨wy, ⟨_, rcy⟩, fiy⟩, ⟨wx, ⟨_, rcx⟩, fix⟩⟩
  have m1 := PySem.W.mg_of X0 G D1.ns
  have k1 := D1.fn.kp
  have b1 := D1.fn.binds (ps := ["thing"]) fun _ _ _ _ _ _ us hl => match us, hl with | [_], _ => rfl
  have m2 := PySem.W.mg_of X0 G D2.ns
  have k2 := D2.fn.kp
  have b2 := D2.fn.binds (ps := ["thing"]) fun _ _ _ _ _ _ us hl => match us, hl with | [_], _ => rfl
  have m3 := PySem.W.mg_of X0 G D3.ns
  have k3 := D3.fn.kp
  have b3 := D3.fn.binds (ps := ["thing"]) fun _ _ _ _ _ _ us hl => match us, hl with | [_], _ => rfl
  have m4 := PySem.W.mg_of X0 G D4.ns
  have k4 := D4.fn.kp
  have b4 := D4.fn.binds (ps := ["thing"]) fun _ _ _ _ _ _ us hl => match us, hl with | [_], _ => rfl
  have m5 := PySem.W.mg_of X0 G D5.ns
  have k5 := D5.fn.kp
  have b5 := D5.fn.binds (ps := ["names"]) fun _ _ _ _ _ _ us hl => match us, hl with | [_], _ => rfl
  have m6 := PySem.W.mg_of X0 G D6.ns
  have k6 := D6.fn.kp
  have b6 := D6.fn.binds (ps := ["table", "left", "right", "limit"]) fun _ _ _ _ _ _ us hl => match us, hl with | [_, _, _, _], _ => rfl
  have m7 := PySem.W.mg_of X0 G D7.ns
  have k7 := D7.fn.kp
  have b7 := D7.fn.binds (ps := ["table", "left", "right"]) fun _ _ _ _ _ _ us hl => match us, hl with | [_, _, _], _ => rfl
  have m8 := PySem.W.mg_of X0 G D8.ns
  have k8 := D8.fn.kp
  have b8 := D8.fn.binds (ps := ["row", "base", "further"]) fun _ _ _ _ _ _ us hl => match us, hl with | [_, _, _], _ => rfl
  have m9 := PySem.W.mg_of X0 G D9.ns
  have k9 := D9.fn.kp
  have b9 := D9.fn.binds (ps := ["differences"]) fun _ _ _ _ _ _ us hl => match us, hl with | [_], _ => rfl
  have m10 := PySem.W.mg_of X0 G D10.ns
  have k10 := D10.fn.kp
  have b10 := D10.fn.binds (ps := ["table"]) fun _ _ _ _ _ _ us hl => match us, hl with | [_], _ => rfl
  have m11 := PySem.W.mg_of X0 G D11.ns
  have k11 := D11.fn.kp
  have b11 := D11.fn.binds (ps := ["table", "name", "leaders"]) fun _ _ _ _ _ _ us hl => match us, hl with | [_, _, _], _ => rfl
  have m12 := PySem.W.mg_of X0 G D12.ns
  have k12 := D12.fn.kp
  have b12 := D12.fn.binds (ps := ["table"]) fun _ _ _ _ _ _ us hl => match us, hl with | [_], _ => rfl
  have m13 := PySem.W.mg_of X0 G D13.ns
  have k13 := D13.fn.kp
  have b13 := D13.fn.binds (ps := ["table", "left", "right", "leaders"]) fun _ _ _ _ _ _ us hl => match us, hl with | [_, _, _, _], _ => rfl
  have m14 := PySem.W.mg_of X0 G D14.ns
  have k14 := D14.fn.kp
  have b14 := D14.fn.binds (ps := ["table"]) fun _ _ _ _ _ _ us hl => match us, hl with | [_], _ => rfl
  have m15 := PySem.W.mg_of X0 G D15.ns
  have k15 := D15.fn.kp
  have b15 := D15.fn.binds (ps := ["one", "other"]) fun _ _ _ _ _ _ us hl => match us, hl with | [_, _], _ => rfl
  have m16 := PySem.W.mg_of X0 G D16.ns
  have k16 := D16.fn.kp
  have b16 := D16.fn.binds (ps := ["ones", "others"]) fun _ _ _ _ _ _ us hl => match us, hl with | [_, _], _ => rfl
  have m17 := PySem.W.mg_of X0 G D17.ns
  have k17 := D17.fn.kp
  have b17 := D17.fn.binds (ps := ["table", "outer"]) fun _ _ _ _ _ _ us hl => match us, hl with | [_, _], _ => rfl
  have m18 := PySem.W.mg_of X0 G D18.ns
  have k18 := D18.fn.kp
  have b18 := D18.fn.binds (ps := ["point", "table"]) fun _ _ _ _ _ _ us hl => match us, hl with | [_, _], _ => rfl
  have m19 := PySem.W.mg_of X0 G D19.ns
  have k19 := D19.fn.kp
  have b19 := D19.fn.binds (ps := ["table", "names"]) fun _ _ _ _ _ _ us hl => match us, hl with | [_, _], _ => rfl
  have m20 := PySem.W.mg_of X0 G D20.ns
  have k20 := D20.fn.kp
  have b20 := D20.fn.binds (ps := ["one", "other"]) fun _ _ _ _ _ _ us hl => match us, hl with | [_, _], _ => rfl
  have m21 := PySem.W.mg_of X0 G D21.ns
  have k21 := D21.fn.kp
  have b21 := D21.fn.binds (ps := ["table", "differences"]) fun _ _ _ _ _ _ us hl => match us, hl with | [_, _], _ => rfl
  have m22 := PySem.W.mg_of X0 G D22.ns
  have k22 := D22.fn.kp
  have b22 := D22.fn.binds (ps := ["tables", "others"]) fun _ _ _ _ _ _ us hl => match us, hl with | [_, _], _ => rfl
  have m23 := PySem.W.mg_of X0 G D23.ns
  have k23 := D23.fn.kp
  have b23 := D23.fn.binds (ps := ["table", "others"]) fun _ _ _ _ _ _ us hl => match us, hl with | [_, _], _ => rfl
  have m24 := PySem.W.mg_of X0 G D24.ns
  have k24 := D24.fn.kp
  have b24 := D24.fn.binds (ps := ["tables"]) fun _ _ _ _ _ _ us hl => match us, hl with | [_], _ => rfl
  have m25 := PySem.W.mg_of X0 G D25.ns
  have k25 := D25.fn.kp
  have b25 := D25.fn.binds (ps := ["table", "differences", "other"]) fun _ _ _ _ _ _ us hl => match us, hl with | [_, _, _], _ => rfl
  have m26 := PySem.W.mg_of X0 G D26.ns
  have k26 := D26.fn.kp
  have b26 := D26.fn.binds (ps := ["table", "others"]) fun _ _ _ _ _ _ us hl => match us, hl with | [_, _], _ => rfl
  have m27 := PySem.W.mg_of X0 G D27.ns
  have k27 := D27.fn.kp
  have b27 := D27.fn.binds (ps := ["tables"]) fun _ _ _ _ _ _ us hl => match us, hl with | [_], _ => rfl
  have m28 := PySem.W.mg_of X0 G D28.ns
  have k28 := D28.fn.kp
  have b28 := D28.fn.binds (ps := ["tables"]) fun _ _ _ _ _ _ us hl => match us, hl with | [_], _ => rfl
  have m29 := PySem.W.mg_of X0 G D29.ns
  have k29 := D29.fn.kp
  have b29 := D29.fn.binds (ps := ["tables"]) fun _ _ _ _ _ _ us hl => match us, hl with | [_], _ => rfl
  have m30 := PySem.W.mg_of X0 G D30.ns
  have k30 := D30.fn.kp
  have b30 := D30.fn.binds (ps := ["names", "difference"]) fun _ _ _ _ _ _ us hl => match us, hl with | [_, _], _ => rfl
  have m31 := PySem.W.mg_of X0 G D31.ns
  have k31 := D31.fn.kp
  have b31 := D31.fn.binds (ps := ["names", "system"]) fun _ _ _ _ _ _ us hl => match us, hl with | [_, _], _ => rfl
  have m32 := PySem.W.mg_of X0 G D32.ns
  have k32 := D32.fn.kp
  have b32 := D32.fn.binds (ps := ["names", "systems"]) fun _ _ _ _ _ _ us hl => match us, hl with | [_, _], _ => rfl
  have m33 := PySem.W.mg_of X0 G D33.ns
  have k33 := D33.fn.kp
  have b33 := D33.fn.binds (ps := ["names", "tables"]) fun _ _ _ _ _ _ us hl => match us, hl with | [_, _], _ => rfl
  have m34 := PySem.W.mg_of X0 G D34.ns
  have k34 := D34.fn.kp
  have b34 := D34.fn.binds (ps := ["one", "other"]) fun _ _ _ _ _ _ us hl => match us, hl with | [_, _], _ => rfl
  have m35 := PySem.W.mg_of X0 G D35.ns
  have k35 := D35.fn.kp
  have b35 := D35.fn.binds (ps := ["script", "at", "many"]) fun _ _ _ _ _ _ us hl => match us, hl with | [_, _, _], _ => rfl
  have m36 := PySem.W.mg_of X0 G D36.ns
  have k36 := D36.fn.kp
  have b36 := D36.fn.binds (ps := ["script", "at"]) fun _ _ _ _ _ _ us hl => match us, hl with | [_, _], _ => rfl
  have m37 := PySem.W.mg_of X0 G D37.ns
  have k37 := D37.fn.kp
  have b37 := D37.fn.binds (ps := ["script", "at", "names", "most"]) fun _ _ _ _ _ _ us hl => match us, hl with | [_, _, _, _], _ => rfl
  have m38 := PySem.W.mg_of X0 G D38.ns
  have k38 := D38.fn.kp
  have b38 := D38.fn.binds (ps := ["names", "system"]) fun _ _ _ _ _ _ us hl => match us, hl with | [_, _], _ => rfl
  have m39 := PySem.W.mg_of X0 G D39.ns
  have k39 := D39.fn.kp
  have b39 := D39.fn.binds (ps := ["name", "point"]) fun _ _ _ _ _ _ us hl => match us, hl with | [_, _], _ => rfl
  have m40 := PySem.W.mg_of X0 G D40.ns
  have k40 := D40.fn.kp
  have b40 := D40.fn.binds (ps := ["system", "point"]) fun _ _ _ _ _ _ us hl => match us, hl with | [_, _], _ => rfl
  have m41 := PySem.W.mg_of X0 G D41.ns
  have k41 := D41.fn.kp
  have b41 := D41.fn.binds (ps := ["script", "at", "names", "most"]) fun _ _ _ _ _ _ us hl => match us, hl with | [_, _, _, _], _ => rfl
  have m42 := PySem.W.mg_of X0 G D42.ns
  have k42 := D42.fn.kp
  have b42 := D42.fn.binds (ps := ["script", "at", "names"]) fun _ _ _ _ _ _ us hl => match us, hl with | [_, _, _], _ => rfl
  have m43 := PySem.W.mg_of X0 G D43.ns
  have k43 := D43.fn.kp
  have b43 := D43.fn.binds (ps := ["systems", "point"]) fun _ _ _ _ _ _ us hl => match us, hl with | [_, _], _ => rfl
  have m44 := PySem.W.mg_of X0 G D44.ns
  have k44 := D44.fn.kp
  have b44 := D44.fn.binds (ps := ["one", "other", "systems", "others", "point"]) fun _ _ _ _ _ _ us hl => match us, hl with | [_, _, _, _, _], _ => rfl
  refine ⟨PySem.W.fnOf "law" "law" (defArgs sLaw6) (defBody sLaw6) (defScope sLaw6) .none kV dc pm an cd ct, fun s v => .of_eq rfl, fun base _ _ => ?_⟩
  have G2 : FnOk l.prog w K mg base CX0 1 f2 fd2 ["thing"] spSide := ok_side D2.fn T
  have G3 : FnOk l.prog w K mg base CX0 2 f3 fd3 ["thing"] spDiff := ok_diff D3.fn T D2.fn b2 m2 D1.fn b1 m1
  have G4 : FnOk l.prog w K mg base CX0 2 f4 fd4 ["thing"] spIsName := ok_isname D4.fn G2 k2 b2 m2
  have G5 : FnOk l.prog w K mg base CX0 3 f5 fd5 ["names"] (spReadN K) := ok_readn D5.fn T G4 k4 b4 m4
  have V5 : FnOk l.prog w K mg base CX0 3 f5 fd5 ["names"] (spReadN2 K) := ok_readn2 D5.fn T G4 k4 b4 m4
  have G8 : FnOk l.prog w K mg base CX0 1 f8 fd8 ["row", "base", "further"] spLowered := ok_lowered D8.fn U
  have G7 : FnOk l.prog w K mg base CX0 1 f7 fd7 ["table", "left", "right"] spWithRows := ok_withrows D7.fn U
  have Ga6 : FnOk l.prog w K mg base CX0 2 f6 fd6 ["table", "left", "right", "limit"] spTight1 := ok_tight1 D6.fn U G8 k8 b8 m8
  have Gb6 : FnOk l.prog w K mg base CX0 3 f6 fd6 ["table", "left", "right", "limit"] spTight0 := ok_tight0 D6.fn b6 m6 Ga6 G7 k7 b7 m7
  have G6 : FnOk l.prog w K mg base CX0 3 f6 fd6 ["table", "left", "right", "limit"] spTight' := ok_tightened Ga6 Gb6
  have R6 : FnOk l.prog w K mg base CX0 3 f6 fd6 ["table", "left", "right", "limit"] spTightR := ok_tightR G6
  have G9 : FnOk l.prog w K mg base CX0 4 f9 fd9 ["differences"] spTableOf := ok_tableof D9.fn G6 k6 b6 m6
  have G10 : FnOk l.prog w K mg base CX0 1 f10 fd10 ["table"] spInOrder := ok_inorder D10.fn U
  have G11 : FnOk l.prog w K mg base CX0 1 f11 fd11 ["table", "name", "leaders"] spLeader := ok_leader D11.fn 
  have G12 : FnOk l.prog w K mg base CX0 2 f12 fd12 ["table"] spGroups := ok_groups D12.fn T G10 k10 b10 m10 G11 k11 b11 m11
  have G13 : FnOk l.prog w K mg base CX0 1 f13 fd13 ["table", "left", "right", "leaders"] spFollows := ok_follows D13.fn 
  have G14 : FnOk l.prog w K mg base CX0 3 f14 fd14 ["table"] spFewestOf := ok_fewestof D14.fn T G12 k12 b12 m12 G13 k13 b13 m13
  have R14 : FnOk l.prog w K mg base CX0 3 f14 fd14 ["table"] spFewR := ok_fewR G14
  have G17 : FnOk l.prog w K mg base CX0 1 f17 fd17 ["table", "outer"] spLiesIn := ok_liesin D17.fn 
  have G18 : FnOk l.prog w K mg base CX0 1 f18 fd18 ["point", "table"] spSolvesT := ok_solvest D18.fn 
  have G19 : FnOk l.prog w K mg base CX0 1 f19 fd19 ["table", "names"] spSomePoint := ok_somepoint D19.fn (PySem.W.mg_none_of X0 G z_min)
  have G20 : FnOk l.prog w K mg base CX0 1 f20 fd20 ["one", "other"] spHullOf := ok_hullof D20.fn (PySem.W.mg_none_of X0 G z_max)
  have G21 : FnOk l.prog w K mg base CX0 4 f21 fd21 ["table", "differences"] spCutOff := ok_cutoff D21.fn R6 k6 b6 m6
  have G22 : FnOk l.prog w K mg base CX0 5 f22 fd22 ["tables", "others"] spSubtracted := ok_subtracted D22.fn T (PySem.W.mg_none_of X0 G z_sorted) R14 k14 b14 m14 G21 k21 b21 m21
  have G15 : FnOk l.prog w K mg base CX0 4 f15 fd15 ["one", "other"] spMet := ok_met D15.fn R6 k6 b6 m6
  have G16 : FnOk l.prog w K mg base CX0 5 f16 fd16 ["ones", "others"] spBothOf := ok_bothof D16.fn G15 k15 b15 m15
  have V22 : FnOk l.prog w K mg base CX0 5 f22 fd22 ["tables", "others"] spSub2 := ok_sub2 D22.fn T (PySem.W.mg_none_of X0 G z_sorted) R14 k14 b14 m14 G21 k21 b21 m21
  have G23 : FnOk l.prog w K mg base CX0 2 f23 fd23 ["table", "others"] spLiesInOne := ok_liesinone D23.fn G17 k17 b17 m17
  have G24 : FnOk l.prog w K mg base CX0 3 f24 fd24 ["tables"] spAbsorbed := ok_absorbed D24.fn T (PySem.W.mg_of X0 G n_crowd) G17 k17 b17 m17 G23 k23 b23 m23
  have G25 : FnOk l.prog w K mg base CX0 4 f25 fd25 ["table", "differences", "other"] spOneOf := ok_oneof D25.fn G20 k20 b20 m20 R6 k6 b6 m6 G17 k17 b17 m17
  have G26 : FnOk l.prog w K mg base CX0 5 f26 fd26 ["table", "others"] spPartner := ok_partner D26.fn T R14 k14 b14 m14 G25 k25 b25 m25
  have G27 : FnOk l.prog w K mg base CX0 6 f27 fd27 ["tables"] spUnited := ok_united D27.fn T (PySem.W.mg_of X0 G n_many) G26 k26 b26 m26
  have G28 : FnOk l.prog w K mg base CX0 7 f28 fd28 ["tables"] spUnited := ok_simplified D28.fn G24 k24 b24 m24 G27 k27 b27 m27
  have G29 : FnOk l.prog w K mg base CX0 7 f29 fd29 ["tables"] spOutside := ok_outside D29.fn G24 k24 b24 m24 G22 k22 b22 m22 G27 k27 b27 m27
  have V29 : FnOk l.prog w K mg base CX0 7 f29 fd29 ["tables"] spOutside2 := ok_outside2 D29.fn G24 k24 b24 m24 V22 k22 b22 m22 G27 k27 b27 m27
  have G30 : FnOk l.prog w K mg base CX0 1 f30 fd30 ["names", "difference"] (spFits K) := ok_fits D30.fn 
  have G31 : FnOk l.prog w K mg base CX0 3 f31 fd31 ["names", "system"] (spChecked K) := ok_checked D31.fn T G3 k3 b3 m3 G30 k30 b30 m30
  have G32 : FnOk l.prog w K mg base CX0 5 f32 fd32 ["names", "systems"] (spReadTs K) := ok_readts D32.fn G31 k31 b31 m31 G9 k9 b9 m9
  have V31 : FnOk l.prog w K mg base CX0 3 f31 fd31 ["names", "system"] (spChecked2 K) := ok_checked2 D31.fn T G3 k3 b3 m3 G30 k30 b30 m30
  have V32 : FnOk l.prog w K mg base CX0 5 f32 fd32 ["names", "systems"] (spReadTs2 K) := ok_readts2 D32.fn V31 k31 b31 m31 G9 k9 b9 m9
  have Gi : FnOk l.prog w K mg base CX0 6 gi _ ["self", "names", "systems"] (spRInit K C) := ok_rinit Fi X G5 k5 b5 m5 G32 k32 b32 m32
  have Gi2 : FnOk l.prog w K mg base CX0 6 gi _ ["self", "names", "systems"] (spRInit2 K C) := ok_rinit2 Fi X V5 k5 b5 m5 V32 k32 b32 m32
  have Gy : FnOk l.prog w K mg base CX0 8 gy _ ["cls", "names"] (spNothing K C) := ok_nothing Fy X Gi bi
  have Gx : FnOk l.prog w K mg base CX0 8 gx _ ["cls", "names"] (spRWhole K C) := ok_rwhole Fx X Gi bi
  have G33 : FnOk l.prog w K mg base CX0 8 f33 fd33 ["names", "tables"] (spRegionOf K C) := ok_regionof D33.fn X Gi bi
  have Gn : FnOk l.prog w K mg base CX0 1 gn _ ["self"] (spRNames C) := ok_rnames Fn X
  have G34 : FnOk l.prog w K mg base CX0 3 f34 fd34 ["one", "other"] (spCheckAlike C) := ok_checkalike D34.fn X pn_n Gn bn
  have Ge : FnOk l.prog w K mg base CX0 4 ge _ ["self"] (spRPieces C) := ok_rpieces Fe X R14 k14 b14 m14
  have Ga : FnOk l.prog w K mg base CX0 6 ga _ ["self", "other"] (spRSame C) := ok_rsame Fa X G34 k34 b34 m34 G22 k22 b22 m22
  have Gp : FnOk l.prog w K mg base CX0 2 gp _ ["self"] (spRPoint C) := ok_rpoint Fp X G19 k19 b19 m19
  have Gs : FnOk l.prog w K mg base CX0 9 gs _ ["self", "other"] (spRSub C) := ok_rsub Fs X G34 k34 b34 m34 G22 k22 b22 m22 G27 k27 b27 m27 G33 k33 b33 m33
  have Gd : FnOk l.prog w K mg base CX0 9 gd _ ["self", "other"] (spRAnd C) := ok_rand Fd X G34 k34 b34 m34 G16 k16 b16 m16 G24 k24 b24 m24 G33 k33 b33 m33
  have Go : FnOk l.prog w K mg base CX0 9 go _ ["self", "other"] (spROr C) := ok_ror Fo X G34 k34 b34 m34 G28 k28 b28 m28 G33 k33 b33 m33
  have Gv : FnOk l.prog w K mg base CX0 9 gv _ ["self"] (spRInvert C) := ok_rinvert Fv X G29 k29 b29 m29 G33 k33 b33 m33
  have Gv2 : FnOk l.prog w K mg base CX0 9 gv _ ["self"] (spRInvert2 C) := ok_rinvert2 Fv X V29 k29 b29 m29 G33 k33 b33 m33
  have Gb : FnOk l.prog w K mg base CX0 1 gb _ ["self"] (spRBool C) := ok_rbool Fb T X
  have Gc : FnOk l.prog w K mg base CX0 2 gc _ ["self", "point"] (spContains C) := ok_contains Fc X G18 k18 b18 m18
  have G35 : FnOk l.prog w K mg base CX0 1 f35 fd35 ["script", "at", "many"] (spDraw K) := ok_draw D35.fn T
  have G36 : FnOk l.prog w K mg base CX0 2 f36 fd36 ["script", "at"] (spPool K) := ok_pool D36.fn G35 k35 b35 m35
  have G37 : FnOk l.prog w K mg base CX0 2 f37 fd37 ["script", "at", "names", "most"] (spSystem K) := ok_system D37.fn T G35 k35 b35 m35
  have G38 : FnOk l.prog w K mg base CX0 1 f38 fd38 ["names", "system"] spLTable := ok_ltable D38.fn T
  have G39 : FnOk l.prog w K mg base CX0 1 f39 fd39 ["name", "point"] spLWorth := ok_lworth D39.fn 
  have G40 : FnOk l.prog w K mg base CX0 2 f40 fd40 ["system", "point"] spLSolves := ok_lsolves D40.fn G39 k39 b39 m39
  have G41 : FnOk l.prog w K mg base CX0 3 f41 fd41 ["script", "at", "names", "most"] (spLParts K) := ok_lparts D41.fn T G35 k35 b35 m35 G37 k37 b37 m37
  have G42 : FnOk l.prog w K mg base CX0 2 f42 fd42 ["script", "at", "names"] (spLPointT K) := ok_lpointT D42.fn T G35 k35 b35 m35
  have G43 : FnOk l.prog w K mg base CX0 3 f43 fd43 ["systems", "point"] spLInside := ok_linside D43.fn T (PySem.W.mg_none_of X0 G z_any) G40 k40 b40 m40
  have G44 : FnOk l.prog w K mg base CX0 10 f44 fd44 ["one", "other", "systems", "others", "point"] (spLRight K C) := ok_lright D44.fn Y G43 k43 b43 m43 Gd bd Gs bs Go bo Gv Gv2 bv Gc bc
  exact ok_law6 (fun_mk (st := sLaw6) lL cL kL) T (PySem.W.mg_none_of X0 G z_any) X Y Z G36 k36 b36 m36 G35 k35 b35 m35 G41 k41 b41 m41 G38 k38 b38 m38 G43 k43 b43 m43 G42 k42 b42 m42 G44 k44 b44 m44 Gi Gi2 bi Ga ba Gp bp Gd bd Go bo Gv Gv2 bv Gb bb Gn bn Ge be Gy by_ Gx bx
end Lo
open PySem PySem.W PyProof.Rows
set_option maxHeartbeats 0 in
theorem PySem.Challenge.cw_loopsheds_k06_regions_holds : PySem.Challenge.rw_loopsheds_k06_regions.Holds := by
  w_on; o_law; k_head; (case hw => w_witness2)
  k_fill
  refine L2.walk_of (l := PySem.Challenge.rw_loopsheds_k06_regions) (n := 63) (k := 11) (x := "script") (CX := fun _ => L2.CX0) (sp := fun w => Lo.spLaw6 _) rfl (by decide) rfl ⟨rfl, by decide, by decide⟩ (fun w h Y => PySem.W.kIn_of Y) ?F (fun _ _ a ns hl _ hS => ⟨a, rfl, ⟨ns, hS, hl⟩, fun _ => rfl⟩) (fun _ _ _ _ _ h => h)
  case F =>
    intro w mg fa h KX G hmg
    refine' Lo.all_mk KX G hmg (Lo.df_mk ?a1 ?l1 ?c1 ?k1) (Lo.df_mk ?a2 ?l2 ?c2 ?k2) (Lo.df_mk ?a3 ?l3 ?c3 ?k3) (Lo.df_mk ?a4 ?l4 ?c4 ?k4) (Lo.df_mk ?a5 ?l5 ?c5 ?k5) (Lo.df_mk ?a6 ?l6 ?c6 ?k6) (Lo.df_mk ?a7 ?l7 ?c7 ?k7) (Lo.df_mk ?a8 ?l8 ?c8 ?k8) (Lo.df_mk ?a9 ?l9 ?c9 ?k9) (Lo.df_mk ?a10 ?l10 ?c10 ?k10) (Lo.df_mk ?a11 ?l11 ?c11 ?k11) (Lo.df_mk ?a12 ?l12 ?c12 ?k12) (Lo.df_mk ?a13 ?l13 ?c13 ?k13) (Lo.df_mk ?a14 ?l14 ?c14 ?k14) (Lo.df_mk ?a15 ?l15 ?c15 ?k15) (Lo.df_mk ?a16 ?l16 ?c16 ?k16) (Lo.df_mk ?a17 ?l17 ?c17 ?k17) (Lo.df_mk ?a18 ?l18 ?c18 ?k18) (Lo.df_mk ?a19 ?l19 ?c19 ?k19) (Lo.df_mk ?a20 ?l20 ?c20 ?k20) (Lo.df_mk ?a21 ?l21 ?c21 ?k21) (Lo.df_mk ?a22 ?l22 ?c22 ?k22) (Lo.df_mk ?a23 ?l23 ?c23 ?k23) (Lo.df_mk ?a24 ?l24 ?c24 ?k24) (Lo.df_mk ?a25 ?l25 ?c25 ?k25) (Lo.df_mk ?a26 ?l26 ?c26 ?k26) (Lo.df_mk ?a27 ?l27 ?c27 ?k27) (Lo.df_mk ?a28 ?l28 ?c28 ?k28) (Lo.df_mk ?a29 ?l29 ?c29 ?k29) (Lo.df_mk ?a30 ?l30 ?c30 ?k30) (Lo.df_mk ?a31 ?l31 ?c31 ?k31) (Lo.df_mk ?a32 ?l32 ?c32 ?k32) (Lo.df_mk ?a33 ?l33 ?c33 ?k33) (Lo.df_mk ?a34 ?l34 ?c34 ?k34) (Lo.df_mk ?a35 ?l35 ?c35 ?k35) (Lo.df_mk ?a36 ?l36 ?c36 ?k36) (Lo.df_mk ?a37 ?l37 ?c37 ?k37) (Lo.df_mk ?a38 ?l38 ?c38 ?k38) (Lo.df_mk ?a39 ?l39 ?c39 ?k39) (Lo.df_mk ?a40 ?l40 ?c40 ?k40) (Lo.df_mk ?a41 ?l41 ?c41 ?k41) (Lo.df_mk ?a42 ?l42 ?c42 ?k42) (Lo.df_mk ?a43 ?l43 ?c43 ?k43) (Lo.df_mk ?a44 ?l44 ?c44 ?k44) ?aL ?lL ?cL ?kL ?z_isi ?z_int ?z_bool ?z_str ?z_tuple ?z_list ?z_len ?z_enum ?z_range ?z_all ?z_sorted ?z_set ?z_sum ?z_dict ?z_max ?z_min ?z_any ?n_many ?n_crowd ?cC ?pg ?hd ?po ?sa ?mk ?kc ?nN ?nT ?sf ?ty ?rd ?rg ?wy ?rcy ?fiy ?wx ?rcx ?fix ?wi ?wa ?wp ?wd ?ws ?wo ?wv ?wb ?wc ?wn ?qn ?un ?vn ?we ?qe ?ue ?ve ?l_i ?c_i ?k_i ?l_a ?c_a ?k_a ?l_p ?c_p ?k_p ?l_d ?c_d ?k_d ?l_s ?c_s ?k_s ?l_o ?c_o ?k_o ?l_v ?c_v ?k_v ?l_b ?c_b ?k_b ?l_c ?c_c ?k_c ?l_n ?c_n ?k_n ?l_e ?c_e ?k_e ?l_y ?c_y ?k_y ?l_x ?c_x ?k_x ?i_i ?i_a ?i_p ?i_d ?i_s ?i_o ?i_v ?i_b ?i_c
    (case a1 => k_is)
    (case l1 => k_is)
    (case c1 => k_is)
    (case k1 => k_is)
    (case a2 => k_is)
    (case l2 => k_is)
    (case c2 => k_is)
    (case k2 => k_is)
    (case a3 => k_is)
    (case l3 => k_is)
    (case c3 => k_is)
    (case k3 => k_is)
    (case a4 => k_is)
    (case l4 => k_is)
    (case c4 => k_is)
    (case k4 => k_is)
    (case a5 => k_is)
    (case l5 => k_is)
    (case c5 => k_is)
    (case k5 => k_is)
    (case a6 => k_is)
    (case l6 => k_is)
    (case c6 => k_is)
    (case k6 => k_is)
    (case a7 => k_is)
    (case l7 => k_is)
    (case c7 => k_is)
    (case k7 => k_is)
    (case a8 => k_is)
    (case l8 => k_is)
    (case c8 => k_is)
    (case k8 => k_is)
    (case a9 => k_is)
    (case l9 => k_is)
    (case c9 => k_is)
    (case k9 => k_is)
    (case a10 => k_is)
    (case l10 => k_is)
    (case c10 => k_is)
    (case k10 => k_is)
    (case a11 => k_is)
    (case l11 => k_is)
    (case c11 => k_is)
    (case k11 => k_is)
    (case a12 => k_is)
    (case l12 => k_is)
    (case c12 => k_is)
    (case k12 => k_is)
    (case a13 => k_is)
    (case l13 => k_is)
    (case c13 => k_is)
    (case k13 => k_is)
    (case a14 => k_is)
    (case l14 => k_is)
    (case c14 => k_is)
    (case k14 => k_is)
    (case a15 => k_is)
    (case l15 => k_is)
    (case c15 => k_is)
    (case k15 => k_is)
    (case a16 => k_is)
    (case l16 => k_is)
    (case c16 => k_is)
    (case k16 => k_is)
    (case a17 => k_is)
    (case l17 => k_is)
    (case c17 => k_is)
    (case k17 => k_is)
    (case a18 => k_is)
    (case l18 => k_is)
    (case c18 => k_is)
    (case k18 => k_is)
    (case a19 => k_is)
    (case l19 => k_is)
    (case c19 => k_is)
    (case k19 => k_is)
    (case a20 => k_is)
    (case l20 => k_is)
    (case c20 => k_is)
    (case k20 => k_is)
    (case a21 => k_is)
    (case l21 => k_is)
    (case c21 => k_is)
    (case k21 => k_is)
    (case a22 => k_is)
    (case l22 => k_is)
    (case c22 => k_is)
    (case k22 => k_is)
    (case a23 => k_is)
    (case l23 => k_is)
    (case c23 => k_is)
    (case k23 => k_is)
    (case a24 => k_is)
    (case l24 => k_is)
    (case c24 => k_is)
    (case k24 => k_is)
    (case a25 => k_is)
    (case l25 => k_is)
    (case c25 => k_is)
    (case k25 => k_is)
    (case a26 => k_is)
    (case l26 => k_is)
    (case c26 => k_is)
    (case k26 => k_is)
    (case a27 => k_is)
    (case l27 => k_is)
    (case c27 => k_is)
    (case k27 => k_is)
    (case a28 => k_is)
    (case l28 => k_is)
    (case c28 => k_is)
    (case k28 => k_is)
    (case a29 => k_is)
    (case l29 => k_is)
    (case c29 => k_is)
    (case k29 => k_is)
    (case a30 => k_is)
    (case l30 => k_is)
    (case c30 => k_is)
    (case k30 => k_is)
    (case a31 => k_is)
    (case l31 => k_is)
    (case c31 => k_is)
    (case k31 => k_is)
    (case a32 => k_is)
    (case l32 => k_is)
    (case c32 => k_is)
    (case k32 => k_is)
    (case a33 => k_is)
    (case l33 => k_is)
    (case c33 => k_is)
    (case k33 => k_is)
    (case a34 => k_is)
    (case l34 => k_is)
    (case c34 => k_is)
    (case k34 => k_is)
    (case a35 => k_is)
    (case l35 => k_is)
    (case c35 => k_is)
    (case k35 => k_is)
    (case a36 => k_is)
    (case l36 => k_is)
    (case c36 => k_is)
    (case k36 => k_is)
    (case a37 => k_is)
    (case l37 => k_is)
    (case c37 => k_is)
    (case k37 => k_is)
    (case a38 => k_is)
    (case l38 => k_is)
    (case c38 => k_is)
    (case k38 => k_is)
    (case a39 => k_is)
    (case l39 => k_is)
    (case c39 => k_is)
    (case k39 => k_is)
    (case a40 => k_is)
    (case l40 => k_is)
    (case c40 => k_is)
    (case k40 => k_is)
    (case a41 => k_is)
    (case l41 => k_is)
    (case c41 => k_is)
    (case k41 => k_is)
    (case a42 => k_is)
    (case l42 => k_is)
    (case c42 => k_is)
    (case k42 => k_is)
    (case a43 => k_is)
    (case l43 => k_is)
    (case c43 => k_is)
    (case k43 => k_is)
    (case a44 => k_is)
    (case l44 => k_is)
    (case c44 => k_is)
    (case k44 => k_is)
    (case aL => k_is)
    (case lL => k_is)
    (case cL => k_is)
    (case kL => k_is)
    (case z_isi => k_is)
    (case z_int => k_is)
    (case z_bool => k_is)
    (case z_str => k_is)
    (case z_tuple => k_is)
    (case z_list => k_is)
    (case z_len => k_is)
    (case z_enum => k_is)
    (case z_range => k_is)
    (case z_all => k_is)
    (case z_sorted => k_is)
    (case z_set => k_is)
    (case z_sum => k_is)
    (case z_dict => k_is)
    (case z_max => k_is)
    (case z_min => k_is)
    (case z_any => k_is)
    (case n_many => k_is)
    (case n_crowd => k_is)
    (case cC => k_is)
    (case pg => k_is)
    (case hd => k_is)
    (case po => k_is)
    (case sa => k_is)
    (case mk => k_is)
    (case kc => k_is)
    (case nN => k_is)
    (case nT => k_is)
    (case sf => k_is)
    (case ty => k_is)
    (case rd => k_is)
    (case rg => k_is)
    (case wy => k_is)
    (case rcy => k_is)
    (case fiy => k_is)
    (case wx => k_is)
    (case rcx => k_is)
    (case fix => k_is)
    (case wi => k_is)
    (case wa => k_is)
    (case wp => k_is)
    (case wd => k_is)
    (case ws => k_is)
    (case wo => k_is)
    (case wv => k_is)
    (case wb => k_is)
    (case wc => k_is)
    (case wn => k_is)
    (case qn => k_is)
    (case un => k_is)
    (case vn => k_is)
    (case we => k_is)
    (case qe => k_is)
    (case ue => k_is)
    (case ve => k_is)
    (case l_i => k_is)
    (case c_i => k_is)
    (case k_i => k_is)
    (case l_a => k_is)
    (case c_a => k_is)
    (case k_a => k_is)
    (case l_p => k_is)
    (case c_p => k_is)
    (case k_p => k_is)
    (case l_d => k_is)
    (case c_d => k_is)
    (case k_d => k_is)
    (case l_s => k_is)
    (case c_s => k_is)
    (case k_s => k_is)
    (case l_o => k_is)
    (case c_o => k_is)
    (case k_o => k_is)
    (case l_v => k_is)
    (case c_v => k_is)
    (case k_v => k_is)
    (case l_b => k_is)
    (case c_b => k_is)
    (case k_b => k_is)
    (case l_c => k_is)
    (case c_c => k_is)
    (case k_c => k_is)
    (case l_n => k_is)
    (case c_n => k_is)
    (case k_n => k_is)
    (case l_e => k_is)
    (case c_e => k_is)
    (case k_e => k_is)
    (case l_y => k_is)
    (case c_y => k_is)
    (case k_y => k_is)
    (case l_x => k_is)
    (case c_x => k_is)
    (case k_x => k_is)
    (case i_i => k_is)
    (case i_a => k_is)
    (case i_p => k_is)
    (case i_d => k_is)
    (case i_s => k_is)
    (case i_o => k_is)
    (case i_v => k_is)
    (case i_b => k_is)
    (case i_c => k_is)
