import PyProof.Rows.All
import Wide.All
import OpenK.AllK
import Wide.FinOn
import HandS.ForMost
import HandS.Walk
import HandS.IsInst
import HandS.More
import HandS.NoneIn
import HandS.SetKeys
import HandS.DictComp
import HandS.TupAny
import HandS.Wide
import HandS.ReplaceList
import HandS.StrMore
import PyProof.Rows.StrCut
import KE.IntTextLaws
import HandS.ForExc
import HandS.Codes
import HandS.Style
import HandS.FStr
import HandS.Flow
import HandS.ExcInit
import HandS.Star
import HandS.CallRecv
import HandS.Small
import PyProof.TupleOfGen
import HandS.Dict
import KE.KEqSeq
import HandS.Comp
import HandS.ExcIs
import HandS.ExcField
import KE.KExcIs
import KE.KIsAll
import HandS.Replace
import HandS.ReplaceLit
import PyProof.ToksMono
import HandS.Iter
import PySem.Challenge.RW_loopsheds_k12_formula_texts
set_option Elab.async false
set_option linter.all false
set_option maxRecDepth 100000
/-! Systems of differences: rings, solutions, the graph of last causes, and why lowering comes to an end. Plain Lean. -/
namespace Lo
section
variable {α : Type} [DecidableEq α]

abbrev Row (α : Type) := α × α × Int
def Sat (rows : List (Row α)) (v : α → Int) : Prop := ∀ r ∈ rows, v r.1 - v r.2.1 ≤ r.2.2
def put {β : Type} (f : α → β) (a : α) (b : β) : α → β := fun x => if x = a then b else f x
theorem put_at {β : Type} (f : α → β) (a : α) (b : β) : put f a b a = b := if_pos rfl
theorem put_off {β : Type} {f : α → β} {a x : α} {b : β} (h : x ≠ a) : put f a b x = f x := if_neg h

/-- the ring of rows es: each right is the next left, no left twice, a negative sum -/
structure IsRing (es : List (Row α)) : Prop where
  two : 2 ≤ es.length
  nd : (es.map (·.1)).Nodup
  turn : es.map (·.2.1) = (es.map (·.1)).drop 1 ++ (es.map (·.1)).take 1
  neg : (es.map (·.2.2)).sum < 0
/-- found are the places of a ring -/
def RingOk (rows : List (Row α)) (found : List Nat) : Prop :=
  ∃ es : List (Row α), found.map (fun i => rows[i]?) = es.map some ∧ IsRing es

theorem sum_map_sub {β : Type} (f g : β → Int) : ∀ l : List β, (l.map fun x => f x - g x).sum = (l.map f).sum - (l.map g).sum
  | [] => rfl
  | x :: l => by
    have ih := sum_map_sub f g l
    simp only [List.map_cons, List.sum_cons]
    omega
theorem sum_le {β : Type} (f g : β → Int) : ∀ l : List β, (∀ x ∈ l, f x ≤ g x) → (l.map f).sum ≤ (l.map g).sum
  | [], _ => Int.le_refl _
  | x :: l, h => by
    have ih := sum_le f g l fun y hy => h y (List.mem_cons_of_mem _ hy)
    have h0 := h x List.mem_cons_self
    simp only [List.map_cons, List.sum_cons]
    omega
theorem sum_lt {β : Type} (f g : β → Int) : ∀ (l : List β) (a : β), a ∈ l → (∀ x ∈ l, f x ≤ g x) → f a < g a → (l.map f).sum < (l.map g).sum
  | [], _, h, _, _ => absurd h List.not_mem_nil
  | x :: l, a, ha, h, hl => by
    have h0 := h x List.mem_cons_self
    have ht : ∀ y ∈ l, f y ≤ g y := fun y hy => h y (List.mem_cons_of_mem _ hy)
    simp only [List.map_cons, List.sum_cons]
    rcases List.mem_cons.mp ha with e | e
    · subst e
      have := sum_le f g l ht
      omega
    · have := sum_lt f g l a e ht hl
      omega
theorem sum_turn {β : Type} (f : β → Int) (l : List β) : ((l.drop 1 ++ l.take 1).map f).sum = (l.map f).sum := by
  cases l with
  | nil => rfl
  | cons x l =>
    simp only [List.drop_succ_cons, List.drop_zero, List.take_succ_cons, List.take_zero, List.map_append, List.sum_append, List.map_cons, List.map_nil, List.sum_cons, List.sum_nil]
    omega
theorem ring_not_sat {rows es : List (Row α)} (h : ∀ e ∈ es, e ∈ rows) (R : IsRing es) (v : α → Int) : ¬ Sat rows v := fun s => by
  have h1 : (es.map fun e => v e.1 - v e.2.1).sum ≤ (es.map (·.2.2)).sum := sum_le _ _ es fun e he => s e (h e he)
  rw [sum_map_sub (fun e : Row α => v e.1) (fun e : Row α => v e.2.1)] at h1
  have h2 : (es.map fun e : Row α => v e.2.1).sum = (es.map fun e : Row α => v e.1).sum := by
    have e1 : (es.map fun e : Row α => v e.2.1) = (es.map (·.2.1)).map v := by rw [List.map_map]; rfl
    have e2 : (es.map fun e : Row α => v e.1) = (es.map (·.1)).map v := by rw [List.map_map]; rfl
    rw [e1, e2, R.turn, sum_turn]
  have := R.neg
  omega
theorem ringOk_not_sat {rows : List (Row α)} {found : List Nat} (h : RingOk rows found) (v : α → Int) : ¬ Sat rows v := by
  obtain ⟨es, e, R⟩ := h
  refine ring_not_sat (fun x hx => ?_) R v
  have h1 : some x ∈ es.map some := List.mem_map_of_mem hx
  rw [← e] at h1
  obtain ⟨i, _, hi⟩ := List.mem_map.mp h1
  exact List.mem_of_getElem? hi

/-- pigeons -/
theorem nodup_le : ∀ (l m : List α), l.Nodup → (∀ x ∈ l, x ∈ m) → l.length ≤ m.length
  | [], _, _, _ => Nat.zero_le _
  | x :: l, m, hd, hs => by
    obtain ⟨h1, h2⟩ := List.nodup_cons.mp hd
    have hx := hs x List.mem_cons_self
    have hl : ∀ y ∈ l, y ∈ m.erase x := fun y hy => by
      have ne : y ≠ x := fun e => h1 (e ▸ hy)
      exact (List.mem_erase_of_ne ne).mpr (hs y (List.mem_cons_of_mem _ hy))
    have ih := nodup_le l (m.erase x) h2 hl
    have z := List.length_erase_of_mem hx
    have p := List.length_pos_of_mem hx
    simp only [List.length_cons]
    omega

/-! ### walks in the graph of the causes -/
abbrev Gr (α : Type) := α → Option (α × Int)
inductive Ch (g : Gr α) : α → List α → α → Int → Prop
  | nil (x : α) : Ch g x [] x 0
  | cons {x y z : α} {c s : Int} {l : List α} : g x = some (y, c) → Ch g y l z s → Ch g x (x :: l) z (c + s)
variable {g : Gr α}
theorem Ch.snoc {x y z : α} {l : List α} {c s : Int} (h : Ch g x l y s) (e : g y = some (z, c)) : Ch g x (l ++ [y]) z (s + c) := by
  induction h with
  | nil x =>
    have q := Ch.cons e (Ch.nil z)
    have z : c + 0 = 0 + c := by omega
    rw [z] at q
    exact q
  | @cons x y z' c' s' l e' _ ih =>
    have q := Ch.cons e' (ih e)
    have z : c' + (s' + c) = c' + s' + c := by omega
    rw [z] at q
    exact q
theorem Ch.from_mem {x y a : α} {l : List α} {s : Int} (h : Ch g x l y s) (ha : a ∈ l) : ∃ p q t, l = p ++ a :: q ∧ Ch g a (a :: q) y t := by
  induction h with
  | nil x => exact absurd ha List.not_mem_nil
  | @cons x y z c s l e h ih =>
    by_cases k : a = x
    · subst k
      exact ⟨[], l, _, rfl, Ch.cons e h⟩
    · have hm : a ∈ l := by
        rcases List.mem_cons.mp ha with q | q
        · exact absurd q k
        · exact q
      obtain ⟨p, q, t, e2, h2⟩ := ih hm
      exact ⟨x :: p, q, t, by rw [e2]; rfl, h2⟩
/-- the walk up to the first stop is told by its start -/
theorem Ch.det {S : α → Prop} {x y y' : α} {l l' : List α} {s s' : Int} (h : Ch g x l y s) (h' : Ch g x l' y' s') (hy : S y) (hy' : S y') (hl : ∀ a ∈ l, ¬ S a) (hl' : ∀ a ∈ l', ¬ S a) : l = l' := by
  induction h generalizing l' s' with
  | nil x =>
    cases h' with
    | nil => rfl
    | cons e h2 => exact absurd hy (hl' _ List.mem_cons_self)
  | @cons x y0 z c s l e h ih =>
    cases h' with
    | nil => exact absurd hy' (hl _ List.mem_cons_self)
    | @cons _ y1 _ c1 s1 l1 e1 h1 =>
      rw [e] at e1
      have q := Option.some.inj e1
      have q1 : y0 = y1 := congrArg Prod.fst q
      subst q1
      have := ih h1 hy (fun a ha => hl a (List.mem_cons_of_mem _ ha)) (fun a ha => hl' a (List.mem_cons_of_mem _ ha))
      rw [this]
theorem Ch.nodup {S : α → Prop} {x y : α} {l : List α} {s : Int} (h : Ch g x l y s) (hy : S y) (hl : ∀ a ∈ l, ¬ S a) : l.Nodup := by
  induction h with
  | nil x => exact List.nodup_nil
  | @cons x y0 z c s l e h ih =>
    have ht : ∀ a ∈ l, ¬ S a := fun a ha => hl a (List.mem_cons_of_mem _ ha)
    refine List.nodup_cons.mpr ⟨fun hm => ?_, ih hy ht⟩
    obtain ⟨p, q, t, e2, h2⟩ := h.from_mem hm
    have hq : ∀ a ∈ x :: q, ¬ S a := fun a ha => ht a (by rw [e2]; exact List.mem_append_right _ ha)
    have z := (Ch.cons e h).det h2 hy hy hl hq
    have z2 := congrArg List.length z
    rw [e2] at z2
    simp only [List.length_cons, List.length_append] at z2
    omega
theorem Ch.le {val : α → Int} (hw : ∀ x y c, g x = some (y, c) → val y + c ≤ val x) {x y : α} {l : List α} {s : Int} (h : Ch g x l y s) : s ≤ val x - val y := by
  induction h with
  | nil x => omega
  | cons e h ih =>
    have := hw _ _ _ e
    omega
theorem Ch.low {M : Int} (hM : ∀ x y c, g x = some (y, c) → -M ≤ c) {x y : α} {l : List α} {s : Int} (h : Ch g x l y s) : -(M * (l.length : Int)) ≤ s := by
  induction h with
  | nil x => simp
  | @cons x y0 z c s l e h ih =>
    have := hM _ _ _ e
    simp only [List.length_cons]
    have e1 : M * ((l.length + 1 : Nat) : Int) = M * (l.length : Int) + M := by
      rw [Int.natCast_add, Int.mul_add]; omega
    rw [e1]
    omega

/-- what holds between the values and the causes -/
structure Low (rows : List (Row α)) (val : α → Int) (g : Gr α) : Prop where
  edge : ∀ x y c, g x = some (y, c) → (x, y, c) ∈ rows ∧ val y + c ≤ val x
  root : ∀ x, g x = none → val x = 0
  neg : ∀ x l s, l ≠ [] → Ch g x l x s → s < 0
theorem Low.start (rows : List (Row α)) : Low rows (fun _ => 0) (fun _ => none) := by
  refine ⟨(fun x y c e => nomatch e), fun _ _ => rfl, fun x l s hl h => ?_⟩
  cases h with
  | nil => exact absurd rfl hl
  | cons e _ => cases e
theorem Low.step {rows : List (Row α)} {val : α → Int} {x0 y0 : α} {c0 : Int} (L : Low rows val g) (hr : (x0, y0, c0) ∈ rows) (hne : x0 ≠ y0) (hlt : val y0 + c0 < val x0) :
    Low rows (put val x0 (val y0 + c0)) (put g x0 (some (y0, c0))) := by
  have weak : ∀ x y c, put g x0 (some (y0, c0)) x = some (y, c) → val y + c ≤ val x := fun x y c e => by
    by_cases k : x = x0
    · subst k
      rw [put_at] at e
      injection e with e
      injection e with e1 e2
      subst e1 e2
      omega
    · rw [put_off k] at e
      exact (L.edge x y c e).2
  have split : ∀ (x z : α) (l : List α) (s : Int), Ch (put g x0 (some (y0, c0))) x l z s → Ch g x l z s ∨ s < val x - val z := fun x z l s h => by
    induction h with
    | nil x => exact .inl (Ch.nil x)
    | @cons x y z c s l e h ih =>
      have hs : s ≤ val y - val z := h.le weak
      by_cases k : x = x0
      · subst k
        rw [put_at] at e
        injection e with e
        injection e with e1 e2
        subst e1 e2
        exact .inr (by omega)
      · rw [put_off k] at e
        have he := (L.edge x y c e).2
        rcases ih with i | i
        · exact .inl (Ch.cons e i)
        · exact .inr (by omega)
  refine ⟨fun x y c e => ?_, fun x e => ?_, fun x l s hl h => ?_⟩
  · by_cases k : x = x0
    · subst k
      rw [put_at] at e
      injection e with e
      injection e with e1 e2
      subst e1 e2
      refine ⟨hr, ?_⟩
      rw [put_at, put_off hne.symm]
      omega
    · rw [put_off k] at e
      have he := L.edge x y c e
      refine ⟨he.1, ?_⟩
      rw [put_off k]
      by_cases j : y = x0
      · subst j
        rw [put_at]
        omega
      · rw [put_off j]
        exact he.2
  · by_cases k : x = x0
    · subst k
      rw [put_at] at e
      cases e
    · rw [put_off k] at e ⊢
      exact L.root x e
  · rcases split x x l s h with i | i
    · exact L.neg x l s hl i
    · omega

/-- from x a name without a cause is reached -/
def Ends (g : Gr α) (x : α) : Prop := ∃ l y s, Ch g x l y s ∧ g y = none
theorem ends_none {x : α} (h : g x = none) : Ends g x := ⟨[], x, 0, Ch.nil x, h⟩
theorem ends_next {x y : α} {c : Int} (e : g x = some (y, c)) (h : Ends g y) : Ends g x := by
  obtain ⟨l, z, s, h1, h2⟩ := h
  exact ⟨_, z, _, Ch.cons e h1, h2⟩
theorem Ch.mem_some {x y : α} {l : List α} {s : Int} (h : Ch g x l y s) : ∀ a ∈ l, g a ≠ none := by
  induction h with
  | nil x => exact fun a ha => absurd ha List.not_mem_nil
  | @cons x y z c s l e h ih =>
    intro a ha
    rcases List.mem_cons.mp ha with q | q
    · rw [q, e]; exact fun z => nomatch z
    · exact ih a q
/-- how low a value can be -/
theorem Low.floor {rows : List (Row α)} {val : α → Int} (L : Low rows val g) (hE : ∀ x, Ends g x) {M : Int} (hM0 : 0 ≤ M) (hM : ∀ r ∈ rows, -M ≤ r.2.2) (x : α) : -(M * (rows.length : Int)) ≤ val x := by
  obtain ⟨l, y, s, h, hy⟩ := hE x
  have hd : l.Nodup := h.nodup (S := fun a => g a = none) hy h.mem_some
  have hl : l.length ≤ (rows.map (·.1)).length := nodup_le l _ hd fun a ha => by
    have k := h.mem_some a ha
    cases e : g a with
    | none => exact absurd e k
    | some p => exact List.mem_map.mpr ⟨_, (L.edge a p.1 p.2 e).1, rfl⟩
  rw [List.length_map] at hl
  have h1 := h.le fun x y c e => (L.edge x y c e).2
  have h2 := h.low (M := M) fun x y c e => hM _ (L.edge x y c e).1
  have h3 := L.root y hy
  have h4 : M * (l.length : Int) ≤ M * (rows.length : Int) := Int.mul_le_mul_of_nonneg_left (by omega) hM0
  omega
end
end Lo
/-! The graph that a table of causes makes, the ring that is read off it, the passes and their measure; least sums of chains. -/
namespace Lo
section
variable {α : Type} [DecidableEq α]
theorem nd_one (x : α) : [x].Nodup := List.nodup_cons.mpr ⟨List.not_mem_nil, List.nodup_nil⟩
theorem Ch.append {g : Gr α} {x y z : α} {l l' : List α} {s s' : Int} (h : Ch g x l y s) (h' : Ch g y l' z s') : Ch g x (l ++ l') z (s + s') := by
  induction h with
  | nil x =>
    have e : (0 : Int) + s' = s' := by omega
    rw [e]
    exact h'
  | @cons x y c0 c s l e _ ih =>
    have q := Ch.cons e (ih h')
    have e2 : c + (s + s') = c + s + s' := by omega
    rw [e2] at q
    exact q
theorem ends_of {g : Gr α} {x y : α} {l : List α} {s : Int} (h : Ch g x l y s) (hy : Ends g y) : Ends g x := by
  obtain ⟨l2, z, s2, h2, hz⟩ := hy
  exact ⟨_, z, _, h.append h2, hz⟩

/-- names cs have causes: the places cz of rows -/
def gOf (rows : List (Row α)) (cs : List α) (cz : α → Nat) : Gr α := fun x => if x ∈ cs then (rows[cz x]?).map fun r => r.2 else none
/-- each cause of a name is a row that begins with it -/
def Lk (rows : List (Row α)) (cs : List α) (cz : α → Nat) : Prop := ∀ x ∈ cs, ∃ y c, rows[cz x]? = some (x, y, c)
variable {rows : List (Row α)} {cs : List α} {cz : α → Nat}
theorem gOf_out {x : α} (h : x ∉ cs) : gOf rows cs cz x = none := if_neg h
theorem gOf_in {x y : α} {c : Int} (h : x ∈ cs) (e : rows[cz x]? = some (x, y, c)) : gOf rows cs cz x = some (y, c) := by
  unfold gOf
  rw [if_pos h, e]
  rfl
theorem gOf_some (k : Lk rows cs cz) {x y : α} {c : Int} (h : gOf rows cs cz x = some (y, c)) : x ∈ cs ∧ rows[cz x]? = some (x, y, c) := by
  by_cases m : x ∈ cs
  · obtain ⟨y', c', e⟩ := k x m
    rw [gOf_in m e] at h
    injection h with h
    injection h with h1 h2
    subst h1 h2
    exact ⟨m, e⟩
  · rw [gOf_out m] at h
    cases h
theorem gOf_none (k : Lk rows cs cz) {x : α} (h : gOf rows cs cz x = none) : x ∉ cs := fun m => by
  obtain ⟨y, c, e⟩ := k x m
  rw [gOf_in m e] at h
  cases h
/-- a list with one more, unless it is there -/
def addN (l : List α) (x : α) : List α := if x ∈ l then l else l ++ [x]
theorem mem_addN {l : List α} {x y : α} : y ∈ addN l x ↔ y ∈ l ∨ y = x := by
  unfold addN
  split
  · rename_i h
    exact ⟨Or.inl, fun z => z.elim id fun e => e ▸ h⟩
  · rw [List.mem_append, List.mem_singleton]
theorem nodup_addN {l : List α} {x : α} (h : l.Nodup) : (addN l x).Nodup := by
  unfold addN
  split
  · exact h
  · rename_i n
    refine List.nodup_append.mpr ⟨h, nd_one x, fun a ha b hb => ?_⟩
    rw [List.mem_singleton] at hb
    subst hb
    exact fun e => n (e ▸ ha)
theorem length_addN {l : List α} {x : α} : (addN l x).length ≤ l.length + 1 := by
  unfold addN
  split <;> simp
theorem lk_put (k : Lk rows cs cz) {x y : α} {c : Int} {i : Nat} (e : rows[i]? = some (x, y, c)) : Lk rows (addN cs x) (put cz x i) := fun z hz => by
  by_cases j : z = x
  · subst j
    exact ⟨y, c, by rw [put_at]; exact e⟩
  · rw [put_off j]
    exact k z ((mem_addN.mp hz).resolve_right j)
theorem gOf_put {x y : α} {c : Int} {i : Nat} (e : rows[i]? = some (x, y, c)) : gOf rows (addN cs x) (put cz x i) = put (gOf rows cs cz) x (some (y, c)) := by
  funext z
  by_cases j : z = x
  · subst j
    rw [put_at]
    refine gOf_in (mem_addN.mpr (.inr rfl)) ?_
    rw [put_at]
    exact e
  · rw [put_off j]
    unfold gOf
    have m : z ∈ addN cs x ↔ z ∈ cs := by
      rw [mem_addN]
      exact ⟨fun h => h.resolve_right j, .inl⟩
    rw [put_off j]
    by_cases h : z ∈ cs
    · rw [if_pos h, if_pos (m.mpr h)]
    · rw [if_neg h, if_neg fun q => h (m.mp q)]

/-! ### the ring -/
theorem Ch.rights (k : Lk rows cs cz) {x y : α} {l : List α} {s : Int} (h : Ch (gOf rows cs cz) x l y s) :
    ∃ es : List (Row α), l.map (fun a => rows[cz a]?) = es.map some ∧ es.map (·.1) = l ∧ x :: es.map (·.2.1) = l ++ [y] ∧ (es.map (·.2.2)).sum = s := by
  induction h with
  | nil x => exact ⟨[], rfl, rfl, rfl, rfl⟩
  | @cons x y z c s l e h ih =>
    obtain ⟨es, h1, h2, h3, h4⟩ := ih
    obtain ⟨_, e2⟩ := gOf_some k e
    refine ⟨(x, y, c) :: es, ?_, ?_, ?_, ?_⟩
    · rw [List.map_cons, e2, h1]
      rfl
    · rw [List.map_cons, h2]
    · show x :: y :: es.map (·.2.1) = x :: (l ++ [z])
      rw [h3]
    · rw [List.map_cons, List.sum_cons, h4]
theorem ring_read (k : Lk rows cs cz) {val : α → Int} (L : Low rows val (gOf rows cs cz)) (hne : ∀ r ∈ rows, r.1 ≠ r.2.1) {start : α} {l : List α} {s : Int} (h : Ch (gOf rows cs cz) start (start :: l) start s)
    (hl : ∀ a ∈ l, a ≠ start) : RingOk rows ((start :: l).map cz) := by
  obtain ⟨es, h1, h2, h3, h4⟩ := h.rights k
  have hs : s < 0 := L.neg start _ s (List.cons_ne_nil _ _) h
  refine ⟨es, ?_, ?_⟩
  · rw [← h1, List.map_map]
    rfl
  · cases h with
    | @cons _ y _ c s' _ e h' =>
      have nd : l.Nodup := h'.nodup (S := fun a => a = start) rfl hl
      refine ⟨?_, ?_, ?_, by rw [h4]; exact hs⟩
      · have hlen : es.length = l.length + 1 := by
          have := congrArg List.length h2
          rw [List.length_map] at this
          exact this
        rw [hlen]
        cases l with
        | cons _ _ => simp
        | nil =>
          cases h' with
          | nil => exact absurd rfl (hne _ (L.edge _ _ _ e).1)
      · rw [h2]
        exact List.nodup_cons.mpr ⟨fun m => hl _ m rfl, nd⟩
      · rw [h2]
        have h5 : es.map (·.2.1) = l ++ [start] := (List.cons.inj h3).2
        rw [h5]
        rfl

/-! ### a pass, and the measure -/
def span (rows : List (Row α)) : Int := ((rows.map fun r => r.2.2.natAbs).sum : Nat)
theorem span_le {rows : List (Row α)} {r : Row α} (h : r ∈ rows) : -span rows ≤ r.2.2 ∧ r.2.2 ≤ span rows := by
  have : r.2.2.natAbs ≤ (rows.map fun r => r.2.2.natAbs).sum := by
    induction rows with
    | nil => exact absurd h List.not_mem_nil
    | cons a t ih =>
      rw [List.map_cons, List.sum_cons]
      rcases List.mem_cons.mp h with e | e
      · subst e
        omega
      · have := ih e
        omega
  unfold span
  omega
theorem span_nonneg (rows : List (Row α)) : 0 ≤ span rows := Int.natCast_nonneg _
/-- how far the values are above what is the least for them -/
def pot (rows : List (Row α)) (ks : List α) (val : α → Int) : Int := (ks.map fun x => val x + span rows * (rows.length : Int)).sum
theorem sum_nonneg {β : Type} (f : β → Int) : ∀ l : List β, (∀ x ∈ l, 0 ≤ f x) → 0 ≤ (l.map f).sum
  | [], _ => Int.le_refl _
  | x :: l, h => by
    have := sum_nonneg f l fun y hy => h y (List.mem_cons_of_mem _ hy)
    have := h x List.mem_cons_self
    rw [List.map_cons, List.sum_cons]
    omega
theorem pot_nonneg {val : α → Int} {g : Gr α} (ks : List α) (L : Low rows val g) (hE : ∀ x, Ends g x) : 0 ≤ pot rows ks val := by
  refine sum_nonneg _ ks fun x _ => ?_
  have := L.floor hE (span_nonneg rows) (fun r hr => (span_le hr).1) x
  omega
theorem pot_put {val : α → Int} {ks : List α} {x : α} {w : Int} (hx : x ∈ ks) (h : w < val x) : pot rows ks (put val x w) < pot rows ks val := by
  refine sum_lt _ _ ks x hx (fun y _ => ?_) ?_
  · by_cases j : y = x
    · subst j
      rw [put_at]
      omega
    · rw [put_off j]
      exact Int.le_refl _
  · rw [put_at]
    omega

/-! ### the places of a turn -/
/-- the rounds of `_turn` at the beginning of turn i: what was met in earlier rounds ends -/
structure Met (g : Gr α) (cs rs : List α) (rn : α → Nat) (i : Nat) : Prop where
  nd : rs.Nodup
  sub : ∀ x ∈ rs, x ∈ cs
  ends : ∀ x ∈ rs, Ends g x ∧ rn x < i
  past : ∀ j x, j < i → cs[j]? = some x → Ends g x
theorem Met.start (g : Gr α) (cs : List α) (rn : α → Nat) : Met g cs [] rn 0 :=
  ⟨List.nodup_nil, fun x h => absurd h List.not_mem_nil, fun x h => absurd h List.not_mem_nil, fun j x h => absurd h (Nat.not_lt_zero _)⟩
/-- within turn i: rs the names met before, t those of this turn -/
structure MetIn (g : Gr α) (cs rs : List α) (rn : α → Nat) (i : Nat) (start : α) (t : List α) (name : α) : Prop where
  nd : (rs ++ t).Nodup
  sub : ∀ x ∈ rs ++ t, x ∈ cs
  ends : ∀ x ∈ rs, Ends g x ∧ rn x < i
  now : ∀ x ∈ t, rn x = i ∧ ∃ l s, l ≠ [] ∧ Ch g x l name s
  from_ : ∃ l s, Ch g start l name s
theorem MetIn.start {g : Gr α} {cs rs : List α} {rn : α → Nat} {i : Nat} (M : Met g cs rs rn i) (start : α) : MetIn g cs rs rn i start [] start := by
  refine ⟨by rw [List.append_nil]; exact M.nd, by rw [List.append_nil]; exact M.sub, M.ends, fun x h => absurd h List.not_mem_nil, [], 0, Ch.nil _⟩
theorem MetIn.step {g : Gr α} {cs rs : List α} {rn : α → Nat} {i : Nat} {start name y : α} {c : Int} {t : List α} (M : MetIn g cs rs rn i start t name) (hc : name ∈ cs) (hn : name ∉ rs ++ t) (e : g name = some (y, c)) :
    MetIn g cs rs (put rn name i) i start (t ++ [name]) y := by
  have one : Ch g name [name] y (c + 0) := Ch.cons e (Ch.nil y)
  refine ⟨?_, fun x hx => ?_, fun x hx => ?_, fun x hx => ?_, ?_⟩
  · rw [← List.append_assoc]
    refine List.nodup_append.mpr ⟨M.nd, nd_one _, fun a ha b hb => ?_⟩
    rw [List.mem_singleton] at hb
    subst hb
    exact fun q => hn (q ▸ ha)
  · rw [← List.append_assoc] at hx
    rcases List.mem_append.mp hx with q | q
    · exact M.sub x q
    · rw [List.mem_singleton] at q
      exact q ▸ hc
  · have ne : x ≠ name := fun q => hn (List.mem_append_left _ (q ▸ hx))
    rw [put_off ne]
    exact M.ends x hx
  · rcases List.mem_append.mp hx with q | q
    · have ne : x ≠ name := fun z => hn (List.mem_append_right _ (z ▸ q))
      obtain ⟨h1, l, s, h2, h3⟩ := M.now x q
      refine ⟨by rw [put_off ne]; exact h1, l ++ [name], _, fun z => ?_, h3.append one⟩
      exact List.cons_ne_nil _ _ (List.append_eq_nil_iff.mp z).2
    · rw [List.mem_singleton] at q
      subst q
      exact ⟨put_at _ _ _, _, _, List.cons_ne_nil _ _, one⟩
  · obtain ⟨l, s, h⟩ := M.from_
    exact ⟨_, _, h.append one⟩
/-- where the walk of turn i comes to something that ends, all of it ends -/
theorem MetIn.close {g : Gr α} {cs rs : List α} {rn : α → Nat} {i : Nat} {start name : α} {t : List α} (M : MetIn g cs rs rn i start t name) (hs : cs[i]? = some start) (h : Ends g name)
    (past : ∀ j x, j < i → cs[j]? = some x → Ends g x) : Met g cs (rs ++ t) rn (i + 1) := by
  refine ⟨M.nd, M.sub, fun x hx => ?_, fun j x hj hx => ?_⟩
  · rcases List.mem_append.mp hx with q | q
    · obtain ⟨h1, h2⟩ := M.ends x q
      exact ⟨h1, by omega⟩
    · obtain ⟨h1, l, s, _, h3⟩ := M.now x q
      exact ⟨ends_of h3 h, by omega⟩
  · by_cases k : j = i
    · subst k
      rw [hs] at hx
      injection hx with hx
      subst hx
      obtain ⟨l, s, h3⟩ := M.from_
      exact ends_of h3 h
    · exact past j x (by omega) hx
theorem Met.all {g : Gr α} {cs rs : List α} {rn : α → Nat} (M : Met g cs rs rn cs.length) (out : ∀ x, x ∉ cs → g x = none) (x : α) : Ends g x := by
  by_cases h : x ∈ cs
  · obtain ⟨j, hj, e⟩ := List.getElem_of_mem h
    exact M.past j x hj (by rw [List.getElem?_eq_getElem hj, e])
  · exact ends_none (out x h)
theorem MetIn.room {g : Gr α} {cs rs : List α} {rn : α → Nat} {i : Nat} {start name : α} {t : List α} (M : MetIn g cs rs rn i start t name) (hc : name ∈ cs) (hn : name ∉ rs ++ t) : (rs ++ t).length < cs.length := by
  have := nodup_le (name :: (rs ++ t)) cs (List.nodup_cons.mpr ⟨hn, M.nd⟩) fun x hx => by
    rcases List.mem_cons.mp hx with q | q
    · exact q ▸ hc
    · exact M.sub x q
  rw [List.length_cons] at this
  omega
end
end Lo
/-! Least sums of chains, told by the solutions: what a system implies. -/
namespace Lo
section
variable {α : Type} [DecidableEq α]
/-- each row that begins with a keeps the sums -/
def Done (rows : List (Row α)) (ss : List α) (sv : α → Int) (a : α) : Prop := ∀ r ∈ rows, r.1 = a → r.2.1 ∈ ss ∧ sv r.2.1 ≤ sv a + r.2.2
/-- the sums so far -/
structure Sums (rows : List (Row α)) (left : α) (ss : List α) (sv : α → Int) : Prop where
  nd : ss.Nodup
  sub : ∀ x ∈ ss, x = left ∨ ∃ r ∈ rows, x = r.2.1
  has : left ∈ ss
  low : sv left ≤ 0
  sound : ∀ x ∈ ss, ∀ u, Sat rows u → u left - u x ≤ sv x
  up : ∀ x ∈ ss, sv x ≤ span rows * (ss.length : Int)
variable {rows : List (Row α)} {left : α} {ss : List α} {sv : α → Int}
theorem Sums.start (rows : List (Row α)) (left : α) (sv : α → Int) (h : sv left = 0) : Sums rows left [left] sv := by
  refine ⟨nd_one left, fun x hx => .inl (List.mem_singleton.mp hx), List.mem_singleton.mpr rfl, by omega, fun x hx u _ => ?_, fun x hx => ?_⟩
  · rw [List.mem_singleton] at hx
    subst hx
    omega
  · rw [List.mem_singleton] at hx
    subst hx
    have := span_nonneg rows
    simp
    omega
/-- a name is reached, or a sum is lowered, by a row -/
theorem Sums.step (S : Sums rows left ss sv) {a b : α} {c : Int} (hr : (a, b, c) ∈ rows) (ha : a ∈ ss) (h : b ∈ ss → sv a + c < sv b) : Sums rows left (addN ss b) (put sv b (sv a + c)) := by
  have hc : -span rows ≤ c ∧ c ≤ span rows := span_le hr
  have h0 := span_nonneg rows
  have hsa := S.up a ha
  have grow : ∀ n : Nat, span rows * ((n : Nat) : Int) ≤ span rows * ((n + 1 : Nat) : Int) := fun n => by
    have : span rows * ((n + 1 : Nat) : Int) = span rows * (n : Int) + span rows := by
      rw [Int.natCast_add, Int.mul_add]
      omega
    omega
  have hlen : b ∉ ss → (addN ss b).length = ss.length + 1 := fun k => by
    unfold addN
    rw [if_neg k, List.length_append]
    rfl
  have hlen2 : b ∈ ss → (addN ss b).length = ss.length := fun k => by
    unfold addN
    rw [if_pos k]
  refine ⟨nodup_addN S.nd, fun x hx => ?_, mem_addN.mpr (.inl S.has), ?_, fun x hx u hu => ?_, fun x hx => ?_⟩
  · rcases mem_addN.mp hx with q | q
    · exact S.sub x q
    · exact .inr ⟨_, hr, q⟩
  · by_cases k : left = b
    · subst k
      have := h S.has
      have := S.low
      rw [put_at]
      omega
    · rw [put_off k]
      exact S.low
  · by_cases k : x = b
    · subst k
      rw [put_at]
      have h1 := S.sound a ha u hu
      have h2 := hu _ hr
      simp only at h2
      omega
    · rw [put_off k]
      exact S.sound x ((mem_addN.mp hx).resolve_right k) u hu
  · by_cases k : x = b
    · subst k
      rw [put_at]
      by_cases m : x ∈ ss
      · have h1 := h m
        have h2 := S.up x m
        rw [hlen2 m]
        omega
      · rw [hlen m]
        have : span rows * ((ss.length + 1 : Nat) : Int) = span rows * (ss.length : Int) + span rows := by
          rw [Int.natCast_add, Int.mul_add]
          omega
        omega
    · rw [put_off k]
      have m := (mem_addN.mp hx).resolve_right k
      have h1 := S.up x m
      by_cases j : b ∈ ss
      · rw [hlen2 j]
        exact h1
      · rw [hlen j]
        have := grow ss.length
        omega
/-- what was done stays done, but for the name that is lowered -/
theorem Done.step {a b x : α} {c : Int} (D : Done rows ss sv x) (hx : x ≠ b) (h : b ∈ ss → sv a + c < sv b) : Done rows (addN ss b) (put sv b (sv a + c)) x := fun r hr e => by
  obtain ⟨h1, h2⟩ := D r hr e
  refine ⟨mem_addN.mpr (.inl h1), ?_⟩
  rw [put_off hx]
  by_cases k : r.2.1 = b
  · rw [k, put_at]
    have := h (k ▸ h1)
    rw [k] at h2
    omega
  · rw [put_off k]
    exact h2
/-! ### the measure -/
def ends_ (rows : List (Row α)) (left : α) : List α := left :: rows.map (·.2.1)
def far (rows : List (Row α)) (left : α) (v : α → Int) : Int := (((ends_ rows left).map fun x => (v left - v x).natAbs).sum : Nat)
theorem far_le {v : α → Int} {x : α} (h : x ∈ ends_ rows left) : -(far rows left v) ≤ v left - v x := by
  have : (v left - v x).natAbs ≤ ((ends_ rows left).map fun x => (v left - v x).natAbs).sum := by
    generalize ends_ rows left = l at h ⊢
    induction l with
    | nil => exact absurd h List.not_mem_nil
    | cons a t ih =>
      rw [List.map_cons, List.sum_cons]
      rcases List.mem_cons.mp h with e | e
      · subst e
        omega
      · have := ih e
        omega
  unfold far
  omega
def slack (rows : List (Row α)) (left : α) (v : α → Int) (ss : List α) (sv : α → Int) (x : α) : Int :=
  if x ∈ ss then sv x - (v left - v x) else span rows * ((rows.length + 1 : Nat) : Int) + far rows left v + 1
def gap (rows : List (Row α)) (left : α) (v : α → Int) (ss : List α) (sv : α → Int) : Int := ((ends_ rows left).map (slack rows left v ss sv)).sum
theorem Sums.few (S : Sums rows left ss sv) : ss.length ≤ rows.length + 1 := by
  have := nodup_le ss (ends_ rows left) S.nd fun x hx => by
    rcases S.sub x hx with e | ⟨r, hr, e⟩
    · exact e ▸ List.mem_cons_self
    · exact List.mem_cons_of_mem _ (List.mem_map.mpr ⟨r, hr, e.symm⟩)
  unfold ends_ at this
  rw [List.length_cons, List.length_map] at this
  exact this
theorem far_nonneg (rows : List (Row α)) (left : α) (v : α → Int) : 0 ≤ far rows left v := Int.natCast_nonneg _
theorem Sums.gap_nonneg (S : Sums rows left ss sv) {v : α → Int} (hv : Sat rows v) : 0 ≤ gap rows left v ss sv := by
  refine sum_nonneg _ _ fun x _ => ?_
  unfold slack
  split
  · rename_i h
    have := S.sound x h v hv
    omega
  · have h1 := far_nonneg rows left v
    have h2 : 0 ≤ span rows * ((rows.length + 1 : Nat) : Int) := Int.mul_nonneg (span_nonneg rows) (Int.natCast_nonneg _)
    omega
theorem Sums.gap_step (S : Sums rows left ss sv) {v : α → Int} {a b : α} {c : Int} (hr : (a, b, c) ∈ rows) (ha : a ∈ ss) (h : b ∈ ss → sv a + c < sv b) :
    gap rows left v (addN ss b) (put sv b (sv a + c)) < gap rows left v ss sv := by
  have S' := S.step hr ha h
  have hb : b ∈ ends_ rows left := List.mem_cons_of_mem _ (List.mem_map.mpr ⟨_, hr, rfl⟩)
  have key : slack rows left v (addN ss b) (put sv b (sv a + c)) b < slack rows left v ss sv b := by
    unfold slack
    rw [if_pos (mem_addN.mpr (.inr rfl)), put_at]
    by_cases k : b ∈ ss
    · rw [if_pos k]
      have := h k
      omega
    · rw [if_neg k]
      have h1 := S'.up b (mem_addN.mpr (.inr rfl))
      rw [put_at] at h1
      have h2 : span rows * ((addN ss b).length : Int) ≤ span rows * ((rows.length + 1 : Nat) : Int) := Int.mul_le_mul_of_nonneg_left (by have := S'.few; omega) (span_nonneg rows)
      have h3 := far_le (v := v) hb
      omega
  refine sum_lt _ _ _ b hb (fun x _ => ?_) key
  by_cases k : x = b
  · rw [k]
    exact Int.le_of_lt key
  · unfold slack
    rw [put_off k]
    by_cases m : x ∈ ss
    · rw [if_pos m, if_pos (mem_addN.mpr (.inl m))]
      exact Int.le_refl _
    · rw [if_neg m, if_neg fun q => k ((mem_addN.mp q).resolve_left m)]
      exact Int.le_refl _
/-! ### at the end -/
theorem big_le (f : Row α → Int) {r : Row α} (h : r ∈ rows) : f r ≤ (((rows.map fun r => (f r).natAbs).sum : Nat) : Int) := by
  have : (f r).natAbs ≤ (rows.map fun r => (f r).natAbs).sum := by
    induction rows with
    | nil => exact absurd h List.not_mem_nil
    | cons a t ih =>
      rw [List.map_cons, List.sum_cons]
      rcases List.mem_cons.mp h with e | e
      · subst e
        omega
      · have := ih e
        omega
  omega
/-- a solution with a greater difference -/
theorem Sums.wide (S : Sums rows left ss sv) (hd : ∀ a ∈ ss, Done rows ss sv a) {v : α → Int} (hv : Sat rows v) {right : α} {n : Int} (h : right ∈ ss → n < sv right) : ∃ u, Sat rows u ∧ n + 1 ≤ u left - u right := by
  refine ⟨fun x => if x ∈ ss then -sv x else v x - ((((rows.map fun r => (v r.1 + sv r.2.1 - r.2.2).natAbs).sum : Nat) : Int) + ((n + 1 + v right).natAbs : Int)), fun r hr => ?_, ?_⟩
  · show (if r.1 ∈ ss then _ else _) - (if r.2.1 ∈ ss then _ else _) ≤ r.2.2
    have hb : v r.1 + sv r.2.1 - r.2.2 ≤ _ := big_le (fun r => v r.1 + sv r.2.1 - r.2.2) hr
    have hs := hv r hr
    by_cases k : r.1 ∈ ss
    · obtain ⟨h1, h2⟩ := hd r.1 k r hr rfl
      rw [if_pos k, if_pos h1]
      omega
    · rw [if_neg k]
      by_cases j : r.2.1 ∈ ss
      · rw [if_pos j]
        omega
      · rw [if_neg j]
        omega
  · show n + 1 ≤ (if left ∈ ss then _ else _) - (if right ∈ ss then _ else _)
    rw [if_pos S.has]
    have hl := S.low
    by_cases k : right ∈ ss
    · rw [if_pos k]
      have := h k
      omega
    · rw [if_neg k]
      omega
/-- what a difference is implied by -/
def Told (rows : List (Row α)) (left right : α) (limit : Int) : Prop := ∀ u, Sat rows u → u left - u right ≤ limit
/-- the greatest value of left minus right (none: there is none) -/
def Best (rows : List (Row α)) (left right : α) (r : Option Int) : Prop := (∀ k, r = some k → Told rows left right k) ∧ ∀ n, (∀ k, r = some k → n < k) → ¬ Told rows left right n
theorem Sums.best (S : Sums rows left ss sv) (hd : ∀ a ∈ ss, Done rows ss sv a) {v : α → Int} (hv : Sat rows v) (right : α) : Best rows left right (if right ∈ ss then some (sv right) else none) := by
  refine ⟨fun k e => ?_, fun n h t => ?_⟩
  · by_cases m : right ∈ ss
    · rw [if_pos m] at e
      injection e with e
      subst e
      exact S.sound right m
    · rw [if_neg m] at e
      cases e
  · obtain ⟨u, h1, h2⟩ := S.wide hd hv (right := right) (n := n) fun m => h _ (by rw [if_pos m])
    have := t u h1
    omega
theorem told_denied {right : α} {limit : Int} : (∃ u, Sat (rows ++ [(right, left, 0 - limit - 1)]) u) ↔ ¬ Told rows left right limit := by
  constructor
  · rintro ⟨u, hu⟩ t
    have h1 := t u fun r hr => hu r (List.mem_append_left _ hr)
    have h2 := hu (right, left, 0 - limit - 1) (List.mem_append_right _ (List.mem_singleton.mpr rfl))
    simp only at h2
    omega
  · intro h
    have : ∃ u, Sat rows u ∧ ¬ u left - u right ≤ limit := by
      refine Classical.byContradiction fun k => h fun u hu => Classical.byContradiction fun j => k ⟨u, hu, j⟩
    obtain ⟨u, h1, h2⟩ := this
    refine ⟨u, fun r hr => ?_⟩
    rcases List.mem_append.mp hr with q | q
    · exact h1 r q
    · rw [List.mem_singleton] at q
      subst q
      show u right - u left ≤ 0 - limit - 1
      omega
theorem told_own {l r : α} {c : Int} (h : (l, r, c) ∈ rows) : Told rows l r c := fun u hu => hu _ h
end
end Lo
namespace Lo
open PySem L2
abbrev SRow := Row Str
/-! ### dicts with text keys -/
def dS (ks : List Str) (f : Str → V) : List (Key × V) := ks.map fun x => ((Sum.inr x : Key), f x)
theorem dS_len (ks : List Str) (f : Str → V) : (dS ks f).length = ks.length := List.length_map ..
theorem dS_val (f : Str → V) (x : Str) : ∀ ks : List Str, valV (dS ks f) (Sum.inr x) = if x ∈ ks then some (f x) else none
  | [] => rfl
  | y :: ks => by
    have ih := dS_val f x ks
    by_cases h : y = x
    · subst h
      rw [if_pos List.mem_cons_self]
      exact valV_pos (p := ((Sum.inr y : Key), f y)) rfl
    · have e : valV (dS (y :: ks) f) (Sum.inr x) = valV (dS ks f) (Sum.inr x) := valV_neg (p := ((Sum.inr y : Key), f y)) fun q => h (Sum.inr.inj q)
      rw [e, ih]
      by_cases m : x ∈ ks
      · rw [if_pos m, if_pos (List.mem_cons_of_mem _ m)]
      · rw [if_neg m, if_neg fun q => (List.mem_cons.mp q).elim (fun z => h z.symm) m]
theorem dS_in {ks : List Str} {f : Str → V} {x : Str} (h : x ∈ ks) : valV (dS ks f) (Sum.inr x) = some (f x) := by rw [dS_val, if_pos h]
theorem dS_out {ks : List Str} {f : Str → V} {x : Str} (h : x ∉ ks) : valV (dS ks f) (Sum.inr x) = none := by rw [dS_val, if_neg h]
theorem dS_congr {ks : List Str} {f g : Str → V} (h : ∀ x ∈ ks, f x = g x) : dS ks f = dS ks g := List.map_congr_left fun x hx => by rw [h x hx]
theorem dS_any {ks : List Str} {f : Str → V} {x : Str} : ((dS ks f).any fun kv => decide (kv.1 = Sum.inr x)) = true ↔ x ∈ ks := by
  rw [valV_any, dS_val]
  by_cases m : x ∈ ks
  · rw [if_pos m]
    exact ⟨fun _ => m, fun _ => rfl⟩
  · rw [if_neg m]
    exact ⟨(fun q => nomatch q), fun q => absurd q m⟩
theorem dS_put (ks : List Str) (f : Str → V) (x : Str) (v : V) : putK (dS ks f) (Sum.inr x) v = dS (addN ks x) (put f x v) := by
  unfold putK addN
  by_cases m : x ∈ ks
  · rw [if_pos (dS_any.mpr m), if_pos m]
    unfold dS
    rw [List.map_map]
    refine List.map_congr_left fun y _ => ?_
    show (if (Sum.inr y : Key) = Sum.inr x then ((Sum.inr y : Key), v) else ((Sum.inr y : Key), f y)) = ((Sum.inr y : Key), put f x v y)
    by_cases j : y = x
    · subst j
      rw [if_pos rfl, put_at]
    · rw [if_neg fun q => j (Sum.inr.inj q), put_off j]
  · rw [if_neg fun q => m (dS_any.mp q), if_neg m]
    have e : dS ks (put f x v) = dS ks f := dS_congr fun y hy => put_off fun q => m (q ▸ hy)
    show dS ks f ++ [((Sum.inr x : Key), v)] = (ks ++ [x]).map _
    rw [List.map_append]
    show _ = dS ks (put f x v) ++ [((Sum.inr x : Key), put f x v x)]
    rw [e, put_at]
theorem dS_keys (ks : List Str) (f : Str → V) : (dS ks f).map (fun kv => kV kv.1) = ks.map V.str := by
  unfold dS
  rw [List.map_map]
  rfl
theorem dget {H : Hp} {a : Addr} {ks : List Str} {f : Str → V} {x : Str} (e : H a = some (.dK (dS ks f))) (h : x ∈ ks) : DGet H a (.str x) (some (f x)) := by
  have q := DGet.k (k := Sum.inr x) e
  rw [dS_in h] at q
  exact q
theorem dget0 {H : Hp} {a : Addr} {ks : List Str} {f : Str → V} {x : Str} (e : H a = some (.dK (dS ks f))) (h : x ∉ ks) : DGet H a (.str x) none := by
  have q := DGet.k (k := Sum.inr x) e
  rw [dS_out h] at q
  exact q
theorem dgetI {H : Hp} {a : Addr} {ks : List Str} {f : Str → V} (x : Str) (e : H a = some (.dK (dS ks f))) : DGet H a (.str x) (if x ∈ ks then some (f x) else none) := by
  have q := DGet.k (k := Sum.inr x) e
  rw [dS_val] at q
  exact q
theorem dput {H : Hp} {a : Addr} {ks : List Str} {f : Str → V} (x : Str) (v : V) (e : H a = some (.dK (dS ks f))) (h : ks.length ≤ 1000) : DPut H a (.str x) v (upd H a (.dK (dS (addN ks x) (put f x v)))) := by
  have q := DPut.k (k := Sum.inr x) (v := v) e (by rw [dS_len]; exact small1000 h)
  rw [dS_put] at q
  exact q
/-! ### heaps -/
theorem same_upd {H : Hp} {p : Addr} {o : HO} (h : H p = none) : Same H (upd H p o) := fun b x e => by
  rw [upd_ne (ne_of_none e h)]
  exact e
/-- what was tracked at the beginning is as it was, though a later thing changes -/
theorem _root_.L2.Same.later {H H' : Hp} {p : Addr} {o : HO} (s : Same H H') (h : H p = none) : Same H (upd H' p o) := fun b x e => by
  rw [upd_ne (ne_of_none e h)]
  exact s b x e
/-! ### systems -/
def rowV (r : SRow) : List V := [.str r.1, .str r.2.1, .int r.2.2]
def RowT (H : Hp) (p : Addr) (r : SRow) : Prop := H p = some (.tup (rowV r))
def RowA (H : Hp) (p : Addr) (r : SRow) : Prop := H p = some (.tup (rowV r)) ∨ H p = some (.lst (rowV r))
/-- a list of rows at a -/
def Sys (R : Hp → Addr → SRow → Prop) (H : Hp) (a : Addr) (rows : List SRow) : Prop :=
  ∃ ps : List Addr, H a = some (.lst (ps.map V.ref)) ∧ ps.length = rows.length ∧ ∀ (i : Nat) (p : Addr) (r : SRow), ps[i]? = some p → rows[i]? = some r → R H p r
def Good1 (r : SRow) : Prop := r.1 ≠ r.2.1 ∧ r.1 ≠ ("" : Str) ∧ r.2.1 ≠ ("" : Str)
structure Good (rows : List SRow) : Prop where
  row : ∀ r ∈ rows, Good1 r
  few : rows.length ≤ 100
theorem RowT.same {H H' : Hp} {p : Addr} {r : SRow} (s : Same H H') (h : RowT H p r) : RowT H' p r := s _ _ h
theorem RowA.same {H H' : Hp} {p : Addr} {r : SRow} (s : Same H H') (h : RowA H p r) : RowA H' p r := h.imp (fun h => s _ _ h) fun h => s _ _ h
theorem RowT.any {H : Hp} {p : Addr} {r : SRow} (h : RowT H p r) : RowA H p r := .inl h
theorem Sys.sameT {H H' : Hp} {a : Addr} {rows : List SRow} (s : Same H H') (h : Sys RowT H a rows) : Sys RowT H' a rows := by
  obtain ⟨ps, h1, h2, h3⟩ := h
  exact ⟨ps, s _ _ h1, h2, fun i p r hp hr => (h3 i p r hp hr).same s⟩
theorem Sys.sameA {H H' : Hp} {a : Addr} {rows : List SRow} (s : Same H H') (h : Sys RowA H a rows) : Sys RowA H' a rows := by
  obtain ⟨ps, h1, h2, h3⟩ := h
  exact ⟨ps, s _ _ h1, h2, fun i p r hp hr => (h3 i p r hp hr).same s⟩
theorem Sys.any {H : Hp} {a : Addr} {rows : List SRow} (h : Sys RowT H a rows) : Sys RowA H a rows := by
  obtain ⟨ps, h1, h2, h3⟩ := h
  exact ⟨ps, h1, h2, fun i p r hp hr => (h3 i p r hp hr).any⟩
/-- the i-th row of a system -/
theorem Sys.at {R : Hp → Addr → SRow → Prop} {H : Hp} {rows : List SRow} {ps : List Addr} (h2 : ps.length = rows.length) (h3 : ∀ (i : Nat) (p : Addr) (r : SRow), ps[i]? = some p → rows[i]? = some r → R H p r) {i : Nat} {v : V} (hv : (ps.map V.ref)[i]? = some v) :
    ∃ p r, v = .ref p ∧ ps[i]? = some p ∧ rows[i]? = some r ∧ r ∈ rows ∧ i < rows.length ∧ R H p r := by
  rw [List.getElem?_map] at hv
  cases e : ps[i]? with
  | none =>
    rw [e] at hv
    cases hv
  | some p =>
    rw [e] at hv
    have hi : i < ps.length := (List.getElem?_eq_some_iff.mp e).1
    have hi2 : i < rows.length := h2 ▸ hi
    refine ⟨p, rows[i], (Option.some.inj hv).symm, rfl, List.getElem?_eq_getElem hi2, List.getElem_mem hi2, hi2, h3 i p _ e (List.getElem?_eq_getElem hi2)⟩
/-- what the module's names hold -/
structure Blt (mg : Str → Option Value) : Prop where
  isi : mg "isinstance" = none
  int : mg "int" = none
  bool : mg "bool" = none
  str : mg "str" = none
  tuple : mg "tuple" = none
  list : mg "list" = none
  len : mg "len" = none
  enum : mg "enumerate" = none
  range : mg "range" = none
  all : mg "all" = none
end Lo
namespace Fx
open PySem
/-! # texts as lists of codes; the lexer -/
abbrev Cs := List Nat
def mkS (l : Cs) : Str := ⟨l.toArray⟩
def cs (s : Str) : Cs := s.cps.toList
theorem cs_mkS (l : Cs) : cs (mkS l) = l := by simp [cs, mkS]
theorem mkS_cs (s : Str) : mkS (cs s) = s := by
  cases s
  simp [cs, mkS]
theorem mkS_inj {a b : Cs} (h : mkS a = mkS b) : a = b := by
  have := congrArg cs h
  rwa [cs_mkS, cs_mkS] at this
theorem cs_inj {a b : Str} (h : cs a = cs b) : a = b := by rw [← mkS_cs a, ← mkS_cs b, h]
theorem mkS_app (a b : Cs) : mkS a ++ mkS b = mkS (a ++ b) := by
  show Str.append (mkS a) (mkS b) = _
  unfold Str.append mkS
  simp
theorem mkS_len (a : Cs) : (mkS a).length = a.length := by simp [mkS, Str.length]
theorem cs_len (a : Str) : (cs a).length = a.length := by simp [cs, Str.length]
abbrev LET : Str := ("abcdefghijklmnopqrstuvwxyz" : Str)
abbrev DIG : Str := ("0123456789" : Str)
abbrev SGN : Str := ("=<>:()+-" : Str)
theorem let_cs : cs LET = [97, 98, 99, 100, 101, 102, 103, 104, 105, 106, 107, 108, 109, 110, 111, 112, 113, 114, 115, 116, 117, 118, 119, 120, 121, 122] := by decide +kernel
theorem dig_cs : cs DIG = [48, 49, 50, 51, 52, 53, 54, 55, 56, 57] := by decide +kernel
theorem sgn_cs : cs SGN = [61, 60, 62, 58, 40, 41, 43, 45] := by decide +kernel
def isL (c : Nat) : Bool := decide (c ∈ cs LET)
def isD (c : Nat) : Bool := decide (c ∈ cs DIG)
def isS (c : Nat) : Bool := decide (c ∈ cs SGN)
theorem isL_iff {c : Nat} : isL c = true ↔ 97 ≤ c ∧ c ≤ 122 := by
  unfold isL
  rw [let_cs, decide_eq_true_eq]
  simp only [List.mem_cons, List.not_mem_nil, or_false]
  omega
theorem isD_iff {c : Nat} : isD c = true ↔ 48 ≤ c ∧ c ≤ 57 := by
  unfold isD
  rw [dig_cs, decide_eq_true_eq]
  simp only [List.mem_cons, List.not_mem_nil, or_false]
  omega
theorem isS_iff {c : Nat} : isS c = true ↔ c = 61 ∨ c = 60 ∨ c = 62 ∨ c = 58 ∨ c = 40 ∨ c = 41 ∨ c = 43 ∨ c = 45 := by
  unfold isS
  rw [sgn_cs, decide_eq_true_eq]
  simp only [List.mem_cons, List.not_mem_nil, or_false]
/-- the signs of two codes -/
def isO (l : Cs) : Bool := decide (l = [33, 61] ∨ l = [60, 61] ∨ l = [62, 61])
inductive Kd | word | number | sign
deriving DecidableEq
/-- the kind and the length of the word that begins here -/
def step : Cs → Option (Kd × Nat)
  | [] => none
  | c :: r => if isL c then some (.word, ((c :: r).takeWhile isL).length) else if isD c then some (.number, ((c :: r).takeWhile isD).length)
    else if isO ((c :: r).take 2) then some (.sign, 2) else if isS c then some (.sign, 1) else none
structure Tok where
  w : Cs
  k : Kd
  col : Nat
deriving DecidableEq
def lexN : Nat → Cs → Nat → Except Nat (List Tok)
  | _, [], _ => .ok []
  | 0, _ :: _, _ => .ok []
  | n + 1, c :: r, k => if c = 32 then lexN n r (k + 1) else match step (c :: r) with
    | none => .error k
    | some (kd, m) => match lexN n ((c :: r).drop m) (k + m) with
      | .error e => .error e
      | .ok ts => .ok (⟨(c :: r).take m, kd, k⟩ :: ts)
theorem takeWhile_pos {p : Nat → Bool} {c : Nat} {r : Cs} (h : p c = true) : 1 ≤ ((c :: r).takeWhile p).length := by
  rw [List.takeWhile_cons, if_pos h]
  simp
theorem takeWhile_le (p : Nat → Bool) (l : Cs) : (l.takeWhile p).length ≤ l.length := (List.takeWhile_sublist _).length_le
theorem step_cons (c : Nat) (r : Cs) : step (c :: r) = if isL c then some (.word, ((c :: r).takeWhile isL).length) else if isD c then some (.number, ((c :: r).takeWhile isD).length)
    else if isO ((c :: r).take 2) then some (.sign, 2) else if isS c then some (.sign, 1) else none := rfl
theorem step_pos {l : Cs} {kd : Kd} {m : Nat} (h : step l = some (kd, m)) : 1 ≤ m ∧ m ≤ l.length := by
  cases l with
  | nil => cases h
  | cons c r =>
    rw [step_cons] at h
    by_cases h1 : isL c = true
    · rw [if_pos h1] at h
      cases h
      exact ⟨takeWhile_pos h1, takeWhile_le _ _⟩
    rw [if_neg h1] at h
    by_cases h2 : isD c = true
    · rw [if_pos h2] at h
      cases h
      exact ⟨takeWhile_pos h2, takeWhile_le _ _⟩
    rw [if_neg h2] at h
    by_cases h3 : isO ((c :: r).take 2) = true
    · rw [if_pos h3] at h
      cases h
      refine ⟨by decide, ?_⟩
      unfold isO at h3
      rw [decide_eq_true_eq] at h3
      have : ((c :: r).take 2).length = 2 := by rcases h3 with e | e | e <;> rw [e] <;> rfl
      rw [List.length_take] at this
      omega
    rw [if_neg h3] at h
    by_cases h4 : isS c = true
    · rw [if_pos h4] at h
      cases h
      exact ⟨by decide, by simp⟩
    · rw [if_neg h4] at h
      cases h
theorem lexN_cons (n : Nat) (c : Nat) (r : Cs) (k : Nat) : lexN (n + 1) (c :: r) k = if c = 32 then lexN n r (k + 1) else match step (c :: r) with
    | none => .error k
    | some (kd, m) => match lexN n ((c :: r).drop m) (k + m) with
      | .error e => .error e
      | .ok ts => .ok (⟨(c :: r).take m, kd, k⟩ :: ts) := rfl
theorem lexN_fuel : ∀ (N : Nat) (l : Cs) (k n : Nat), l.length ≤ N → l.length ≤ n → lexN n l k = lexN l.length l k
  | _, [], k, n, _, _ => by cases n <;> rfl
  | 0, c :: r, k, n, h, _ => absurd h (by simp)
  | N + 1, c :: r, k, 0, _, h => absurd h (by simp)
  | N + 1, c :: r, k, n + 1, hN, hn => by
    have hr : r.length ≤ n := by simpa using hn
    have hR : r.length ≤ N := by simpa using hN
    show lexN (n + 1) (c :: r) k = lexN (r.length + 1) (c :: r) k
    rw [lexN_cons, lexN_cons]
    by_cases h : c = 32
    · rw [if_pos h, if_pos h]
      exact lexN_fuel N r _ n hR hr
    · rw [if_neg h, if_neg h]
      cases e : step (c :: r) with
      | none => rfl
      | some km =>
        obtain ⟨kd, m⟩ := km
        have hm := step_pos e
        have hd : ((c :: r).drop m).length ≤ r.length := by
          rw [List.length_drop, List.length_cons]
          omega
        show (match lexN n ((c :: r).drop m) (k + m) with | .error e => Except.error e | .ok ts => .ok ((Tok.mk ((c :: r).take m) kd k) :: ts)) = (match lexN r.length ((c :: r).drop m) (k + m) with | .error e => Except.error e | .ok ts => .ok (⟨(c :: r).take m, kd, k⟩ :: ts))
        rw [lexN_fuel N _ _ n (by omega) (by omega), lexN_fuel N _ _ r.length (by omega) hd]
def lex (l : Cs) (k : Nat) : Except Nat (List Tok) := lexN l.length l k
theorem lex_nil (k : Nat) : lex [] k = .ok [] := rfl
theorem lex_sp (r : Cs) (k : Nat) : lex (32 :: r) k = lex r (k + 1) := by
  show lexN (r.length + 1) (32 :: r) k = _
  unfold lexN
  rw [if_pos rfl]
  rfl
theorem lex_bad {c : Nat} {r : Cs} {k : Nat} (h : c ≠ 32) (e : step (c :: r) = none) : lex (c :: r) k = .error k := by
  show lexN (r.length + 1) (c :: r) k = _
  unfold lexN
  rw [if_neg h, e]
theorem lex_tok {c : Nat} {r : Cs} {k m : Nat} {kd : Kd} (h : c ≠ 32) (e : step (c :: r) = some (kd, m)) : lex (c :: r) k = match lex ((c :: r).drop m) (k + m) with
      | .error e => .error e
      | .ok ts => .ok (⟨(c :: r).take m, kd, k⟩ :: ts) := by
  show lexN (r.length + 1) (c :: r) k = _
  rw [lexN_cons, if_neg h, e]
  have hm := step_pos e
  have hd : ((c :: r).drop m).length ≤ r.length := by
    rw [List.length_drop, List.length_cons]
    omega
  show (match lexN r.length ((c :: r).drop m) (k + m) with | .error e => Except.error e | .ok ts => .ok ((Tok.mk ((c :: r).take m) kd k) :: ts)) = _
  rw [lexN_fuel _ _ _ _ (Nat.le_refl _) hd]
  rfl
end Fx
namespace Fx
open PySem
/-! # formulas; the reader as a function -/
inductive Fm where
  | cmp (op n1 : Cs) (k1 : Int) (n2 : Cs) (k2 : Int)
  | neg (f : Fm)
  | row (w : Cs) (fs : List Fm)
  | qu (w n : Cs) (f : Fm)
abbrev wAll : Cs := [97, 108, 108]
abbrev wSome : Cs := [115, 111, 109, 101]
abbrev wNot : Cs := [110, 111, 116]
abbrev wAnd : Cs := [97, 110, 100]
abbrev wOr : Cs := [111, 114]
theorem wAll_cs : cs ("all" : Str) = wAll := by decide +kernel
theorem wSome_cs : cs ("some" : Str) = wSome := by decide +kernel
theorem wNot_cs : cs ("not" : Str) = wNot := by decide +kernel
theorem wAnd_cs : cs ("and" : Str) = wAnd := by decide +kernel
theorem wOr_cs : cs ("or" : Str) = wOr := by decide +kernel
def ops : List Cs := [[61], [33, 61], [60], [60, 61], [62], [62, 61]]
def resv : List Cs := [wAll, wSome, wNot, wAnd, wOr]
def isName (w : Cs) : Bool := decide (w.length ≤ 8) && !decide (w ∈ resv)
abbrev Tk := List Tok
def wd : Tk → Cs
  | [] => []
  | t :: _ => t.w
def isK (k : Kd) : Tk → Bool
  | [] => false
  | t :: _ => decide (t.k = k)
def colT (fin : Nat) : Tk → Nat
  | [] => fin
  | t :: _ => t.col
abbrev R := Except Nat
def taken (fin : Nat) (b : Bool) (r : Tk) : R (Cs × Tk) := if b then .ok (wd r, r.tail) else .error (colT fin r)
def digs (w : Cs) : Nat := w.foldl (fun a c => 10 * a + (c - 48)) 0
def fitsN (r : Tk) : Bool := isK .number r && (decide ((wd r).length ≤ 4) && (decide (wd r = [48]) || !decide ((wd r).head? = some 48)))
def num (fin : Nat) (r : Tk) : R (Int × Tk) := if fitsN r then .ok ((digs (wd r) : Nat), r.tail) else .error (colT fin r)
abbrev w0 : Cs := [48]
def term (fin : Nat) (r : Tk) : R (Cs × Int × Tk) :=
  if wd r = [45] then match num fin r.tail with | .error e => .error e | .ok (n, r2) => .ok (w0, -n, r2)
  else if isK .number r then match num fin r with | .error e => .error e | .ok (n, r2) => .ok (w0, n, r2)
  else match taken fin (isK .word r && isName (wd r)) r with
    | .error e => .error e
    | .ok (n, r1) => if wd r1 = [43] then match num fin r1.tail with | .error e => .error e | .ok (k, r2) => .ok (n, k, r2)
      else if wd r1 = [45] then match num fin r1.tail with | .error e => .error e | .ok (k, r2) => .ok (n, -k, r2)
      else .ok (n, 0, r1)
def cmpr (fin : Nat) (r : Tk) : R (Fm × Tk) := match term fin r with
  | .error e => .error e
  | .ok (n1, k1, r1) => match taken fin (decide (wd r1 ∈ ops)) r1 with
    | .error e => .error e
    | .ok (op, r2) => match term fin r2 with
      | .error e => .error e
      | .ok (n2, k2, r3) => .ok (.cmp op n1 k1 n2 k2, r3)
structure Lvl where
  qs : List (Cs × Cs)
  closes : Bool
  ch : List Fm
  ps : List Fm
  dn : Nat
structure Ps where
  r : Tk
  lv : List Lvl
  bd : List Cs
def isKind (w : Cs) : Bool := decide (w = wAll) || decide (w = wSome)
/-- the names of a quantifier, up to the colon -/
def qloop (fin : Nat) (kind : Cs) : Tk → List Cs → List (Cs × Cs) → R (List (Cs × Cs) × Tk × List Cs)
  | [], _, _ => .error fin
  | t :: r, bd, found => if found ≠ [] ∧ t.w = [58] then .ok (found, r, bd)
    else if t.k = .word ∧ isName t.w = true ∧ t.w ∉ bd then qloop fin kind r (bd ++ [t.w]) (found ++ [(kind, t.w)]) else .error t.col
def newL (q : List (Cs × Cs)) (c : Bool) : Lvl := ⟨q, c, [], [], 0⟩
def openN (fin : Nat) : Nat → Ps → R Ps
  | 0, s => .ok s
  | n + 1, s => if wd s.r = wNot then openN fin n { s with r := s.r.tail, lv := match s.lv with | [] => [] | l :: ls => { l with dn := l.dn + 1 } :: ls }
    else if wd s.r = [40] then openN fin n { s with r := s.r.tail, lv := newL [] true :: s.lv }
    else if isKind (wd s.r) then match qloop fin (wd s.r) s.r.tail s.bd [] with
      | .error e => .error e
      | .ok (q, r2, bd2) => openN fin n ⟨r2, newL q false :: s.lv, bd2⟩
    else .ok s
def rowF (w : Cs) (fs : List Fm) : Fm := match fs with | [f] => f | fs => .row w fs
def negs : Nat → Fm → Fm
  | 0, f => f
  | n + 1, f => negs n (.neg f)
def wraps (f : Fm) : List (Cs × Cs) → Fm
  | [] => f
  | (k, n) :: q => wraps (.qu k n f) q
def closedF (fin : Nat) : List Lvl → Tk → List Cs → Fm → R (Ps ⊕ Fm)
  | [], _, _, f => .ok (.inr f)
  | l :: ls, r, bd, f =>
    if wd r = wAnd then .ok (.inl ⟨r.tail, { l with dn := 0, ps := l.ps ++ [negs l.dn f] } :: ls, bd⟩)
    else if wd r = wOr then .ok (.inl ⟨r.tail, { l with dn := 0, ps := [], ch := l.ch ++ [rowF wAnd (l.ps ++ [negs l.dn f])] } :: ls, bd⟩)
    else if l.closes = true ∧ wd r ≠ [41] then .error (colT fin r)
    else if l.closes = false ∧ ls = [] ∧ r ≠ [] then .error (colT fin r)
    else
      let g := wraps (rowF wOr (l.ch ++ [rowF wAnd (l.ps ++ [negs l.dn f])])) l.qs.reverse
      let r2 := if l.closes then r.tail else r
      let bd2 := l.qs.reverse.foldl (fun b q => b.filter (fun x => decide (x ≠ q.2))) bd
      if ls = [] then .ok (.inr g) else closedF fin ls r2 bd2 g
def runN (fin : Nat) : Nat → Ps → R Fm
  | 0, _ => .error 0
  | n + 1, s => match openN fin s.r.length s with
    | .error e => .error e
    | .ok s1 => match cmpr fin s1.r with
      | .error e => .error e
      | .ok (c, r2) => match closedF fin s1.lv r2 s1.bd c with
        | .error e => .error e
        | .ok (.inr f) => .ok f
        | .ok (.inl s3) => runN fin n s3
def parse (fin : Nat) (ts : Tk) : R Fm := runN fin (ts.length + 1) ⟨ts, [newL [] false], []⟩
def readF (t : Cs) : R Fm := match lex t 1 with
  | .error e => .error e
  | .ok ts => parse (t.length + 1) ts
/-! ### nothing grows -/
theorem tail_le (r : Tk) : r.tail.length ≤ r.length := by simp
theorem num_lt {fin : Nat} {r r2 : Tk} {n : Int} (h : num fin r = .ok (n, r2)) : r2.length < r.length := by
  unfold num at h
  by_cases f : fitsN r = true
  · rw [if_pos f] at h
    cases h
    cases r with
    | nil => cases f
    | cons t r => simp
  · rw [if_neg f] at h
    cases h
theorem term_lt {fin : Nat} {r r2 : Tk} {n : Cs} {k : Int} (h : term fin r = .ok (n, k, r2)) : r2.length < r.length := by
  unfold term at h
  by_cases a : wd r = [45]
  · rw [if_pos a] at h
    cases e : num fin r.tail with
    | error z => rw [e] at h; cases h
    | ok z =>
      rw [e] at h
      cases h
      have := num_lt e
      have := tail_le r
      omega
  rw [if_neg a] at h
  by_cases b : isK .number r = true
  · rw [if_pos b] at h
    cases e : num fin r with
    | error z => rw [e] at h; cases h
    | ok z =>
      rw [e] at h
      cases h
      exact num_lt e
  rw [if_neg b] at h
  cases e : taken fin (isK .word r && isName (wd r)) r with
  | error z => rw [e] at h; cases h
  | ok z =>
    obtain ⟨n1, r1⟩ := z
    rw [e] at h
    have hr1 : r1.length < r.length := by
      unfold taken at e
      split at e
      · rename_i c
        cases e
        cases r with
        | nil => cases c
        | cons t r => simp
      · cases e
    dsimp only at h
    by_cases c : wd r1 = [43]
    · rw [if_pos c] at h
      cases e5 : num fin r1.tail with
      | error z => rw [e5] at h; cases h
      | ok z =>
        rw [e5] at h
        cases h
        have := num_lt e5
        have := tail_le r1
        omega
    rw [if_neg c] at h
    by_cases c : wd r1 = [45]
    · rw [if_pos c] at h
      cases e5 : num fin r1.tail with
      | error z => rw [e5] at h; cases h
      | ok z =>
        rw [e5] at h
        cases h
        have := num_lt e5
        have := tail_le r1
        omega
    rw [if_neg c] at h
    cases h
    exact hr1
theorem taken_le {fin : Nat} {b : Bool} {r r2 : Tk} {w : Cs} (h : taken fin b r = .ok (w, r2)) : r2.length ≤ r.length := by
  unfold taken at h
  split at h
  · cases h
    exact tail_le r
  · cases h
theorem cmpr_lt {fin : Nat} {r r2 : Tk} {f : Fm} (h : cmpr fin r = .ok (f, r2)) : r2.length < r.length := by
  unfold cmpr at h
  cases e1 : term fin r with
  | error z => rw [e1] at h; cases h
  | ok z =>
    obtain ⟨n1, k1, r1⟩ := z
    rw [e1] at h
    dsimp only at h
    cases e2 : taken fin (decide (wd r1 ∈ ops)) r1 with
    | error z => rw [e2] at h; cases h
    | ok z =>
      obtain ⟨op, r3⟩ := z
      rw [e2] at h
      dsimp only at h
      cases e3 : term fin r3 with
      | error z => rw [e3] at h; cases h
      | ok z =>
        obtain ⟨n2, k2, r4⟩ := z
        rw [e3] at h
        cases h
        have := term_lt e1
        have := taken_le e2
        have := term_lt e3
        omega
theorem qloop_le (fin : Nat) (kind : Cs) : ∀ (r : Tk) (bd : List Cs) (found q : List (Cs × Cs)) (r2 : Tk) (bd2 : List Cs), qloop fin kind r bd found = .ok (q, r2, bd2) → r2.length < r.length
  | [], _, _, _, _, _, h => by cases h
  | t :: r, bd, found, q, r2, bd2, h => by
    unfold qloop at h
    split at h
    · cases h
      simp
    · split at h
      · have := qloop_le fin kind r _ _ _ _ _ h
        simp
        omega
      · cases h
theorem openN_le (fin : Nat) : ∀ (n : Nat) (s s2 : Ps), openN fin n s = .ok s2 → s2.r.length ≤ s.r.length
  | 0, s, s2, h => by cases h; exact Nat.le_refl _
  | n + 1, s, s2, h => by
    unfold openN at h
    split at h
    · exact Nat.le_trans (openN_le fin n _ _ h) (tail_le _)
    split at h
    · exact Nat.le_trans (openN_le fin n _ _ h) (tail_le _)
    split at h
    · cases e : qloop fin (wd s.r) s.r.tail s.bd [] with
      | error z => rw [e] at h; cases h
      | ok z =>
        obtain ⟨q, r2, bd2⟩ := z
        rw [e] at h
        have h1 := openN_le fin n _ _ h
        have h2 := qloop_le _ _ _ _ _ _ _ _ e
        have h3 := tail_le s.r
        dsimp only at h1
        omega
    · cases h
      exact Nat.le_refl _
theorem closedF_le (fin : Nat) : ∀ (ls : List Lvl) (r : Tk) (bd : List Cs) (f : Fm) (s : Ps), closedF fin ls r bd f = .ok (.inl s) → s.r.length ≤ r.length
  | [], _, _, _, _, h => by cases h
  | l :: ls, r, bd, f, s, h => by
    unfold closedF at h
    split at h
    · cases h
      exact tail_le _
    split at h
    · cases h
      exact tail_le _
    split at h
    · cases h
    split at h
    · cases h
    dsimp only at h
    split at h
    · cases h
    · have h1 := closedF_le fin ls _ _ _ _ h
      have h2 := tail_le r
      split at h1 <;> omega
/-! ### the fuel does not matter -/
theorem wd_ne {r : Tk} (h : wd r ≠ []) : r.tail.length + 1 = r.length := by
  cases r with
  | nil => exact absurd rfl h
  | cons t r => simp
theorem openN_fuel (fin : Nat) : ∀ (N n m : Nat) (s : Ps), s.r.length ≤ N → s.r.length ≤ n → s.r.length ≤ m → openN fin n s = openN fin m s := by
  have base : ∀ (n : Nat) (s : Ps), s.r.length = 0 → openN fin n s = .ok s := by
    intro n s h
    have hr : s.r = [] := List.length_eq_zero_iff.mp h
    cases n with
    | zero => rfl
    | succ n =>
      unfold openN
      rw [hr]
      rfl
  intro N
  induction N with
  | zero =>
    intro n m s h _ _
    rw [base n s (by omega), base m s (by omega)]
  | succ N ih =>
    intro n m s h hn hm
    by_cases z : s.r.length = 0
    · rw [base n s z, base m s z]
    obtain ⟨n, rfl⟩ : ∃ k, n = k + 1 := ⟨n - 1, by omega⟩
    obtain ⟨m, rfl⟩ : ∃ k, m = k + 1 := ⟨m - 1, by omega⟩
    unfold openN
    by_cases a : wd s.r = wNot
    · rw [if_pos a, if_pos a]
      have := wd_ne (r := s.r) (by rw [a]; exact List.cons_ne_nil _ _)
      exact ih _ _ _ (by dsimp only; omega) (by dsimp only; omega) (by dsimp only; omega)
    rw [if_neg a, if_neg a]
    by_cases b : wd s.r = [40]
    · rw [if_pos b, if_pos b]
      have := wd_ne (r := s.r) (by rw [b]; exact List.cons_ne_nil _ _)
      exact ih _ _ _ (by dsimp only; omega) (by dsimp only; omega) (by dsimp only; omega)
    rw [if_neg b, if_neg b]
    by_cases c : isKind (wd s.r) = true
    · rw [if_pos c, if_pos c]
      cases e : qloop fin (wd s.r) s.r.tail s.bd [] with
      | error z => rfl
      | ok z =>
        obtain ⟨q, r2, bd2⟩ := z
        have h2 := qloop_le _ _ _ _ _ _ _ _ e
        have h3 := tail_le s.r
        exact ih _ _ _ (by dsimp only; omega) (by dsimp only; omega) (by dsimp only; omega)
    · rw [if_neg c, if_neg c]
def openL (fin : Nat) (s : Ps) : R Ps := openN fin s.r.length s
theorem openN_eq {fin n : Nat} {s : Ps} (h : s.r.length ≤ n) : openN fin n s = openL fin s := openN_fuel fin n n _ s h h (Nat.le_refl _)
def bump : List Lvl → List Lvl
  | [] => []
  | l :: ls => { l with dn := l.dn + 1 } :: ls
theorem openL_eq (fin : Nat) (s : Ps) : openL fin s = if wd s.r = wNot then openL fin { s with r := s.r.tail, lv := bump s.lv }
    else if wd s.r = [40] then openL fin { s with r := s.r.tail, lv := newL [] true :: s.lv }
    else if isKind (wd s.r) then match qloop fin (wd s.r) s.r.tail s.bd [] with
      | .error e => .error e
      | .ok (q, r2, bd2) => openL fin ⟨r2, newL q false :: s.lv, bd2⟩
    else .ok s := by
  rw [← openN_eq (n := s.r.length + 1) (Nat.le_succ _)]
  have hb : (match s.lv with | [] => [] | l :: ls => { l with dn := l.dn + 1 } :: ls) = bump s.lv := by cases s.lv <;> rfl
  unfold openN
  rw [hb]
  have t := tail_le s.r
  rw [openN_eq (by exact t), openN_eq (by exact t)]
  cases e : qloop fin (wd s.r) s.r.tail s.bd [] with
  | error z => rfl
  | ok z =>
    obtain ⟨q, r2, bd2⟩ := z
    have h2 := qloop_le _ _ _ _ _ _ _ _ e
    dsimp only
    rw [openN_eq (by dsimp only; omega)]
theorem runN_fuel (fin : Nat) : ∀ (N n m : Nat) (s : Ps), s.r.length ≤ N → s.r.length < n → s.r.length < m → runN fin n s = runN fin m s := by
  intro N
  induction N with
  | zero =>
    intro n m s h hn hm
    obtain ⟨n, rfl⟩ : ∃ k, n = k + 1 := ⟨n - 1, by omega⟩
    obtain ⟨m, rfl⟩ : ∃ k, m = k + 1 := ⟨m - 1, by omega⟩
    unfold runN
    cases e : openN fin s.r.length s with
    | error z => rfl
    | ok s1 =>
      have h1 := openN_le _ _ _ _ e
      dsimp only
      cases e2 : cmpr fin s1.r with
      | error z => rfl
      | ok z =>
        obtain ⟨c, r2⟩ := z
        have := cmpr_lt e2
        omega
  | succ N ih =>
    intro n m s h hn hm
    obtain ⟨n, rfl⟩ : ∃ k, n = k + 1 := ⟨n - 1, by omega⟩
    obtain ⟨m, rfl⟩ : ∃ k, m = k + 1 := ⟨m - 1, by omega⟩
    unfold runN
    cases e : openN fin s.r.length s with
    | error z => rfl
    | ok s1 =>
      have h1 := openN_le _ _ _ _ e
      dsimp only
      cases e2 : cmpr fin s1.r with
      | error z => rfl
      | ok z =>
        obtain ⟨c, r2⟩ := z
        have h2 := cmpr_lt e2
        dsimp only
        cases e3 : closedF fin s1.lv r2 s1.bd c with
        | error z => rfl
        | ok z =>
          cases z with
          | inr f => rfl
          | inl s3 =>
            have h3 := closedF_le _ _ _ _ _ _ e3
            exact ih _ _ _ (by omega) (by omega) (by omega)
def run (fin : Nat) (s : Ps) : R Fm := runN fin (s.r.length + 1) s
theorem run_eq (fin : Nat) (s : Ps) : run fin s = match openL fin s with
    | .error e => .error e
    | .ok s1 => match cmpr fin s1.r with
      | .error e => .error e
      | .ok (c, r2) => match closedF fin s1.lv r2 s1.bd c with
        | .error e => .error e
        | .ok (.inr f) => .ok f
        | .ok (.inl s3) => run fin s3 := by
  unfold run
  rw [show runN fin (s.r.length + 1) s = _ from rfl]
  conv => lhs; unfold runN
  show (match openL fin s with | .error e => _ | .ok s1 => _) = _
  cases e : openL fin s with
  | error z => rfl
  | ok s1 =>
    have h1 := openN_le _ _ _ _ e
    dsimp only
    cases e2 : cmpr fin s1.r with
    | error z => rfl
    | ok z =>
      obtain ⟨c, r2⟩ := z
      have h2 := cmpr_lt e2
      dsimp only
      cases e3 : closedF fin s1.lv r2 s1.bd c with
      | error z => rfl
      | ok z =>
        cases z with
        | inr f => rfl
        | inl s3 =>
          have h3 := closedF_le _ _ _ _ _ _ e3
          exact runN_fuel fin _ _ _ _ (Nat.le_refl _) (by omega) (by omega)
end Fx
namespace Fx
open PySem
/-! # the words of a formula, read -/
inductive Md where
  | top
  | enc
  | blk (w : Cs)
deriving DecidableEq
def kdOf : Cs → Kd
  | [] => .sign
  | c :: _ => if isL c then .word else if isD c then .number else .sign
inductive Is : Tk → List Cs → Prop
  | nil : Is [] []
  | cons {t : Tok} {ts : Tk} {w : Cs} {ws : List Cs} : t.w = w → t.k = kdOf w → Is ts ws → Is (t :: ts) (w :: ws)
theorem Is.split : ∀ {a b : List Cs} {ts : Tk}, Is ts (a ++ b) → ∃ t1 t2, ts = t1 ++ t2 ∧ Is t1 a ∧ Is t2 b
  | [], b, ts, h => ⟨[], ts, rfl, .nil, h⟩
  | x :: a, b, ts, h => by
    cases h with
    | cons h1 h2 h3 =>
      obtain ⟨t1, t2, rfl, p, q⟩ := Is.split h3
      exact ⟨_ :: t1, t2, rfl, .cons h1 h2 p, q⟩
theorem Is.app : ∀ {a b : List Cs} {t1 t2 : Tk}, Is t1 a → Is t2 b → Is (t1 ++ t2) (a ++ b)
  | [], b, t1, t2, h, h2 => by
    cases h
    exact h2
  | x :: a, b, t1, t2, h, h2 => by
    cases h with
    | cons p q r => exact .cons p q (Is.app r h2)
theorem Is.one {ts : Tk} {w : Cs} (h : Is ts [w]) : ∃ t, ts = [t] ∧ t.w = w ∧ t.k = kdOf w := by
  cases h with
  | cons p q r =>
    cases r
    exact ⟨_, rfl, p, q⟩
theorem Is.head {ts : Tk} {w : Cs} {ws : List Cs} (h : Is ts (w :: ws)) : ∃ t ts', ts = t :: ts' ∧ t.w = w ∧ t.k = kdOf w ∧ Is ts' ws := by
  cases h with
  | cons p q r => exact ⟨_, _, rfl, p, q, r⟩
theorem Is.len : ∀ {ws : List Cs} {ts : Tk}, Is ts ws → ts.length = ws.length
  | [], _, h => by cases h; rfl
  | _ :: _, _, h => by
    cases h with
    | cons _ _ r => simp [Is.len r]
def dig (k : Int) : Cs := [48 + k.natAbs]
def atomK (n : Cs) (k : Int) : List Cs := if n = w0 then (if k < 0 then [[45], dig k] else [dig k]) else if k = 0 then [n] else if k < 0 then [n, [45], dig k] else [n, [43], dig k]
def nameOk (n : Cs) : Prop := n ≠ [] ∧ (∀ c ∈ n, isL c = true) ∧ n.length ≤ 8 ∧ n ∉ resv
def atomOk (n : Cs) (k : Int) : Prop := (n = w0 ∨ nameOk n) ∧ k.natAbs ≤ 9
def pre : Md → List Cs
  | .blk _ => [[58]]
  | _ => []
def opn : Md → List Cs
  | .blk _ => [[58]]
  | .enc => [[40]]
  | .top => []
def cls : Md → List Cs
  | .enc => [[41]]
  | _ => []
mutual
def tk : Md → Fm → List Cs
  | m, .cmp op n1 k1 n2 k2 => pre m ++ (atomK n1 k1 ++ op :: atomK n2 k2)
  | m, .neg f => pre m ++ wNot :: tk .enc f
  | m, .row w fs => opn m ++ (tj w fs ++ cls m)
  | m, .qu w n f => (if m = .blk w then [n] else opn m ++ [w, n]) ++ (tk (.blk w) f ++ cls m)
def tj : Cs → List Fm → List Cs
  | _, [] => []
  | w, f :: fs => tk .enc f ++ (if fs.isEmpty then [] else w :: tj w fs)
end
mutual
def wf : List Cs → Fm → Prop
  | _, .cmp op n1 k1 n2 k2 => op ∈ ops ∧ atomOk n1 k1 ∧ atomOk n2 k2
  | bd, .neg f => wf bd f
  | bd, .row w fs => (w = wAnd ∨ w = wOr) ∧ 2 ≤ fs.length ∧ wfs bd fs
  | bd, .qu w n f => (w = wAll ∨ w = wSome) ∧ nameOk n ∧ n ∉ bd ∧ wf (bd ++ [n]) f
def wfs : List Cs → List Fm → Prop
  | _, [] => True
  | bd, f :: fs => wf bd f ∧ wfs bd fs
end
mutual
def sz : Fm → Nat
  | .cmp .. => 1
  | .neg f => sz f + 1
  | .row _ fs => szs fs + 1
  | .qu _ _ f => sz f + 1
def szs : List Fm → Nat
  | [] => 0
  | f :: fs => sz f + szs fs + 1
end
/-! ### the words of atoms -/
theorem name_head {n : Cs} (h : nameOk n) : kdOf n = .word := by
  obtain ⟨h1, h2, _⟩ := h
  cases n with
  | nil => exact absurd rfl h1
  | cons c r =>
    show (if isL c = true then Kd.word else _) = _
    rw [if_pos (h2 c List.mem_cons_self)]
theorem name_is {n : Cs} (h : nameOk n) : isName n = true := by
  unfold isName
  rw [Bool.and_eq_true, decide_eq_true h.2.2.1, decide_eq_false h.2.2.2]
  exact ⟨rfl, rfl⟩
theorem name_ne {n w : Cs} (h : nameOk n) (hw : ∃ c r, w = c :: r ∧ isL c = false) : n ≠ w := by
  obtain ⟨c, r, rfl, hc⟩ := hw
  intro e
  have := h.2.1 c (e ▸ List.mem_cons_self)
  rw [hc] at this
  cases this
theorem sg {c : Nat} (h : isL c = false) : ∃ c' r, ([c] : Cs) = c' :: r ∧ isL c' = false := ⟨c, [], rfl, h⟩
theorem dig_kd {k : Int} (h : k.natAbs ≤ 9) : kdOf (dig k) = .number := by
  show (if isL (48 + k.natAbs) = true then Kd.word else if isD (48 + k.natAbs) = true then Kd.number else Kd.sign) = _
  have h1 : ¬ isL (48 + k.natAbs) = true := fun e => by
    have := isL_iff.mp e
    omega
  rw [if_neg h1, if_pos (isD_iff.mpr (by omega))]
theorem dig_val {k : Int} (h : k.natAbs ≤ 9) : digs (dig k) = k.natAbs := by
  show 10 * 0 + (48 + k.natAbs - 48) = _
  omega
theorem num_dig {fin : Nat} {t : Tok} {rest : Tk} {k : Int} (h : k.natAbs ≤ 9) (hw : t.w = dig k) (hk : t.k = kdOf (dig k)) : num fin (t :: rest) = .ok ((k.natAbs : Nat), rest) := by
  have f : fitsN (t :: rest) = true := by
    unfold fitsN
    show (decide (t.k = .number) && (decide (t.w.length ≤ 4) && (decide (t.w = [48]) || !decide (t.w.head? = some 48)))) = true
    rw [hk, dig_kd h, hw]
    by_cases z : k.natAbs = 0
    · rw [show dig k = [48] by unfold dig; rw [z]]
      decide
    · have e : ¬ ((dig k).head? = some 48) := fun e => by
        have := Option.some.inj e
        omega
      rw [decide_eq_false e]
      simp [dig]
  unfold num
  rw [if_pos f]
  show Except.ok (((digs t.w : Nat) : Int), rest) = _
  rw [hw, dig_val h]
theorem wd_app {ts : Tk} {w : Cs} {ws : List Cs} (h : Is ts (w :: ws)) (rest : Tk) : wd (ts ++ rest) = w := by
  obtain ⟨t, ts', rfl, e, _⟩ := h.head
  exact e
def okr (rest : Tk) : Prop := wd rest ≠ [43] ∧ wd rest ≠ [45]
theorem term_atom {fin : Nat} {n : Cs} {k : Int} (a : atomOk n k) {ts rest : Tk} (h : Is ts (atomK n k)) (o : okr rest) : term fin (ts ++ rest) = .ok (n, k, rest) := by
  obtain ⟨hn, hk⟩ := a
  unfold atomK at h
  by_cases z : n = w0
  · rw [if_pos z] at h
    by_cases neg : k < 0
    · rw [if_pos neg] at h
      obtain ⟨t, ts', rfl, e1, e2, h⟩ := h.head
      obtain ⟨t2, rfl, e3, e4⟩ := h.one
      unfold term
      rw [if_pos (show wd (t :: [t2] ++ rest) = [45] from e1)]
      show (match num fin (t2 :: rest) with | .error e => Except.error e | .ok (n, r2) => .ok (w0, -n, r2)) = _
      rw [num_dig hk e3 e4]
      show Except.ok (w0, -((k.natAbs : Nat) : Int), rest) = _
      rw [z, show -((k.natAbs : Nat) : Int) = k by omega]
    · rw [if_neg neg] at h
      obtain ⟨t2, rfl, e3, e4⟩ := h.one
      unfold term
      have ne : ¬ wd ([t2] ++ rest) = [45] := fun e => by
        have e' : t2.w = [45] := e
        rw [e3] at e'
        have := (List.cons.inj e').1
        omega
      rw [if_neg ne, if_pos (show isK .number ([t2] ++ rest) = true by show decide (t2.k = .number) = true; rw [e4, dig_kd hk]; rfl)]
      show (match num fin (t2 :: rest) with | .error e => Except.error e | .ok (n, r2) => .ok (w0, n, r2)) = _
      rw [num_dig hk e3 e4]
      show Except.ok (w0, ((k.natAbs : Nat) : Int), rest) = _
      rw [z, show ((k.natAbs : Nat) : Int) = k by omega]
  · rw [if_neg z] at h
    have nm := hn.resolve_left z
    have first : ∀ (t : Tok) (r : Tk), t.w = n → t.k = kdOf n → term fin (t :: r) = if wd r = [43] then match num fin r.tail with | .error e => .error e | .ok (k, r2) => .ok (n, k, r2)
      else if wd r = [45] then match num fin r.tail with | .error e => .error e | .ok (k, r2) => .ok (n, -k, r2)
      else .ok (n, 0, r) := by
      intro t r e1 e2
      unfold term
      have n1 : ¬ wd (t :: r) = [45] := fun e => name_ne nm (w := [45]) (sg (by decide)) (e1.symm.trans e)
      have n2 : ¬ isK .number (t :: r) = true := fun e => by
        have e' : decide (t.k = .number) = true := e
        rw [e2, name_head nm] at e'
        cases e'
      rw [if_neg n1, if_neg n2]
      unfold taken
      have y : (isK .word (t :: r) && isName (wd (t :: r))) = true := by
        show (decide (t.k = .word) && isName t.w) = true
        rw [e2, name_head nm, e1, name_is nm]
        rfl
      rw [if_pos y]
      show (if wd r = [43] then _ else _) = _
      rw [show wd (t :: r) = n from e1]
      rfl
    by_cases k0 : k = 0
    · rw [if_pos k0] at h
      obtain ⟨t, rfl, e1, e2⟩ := h.one
      show term fin (t :: rest) = _
      rw [first t rest e1 e2, if_neg o.1, if_neg o.2, k0]
    · rw [if_neg k0] at h
      by_cases neg : k < 0
      · rw [if_pos neg] at h
        obtain ⟨t, ts', rfl, e1, e2, h⟩ := h.head
        obtain ⟨t3, ts', rfl, e5, e6, h⟩ := h.head
        obtain ⟨t2, rfl, e3, e4⟩ := h.one
        show term fin (t :: t3 :: t2 :: rest) = _
        rw [first t _ e1 e2, if_neg (show ¬ wd (t3 :: t2 :: rest) = [43] from fun e => by rw [show wd (t3 :: t2 :: rest) = t3.w from rfl, e5] at e; cases e), if_pos (show wd (t3 :: t2 :: rest) = [45] from e5)]
        show (match num fin (t2 :: rest) with | .error e => Except.error e | .ok (k, r2) => .ok (n, -k, r2)) = _
        rw [num_dig hk e3 e4]
        show Except.ok (n, -((k.natAbs : Nat) : Int), rest) = _
        rw [show -((k.natAbs : Nat) : Int) = k by omega]
      · rw [if_neg neg] at h
        obtain ⟨t, ts', rfl, e1, e2, h⟩ := h.head
        obtain ⟨t3, ts', rfl, e5, e6, h⟩ := h.head
        obtain ⟨t2, rfl, e3, e4⟩ := h.one
        show term fin (t :: t3 :: t2 :: rest) = _
        rw [first t _ e1 e2, if_pos (show wd (t3 :: t2 :: rest) = [43] from e5)]
        show (match num fin (t2 :: rest) with | .error e => Except.error e | .ok (k, r2) => .ok (n, k, r2)) = _
        rw [num_dig hk e3 e4]
        show Except.ok (n, ((k.natAbs : Nat) : Int), rest) = _
        rw [show ((k.natAbs : Nat) : Int) = k by omega]
theorem ops_okr {op : Cs} (h : op ∈ ops) (t : Tok) (e : t.w = op) (r : Tk) : okr (t :: r) := by
  unfold okr
  show t.w ≠ [43] ∧ t.w ≠ [45]
  rw [e]
  unfold ops at h
  simp only [List.mem_cons, List.not_mem_nil, or_false] at h
  rcases h with rfl | rfl | rfl | rfl | rfl | rfl <;> exact ⟨by decide, by decide⟩
theorem cmpr_ok {fin : Nat} {op n1 n2 : Cs} {k1 k2 : Int} (ho : op ∈ ops) (a1 : atomOk n1 k1) (a2 : atomOk n2 k2) {ts rest : Tk} (h : Is ts (atomK n1 k1 ++ op :: atomK n2 k2)) (o : okr rest) :
    cmpr fin (ts ++ rest) = .ok (.cmp op n1 k1 n2 k2, rest) := by
  obtain ⟨t1, t2, rfl, h1, h2⟩ := h.split
  obtain ⟨t, t3, rfl, e1, e2, h3⟩ := h2.head
  unfold cmpr
  rw [List.append_assoc, term_atom a1 h1 (show okr (t :: t3 ++ rest) from ops_okr ho t e1 _)]
  dsimp only
  unfold taken
  rw [if_pos (show decide (wd (t :: t3 ++ rest) ∈ ops) = true from decide_eq_true (by show t.w ∈ ops; rw [e1]; exact ho))]
  show (match term fin (t3 ++ rest) with | .error e => Except.error e | .ok (n2, k2, r3) => .ok (Fm.cmp t.w n1 k1 n2 k2, r3)) = _
  rw [term_atom a2 h3 o, e1]
/-! ### what opens no level -/
theorem atom_first {n : Cs} {k : Int} (a : atomOk n k) {ts rest : Tk} (h : Is ts (atomK n k)) : wd (ts ++ rest) ≠ wNot ∧ wd (ts ++ rest) ≠ [40] ∧ isKind (wd (ts ++ rest)) = false := by
  obtain ⟨hn, hk⟩ := a
  have d : dig k ≠ wNot ∧ dig k ≠ [40] ∧ isKind (dig k) = false := by
    refine ⟨fun e => ?_, fun e => ?_, ?_⟩
    · have := (List.cons.inj e).2
      cases this
    · have := (List.cons.inj e).1
      omega
    · unfold isKind
      have l1 : (dig k).length = 1 := rfl
      have e1 : ¬ dig k = wAll := fun e => by rw [e] at l1; cases l1
      have e2 : ¬ dig k = wSome := fun e => by rw [e] at l1; cases l1
      rw [decide_eq_false e1, decide_eq_false e2]
      rfl
  have dd : ([45] : Cs) ≠ wNot ∧ ([45] : Cs) ≠ [40] ∧ isKind [45] = false := ⟨by decide, by decide, by decide⟩
  unfold atomK at h
  by_cases z : n = w0
  · rw [if_pos z] at h
    by_cases neg : k < 0
    · rw [if_pos neg] at h
      rw [wd_app h]
      exact dd
    · rw [if_neg neg] at h
      rw [wd_app h]
      exact d
  · rw [if_neg z] at h
    have nm := hn.resolve_left z
    have dn : n ≠ wNot ∧ n ≠ [40] ∧ isKind n = false := by
      have nr := nm.2.2.2
      unfold resv at nr
      simp only [List.mem_cons, List.not_mem_nil, or_false, not_or] at nr
      refine ⟨nr.2.2.1, name_ne nm (sg (by decide)), ?_⟩
      unfold isKind
      rw [decide_eq_false nr.1, decide_eq_false nr.2.1]
      rfl
    by_cases k0 : k = 0
    · rw [if_pos k0] at h
      rw [wd_app h]
      exact dn
    · rw [if_neg k0] at h
      by_cases neg : k < 0
      · rw [if_pos neg] at h
        rw [wd_app h]
        exact dn
      · rw [if_neg neg] at h
        rw [wd_app h]
        exact dn
theorem atomK_ne (n : Cs) (k : Int) : ∃ w ws, atomK n k = w :: ws := by
  unfold atomK
  split
  · split <;> exact ⟨_, _, rfl⟩
  · split
    · exact ⟨_, _, rfl⟩
    · split <;> exact ⟨_, _, rfl⟩
theorem openL_cmp {fin : Nat} {n : Cs} {k : Int} (a : atomOk n k) {ts rest : Tk} (h : Is ts (atomK n k)) (lv : List Lvl) (bd : List Cs) : openL fin ⟨ts ++ rest, lv, bd⟩ = .ok ⟨ts ++ rest, lv, bd⟩ := by
  obtain ⟨h1, h2, h3⟩ := atom_first a h (rest := rest)
  rw [openL_eq, if_neg h1, if_neg h2, if_neg (by dsimp only; rw [h3]; exact Bool.false_ne_true)]
end Fx
namespace Fx
open PySem
/-! # a formula's words are read -/
/-- what becomes of a level that is whole -/
def leave (fin : Nat) (q : List (Cs × Cs)) (c : Bool) (ls : List Lvl) (r : Tk) (bd : List Cs) (g0 : Fm) : R (Ps ⊕ Fm) :=
  if c = true ∧ wd r ≠ [41] then .error (colT fin r)
  else if c = false ∧ ls = [] ∧ r ≠ [] then .error (colT fin r)
  else
    let g := wraps g0 q.reverse
    let r2 := if c then r.tail else r
    let bd2 := q.reverse.foldl (fun b q => b.filter (fun x => decide (x ≠ q.2))) bd
    if ls = [] then .ok (.inr g) else closedF fin ls r2 bd2 g
def thenR (fin : Nat) : R (Ps ⊕ Fm) → R Fm
  | .error e => .error e
  | .ok (.inr f) => .ok f
  | .ok (.inl s) => run fin s
theorem closed_leave (fin : Nat) (l : Lvl) (ls : List Lvl) (r : Tk) (bd : List Cs) (f : Fm) (h : wd r ≠ wAnd ∧ wd r ≠ wOr) :
    closedF fin (l :: ls) r bd f = leave fin l.qs l.closes ls r bd (rowF wOr (l.ch ++ [rowF wAnd (l.ps ++ [negs l.dn f])])) := by
  show (if wd r = wAnd then _ else if wd r = wOr then _ else _) = _
  rw [if_neg h.1, if_neg h.2]
  rfl
theorem run_of {fin : Nat} {s s1 : Ps} (h : openL fin s = openL fin s1) : run fin s = run fin s1 := by
  rw [run_eq, run_eq, h]
/-- behind an operand -/
def after (fin : Nat) (lv : List Lvl) (r : Tk) (bd : List Cs) (f : Fm) : R Fm := thenR fin (closedF fin lv r bd f)
theorem run_cmp {fin : Nat} {op n1 n2 : Cs} {k1 k2 : Int} (ho : op ∈ ops) (a1 : atomOk n1 k1) (a2 : atomOk n2 k2) {ts rest : Tk} (h : Is ts (atomK n1 k1 ++ op :: atomK n2 k2)) (o : okr rest) (lv : List Lvl) (bd : List Cs) :
    run fin ⟨ts ++ rest, lv, bd⟩ = after fin lv rest bd (.cmp op n1 k1 n2 k2) := by
  have e : openL fin ⟨ts ++ rest, lv, bd⟩ = .ok ⟨ts ++ rest, lv, bd⟩ := by
    obtain ⟨t1, t2, rfl, h1, h2⟩ := h.split
    rw [List.append_assoc]
    exact openL_cmp a1 h1 lv bd
  rw [run_eq, e]
  dsimp only
  rw [cmpr_ok ho a1 a2 h o]
  dsimp only
  unfold after
  cases closedF fin lv rest bd (.cmp op n1 k1 n2 k2) with
  | error z => rfl
  | ok z => cases z <;> rfl
theorem run_not {fin : Nat} {t : Tok} (hw : t.w = wNot) (r : Tk) (lv : List Lvl) (bd : List Cs) : run fin ⟨t :: r, lv, bd⟩ = run fin ⟨r, bump lv, bd⟩ := by
  refine run_of ?_
  rw [openL_eq, if_pos (show wd (t :: r) = wNot from hw)]
  rfl
theorem run_par {fin : Nat} {t : Tok} (hw : t.w = [40]) (r : Tk) (lv : List Lvl) (bd : List Cs) : run fin ⟨t :: r, lv, bd⟩ = run fin ⟨r, newL [] true :: lv, bd⟩ := by
  refine run_of ?_
  rw [openL_eq, if_neg (show ¬ wd (t :: r) = wNot from fun e => by rw [show wd (t :: r) = t.w from rfl, hw] at e; cases e), if_pos (show wd (t :: r) = [40] from hw)]
  rfl
theorem kind_not {w : Cs} (h : w = wAll ∨ w = wSome) : w ≠ wNot ∧ w ≠ [40] ∧ isKind w = true := by
  rcases h with rfl | rfl <;> exact ⟨by decide, by decide, by decide⟩
theorem qloop_names {fin : Nat} {kind : Cs} : ∀ (ns : List Cs) (ts : Tk) (c : Tok) (r : Tk) (bd : List Cs) (found : List (Cs × Cs)), Is ts ns → c.w = [58] → (∀ n ∈ ns, nameOk n) → (bd ++ ns).Nodup → (ns ≠ [] ∨ found ≠ []) →
    qloop fin kind (ts ++ c :: r) bd found = .ok (found ++ ns.map (fun n => (kind, n)), r, bd ++ ns)
  | [], ts, c, r, bd, found, h, hc, _, _, hf => by
    cases h
    have hf : found ≠ [] := hf.resolve_left fun z => z rfl
    show qloop fin kind (c :: r) bd found = _
    unfold qloop
    rw [if_pos ⟨hf, hc⟩]
    simp
  | n :: ns, ts, c, r, bd, found, h, hc, ok, nd, _ => by
    obtain ⟨t, ts', rfl, e1, e2, h'⟩ := h.head
    have hn := ok n List.mem_cons_self
    show qloop fin kind (t :: (ts' ++ c :: r)) bd found = _
    unfold qloop
    have n1 : ¬ (found ≠ [] ∧ t.w = [58]) := fun z => name_ne hn (w := [58]) (sg (by decide)) (e1.symm.trans z.2)
    have out : t.w ∉ bd := by
      rw [e1]
      intro m
      exact (List.nodup_append.mp nd).2.2 n m n List.mem_cons_self rfl
    rw [if_neg n1, if_pos ⟨by rw [e2, name_head hn], by rw [e1]; exact name_is hn, out⟩, e1]
    rw [qloop_names ns ts' c r (bd ++ [n]) (found ++ [(kind, n)]) h' hc (fun x hx => ok x (List.mem_cons_of_mem _ hx)) (by rw [List.append_assoc]; exact nd) (.inr (by simp))]
    simp
theorem unbind : ∀ (ns bd : List Cs) (w : Cs), (bd ++ ns).Nodup → ((ns.map fun n => (w, n)).reverse.foldl (fun b (q : Cs × Cs) => b.filter (fun x => decide (x ≠ q.2))) (bd ++ ns)) = bd
  | [], bd, w, _ => by simp
  | n :: ns, bd, w, nd => by
    have e : bd ++ n :: ns = (bd ++ [n]) ++ ns := by simp
    rw [List.map_cons, List.reverse_cons, List.foldl_append, e, unbind ns (bd ++ [n]) w (e ▸ nd)]
    show ((bd ++ [n]).filter fun x => decide (x ≠ n)) = bd
    have out : n ∉ bd := fun m => (List.nodup_append.mp nd).2.2 n m n List.mem_cons_self rfl
    rw [List.filter_append]
    have f1 : bd.filter (fun x => decide (x ≠ n)) = bd := List.filter_eq_self.mpr fun x hx => decide_eq_true fun z => out (z ▸ hx)
    have f2 : [n].filter (fun x => decide (x ≠ n)) = [] := by simp
    rw [f1, f2, List.append_nil]
/-- the names of a block and what is behind them -/
def strip (w : Cs) : Fm → List Cs × Fm
  | .qu w' n f => if w' = w then (n :: (strip w f).1, (strip w f).2) else ([], .qu w' n f)
  | .cmp a b c d e => ([], .cmp a b c d e)
  | .neg f => ([], .neg f)
  | .row a b => ([], .row a b)
theorem tk_qu (m : Md) (w n : Cs) (f : Fm) : tk m (.qu w n f) = (if m = .blk w then [n] else opn m ++ [w, n]) ++ (tk (.blk w) f ++ cls m) := by rw [tk]
theorem tk_neg (m : Md) (f : Fm) : tk m (.neg f) = pre m ++ wNot :: tk .enc f := by rw [tk]
theorem tk_row (m : Md) (w : Cs) (fs : List Fm) : tk m (.row w fs) = opn m ++ (tj w fs ++ cls m) := by rw [tk]
theorem tk_cmp (m : Md) (op n1 n2 : Cs) (k1 k2 : Int) : tk m (.cmp op n1 k1 n2 k2) = pre m ++ (atomK n1 k1 ++ op :: atomK n2 k2) := by rw [tk]
theorem tj_cons (w : Cs) (f : Fm) (fs : List Fm) : tj w (f :: fs) = tk .enc f ++ (if fs.isEmpty then [] else w :: tj w fs) := by rw [tj]
theorem strip_qu (w w' n : Cs) (f : Fm) : strip w (.qu w' n f) = if w' = w then (n :: (strip w f).1, (strip w f).2) else ([], .qu w' n f) := by rw [strip]
theorem tk_strip (w : Cs) : ∀ f : Fm, tk (.blk w) f = (strip w f).1 ++ [58] :: tk .top (strip w f).2
  | .cmp .. => rfl
  | .neg _ => rfl
  | .row .. => rfl
  | .qu w' n f => by
    rw [tk_qu, strip_qu]
    by_cases h : w' = w
    · subst h
      rw [if_pos rfl, if_pos rfl]
      show [n] ++ (tk (.blk w') f ++ []) = (n :: (strip w' f).1) ++ [58] :: tk .top (strip w' f).2
      rw [List.append_nil, tk_strip w' f]
      rfl
    · rw [if_neg h, if_neg (fun e => h (Md.blk.inj e).symm)]
      show ([[58]] ++ [w', n]) ++ (tk (.blk w') f ++ []) = [] ++ [58] :: tk .top (.qu w' n f)
      rw [tk_qu, if_neg (by intro z; cases z)]
      rfl
theorem sz_strip (w : Cs) : ∀ f : Fm, sz (strip w f).2 ≤ sz f
  | .cmp .. => Nat.le_refl _
  | .neg _ => Nat.le_refl _
  | .row .. => Nat.le_refl _
  | .qu w' n f => by
    rw [strip_qu]
    by_cases h : w' = w
    · rw [if_pos h]
      have := sz_strip w f
      show sz (strip w f).2 ≤ sz f + 1
      omega
    · rw [if_neg h]
      exact Nat.le_refl _
theorem wraps_strip (w : Cs) : ∀ f : Fm, wraps (strip w f).2 ((strip w f).1.map fun n => (w, n)).reverse = f
  | .cmp .. => rfl
  | .neg _ => rfl
  | .row .. => rfl
  | .qu w' n f => by
    rw [strip_qu]
    by_cases h : w' = w
    · subst h
      rw [if_pos rfl]
      show wraps (strip w' f).2 (((w', n) :: (strip w' f).1.map fun n => (w', n)).reverse) = _
      rw [List.reverse_cons]
      have ap : ∀ (a b : List (Cs × Cs)) (g : Fm), wraps g (a ++ b) = wraps (wraps g a) b := by
        intro a
        induction a with
        | nil => intro b g; rfl
        | cons x a ih => intro b g; exact ih b _
      rw [ap, wraps_strip w' f]
      rfl
    · rw [if_neg h]
      rfl
theorem wf_strip {w : Cs} : ∀ (f : Fm) (bd : List Cs), bd.Nodup → wf bd f → (∀ n ∈ (strip w f).1, nameOk n) ∧ (bd ++ (strip w f).1).Nodup ∧ wf (bd ++ (strip w f).1) (strip w f).2
  | .cmp .., bd, nd, h => ⟨fun n hn => absurd hn List.not_mem_nil, by simpa [strip] using nd, by simpa [strip] using h⟩
  | .neg _, bd, nd, h => ⟨fun n hn => absurd hn List.not_mem_nil, by simpa [strip] using nd, by simpa [strip] using h⟩
  | .row .., bd, nd, h => ⟨fun n hn => absurd hn List.not_mem_nil, by simpa [strip] using nd, by simpa [strip] using h⟩
  | .qu w' n f, bd, nd, h => by
    rw [strip_qu]
    by_cases e : w' = w
    · rw [if_pos e]
      obtain ⟨_, hn, hb, hf⟩ := h
      have nd2 : (bd ++ [n]).Nodup := List.nodup_append.mpr ⟨nd, by simp, fun x hx y hy e => by
        rw [List.mem_singleton] at hy
        subst hy
        exact hb (e ▸ hx)⟩
      obtain ⟨a, b, c⟩ := wf_strip f (bd ++ [n]) nd2 hf
      refine ⟨fun x hx => (List.mem_cons.mp hx).elim (fun z => z ▸ hn) (a x), ?_, ?_⟩
      · rw [List.append_assoc] at b
        exact b
      · rw [List.append_assoc] at c
        exact c
    · rw [if_neg e]
      exact ⟨fun n hn => absurd hn List.not_mem_nil, by simpa using nd, by simpa using h⟩
theorem run_quants {fin : Nat} {w n : Cs} (hw : w = wAll ∨ w = wSome) {f : Fm} {bd : List Cs} (nd : bd.Nodup) (h : wf bd (.qu w n f)) {ts : Tk} (hi : Is ts (w :: n :: (strip w f).1 ++ [58] :: tk .top (strip w f).2)) (lv : List Lvl) :
    ∃ t0 ts2, ts = t0 ++ ts2 ∧ Is ts2 (tk .top (strip w f).2) ∧ ∀ ts3, run fin ⟨t0 ++ ts3, lv, bd⟩ = run fin ⟨ts3, newL ((n :: (strip w f).1).map fun n => (w, n)) false :: lv, bd ++ n :: (strip w f).1⟩ := by
  obtain ⟨_, hn, hb, hf⟩ := h
  have nd2 : (bd ++ [n]).Nodup := List.nodup_append.mpr ⟨nd, by simp, fun x hx y hy e => by
    rw [List.mem_singleton] at hy
    subst hy
    exact hb (e ▸ hx)⟩
  obtain ⟨a, b, c⟩ := wf_strip (w := w) f (bd ++ [n]) nd2 hf
  rw [List.append_assoc] at b
  obtain ⟨t, ts', rfl, e1, e2, h'⟩ := Is.head (ws := n :: (strip w f).1 ++ [58] :: tk .top (strip w f).2) hi
  obtain ⟨tn, tb, rfl, i1, i2⟩ := Is.split (a := n :: (strip w f).1) h'
  obtain ⟨c1, ts2, rfl, e3, _, i3⟩ := i2.head
  obtain ⟨k1, k2, k3⟩ := kind_not hw
  refine ⟨t :: (tn ++ [c1]), ts2, by simp, i3, fun ts3 => ?_⟩
  refine run_of ?_
  rw [openL_eq]
  have e0 : wd (t :: (tn ++ [c1]) ++ ts3) = w := e1
  rw [if_neg (by dsimp only; rw [e0]; exact k1), if_neg (by dsimp only; rw [e0]; exact k2), if_pos (by dsimp only; rw [e0]; exact k3)]
  dsimp only
  rw [e0]
  have et : (t :: (tn ++ [c1]) ++ ts3).tail = tn ++ c1 :: ts3 := by simp
  rw [et, qloop_names (n :: (strip w f).1) tn c1 ts3 bd [] i1 e3 (fun x hx => (List.mem_cons.mp hx).elim (fun z => z ▸ hn) (a x)) b (.inl (List.cons_ne_nil _ _))]
  rfl
theorem strip_ok {w n : Cs} {f : Fm} {bd : List Cs} (nd : bd.Nodup) (h : wf bd (.qu w n f)) : (bd ++ n :: (strip w f).1).Nodup ∧ wf (bd ++ n :: (strip w f).1) (strip w f).2 := by
  obtain ⟨_, hn, hb, hf⟩ := h
  have nd2 : (bd ++ [n]).Nodup := List.nodup_append.mpr ⟨nd, by simp, fun x hx y hy e => by
    rw [List.mem_singleton] at hy
    subst hy
    exact hb (e ▸ hx)⟩
  obtain ⟨a, b, c⟩ := wf_strip (w := w) f (bd ++ [n]) nd2 hf
  rw [List.append_assoc] at b c
  exact ⟨b, c⟩
end Fx
namespace Fx
open PySem
def nao (r : Tk) : Prop := wd r ≠ wAnd ∧ wd r ≠ wOr
def PA (fin : Nat) (f : Fm) : Prop := ∀ (bd : List Cs) (ts rest : Tk) (l : Lvl) (ls : List Lvl), bd.Nodup → wf bd f → Is ts (tk .enc f) → okr rest → run fin ⟨ts ++ rest, l :: ls, bd⟩ = after fin (l :: ls) rest bd f
def PB (fin : Nat) (f : Fm) : Prop := ∀ (bd : List Cs) (ts rest : Tk) (q : List (Cs × Cs)) (c : Bool) (ls : List Lvl), bd.Nodup → wf bd f → Is ts (tk .top f) → okr rest → nao rest → run fin ⟨ts ++ rest, newL q c :: ls, bd⟩ = thenR fin (leave fin q c ls rest bd f)
def PC (fin : Nat) (f : Fm) : Prop := ∀ (bd : List Cs) (ts : Tk) (t : Tok) (l : Lvl) (ls : List Lvl), bd.Nodup → wf bd f → Is (ts ++ [t]) (tk .enc f) → run fin ⟨ts, l :: ls, bd⟩ = .error fin
def PD (fin : Nat) (f : Fm) : Prop := ∀ (bd : List Cs) (ts : Tk) (t : Tok) (q : List (Cs × Cs)) (c : Bool) (ls : List Lvl), bd.Nodup → wf bd f → Is (ts ++ [t]) (tk .top f) → run fin ⟨ts, newL q c :: ls, bd⟩ = .error fin
theorem b_of_a {fin : Nat} {f : Fm} (e : tk .top f = tk .enc f) (a : PA fin f) : PB fin f := by
  intro bd ts rest q c ls nd h hi o n
  rw [e] at hi
  rw [a bd ts rest _ ls nd h hi o]
  unfold after
  rw [closed_leave _ _ _ _ _ _ n]
  rfl
theorem rowF_two (w : Cs) {fs : List Fm} (h : 2 ≤ fs.length) : rowF w fs = .row w fs := by
  match fs, h with
  | _ :: _ :: _, _ => rfl
theorem and_ok {t : Tok} (h : t.w = wAnd ∨ t.w = wOr) (r : Tk) : okr (t :: r) := by
  unfold okr
  show t.w ≠ [43] ∧ t.w ≠ [45]
  rcases h with e | e <;> rw [e] <;> exact ⟨by decide, by decide⟩
theorem par_ok {t : Tok} (h : t.w = [41]) (r : Tk) : okr (t :: r) ∧ nao (t :: r) := by
  unfold okr nao
  show (t.w ≠ [43] ∧ t.w ≠ [45]) ∧ t.w ≠ wAnd ∧ t.w ≠ wOr
  rw [h]
  exact ⟨⟨by decide, by decide⟩, by decide, by decide⟩
theorem nil_ok : okr [] ∧ nao [] := ⟨⟨by decide, by decide⟩, by decide, by decide⟩
theorem row_and {fin : Nat} {bd : List Cs} (nd : bd.Nodup) {rest : Tk} (o : okr rest) (n : nao rest) (q : List (Cs × Cs)) (c : Bool) (ls : List Lvl) : ∀ (fs : List Fm) (ts : Tk) (pr : List Fm), fs ≠ [] → (∀ f ∈ fs, PA fin f) → wfs bd fs → Is ts (tj wAnd fs) →
    run fin ⟨ts ++ rest, { newL q c with ps := pr } :: ls, bd⟩ = thenR fin (leave fin q c ls rest bd (rowF wAnd (pr ++ fs)))
  | [], _, _, h, _, _, _ => absurd rfl h
  | [f], ts, pr, _, ih, hw, hi => by
    rw [tj_cons] at hi
    have hi' : Is ts (tk .enc f) := by simpa using hi
    rw [ih f List.mem_cons_self bd ts rest _ ls nd hw.1 hi' o]
    unfold after
    rw [closed_leave _ _ _ _ _ _ n]
    rfl
  | f :: g :: fs, ts, pr, _, ih, hw, hi => by
    rw [tj_cons] at hi
    have hi' : Is ts (tk .enc f ++ wAnd :: tj wAnd (g :: fs)) := hi
    obtain ⟨t1, t2, rfl, i1, i2⟩ := hi'.split
    obtain ⟨t, t3, rfl, e1, _, i3⟩ := i2.head
    rw [List.append_assoc, ih f List.mem_cons_self bd t1 (t :: t3 ++ rest) _ ls nd hw.1 i1 (and_ok (.inl e1) _)]
    unfold after
    have st : closedF fin ({ newL q c with ps := pr } :: ls) (t :: t3 ++ rest) bd f = .ok (.inl ⟨t3 ++ rest, { newL q c with ps := pr ++ [f] } :: ls, bd⟩) := by
      show (if wd (t :: t3 ++ rest) = wAnd then _ else _) = _
      rw [if_pos (show wd (t :: t3 ++ rest) = wAnd from e1)]
      rfl
    rw [st]
    show run fin ⟨t3 ++ rest, _, bd⟩ = _
    rw [row_and nd o n q c ls (g :: fs) t3 (pr ++ [f]) (List.cons_ne_nil _ _) (fun x hx => ih x (List.mem_cons_of_mem _ hx)) hw.2 i3, List.append_assoc]
    rfl
theorem row_or {fin : Nat} {bd : List Cs} (nd : bd.Nodup) {rest : Tk} (o : okr rest) (n : nao rest) (q : List (Cs × Cs)) (c : Bool) (ls : List Lvl) : ∀ (fs : List Fm) (ts : Tk) (pr : List Fm), fs ≠ [] → (∀ f ∈ fs, PA fin f) → wfs bd fs → Is ts (tj wOr fs) →
    run fin ⟨ts ++ rest, { newL q c with ch := pr } :: ls, bd⟩ = thenR fin (leave fin q c ls rest bd (rowF wOr (pr ++ fs)))
  | [], _, _, h, _, _, _ => absurd rfl h
  | [f], ts, pr, _, ih, hw, hi => by
    rw [tj_cons] at hi
    have hi' : Is ts (tk .enc f) := by simpa using hi
    rw [ih f List.mem_cons_self bd ts rest _ ls nd hw.1 hi' o]
    unfold after
    rw [closed_leave _ _ _ _ _ _ n]
    rfl
  | f :: g :: fs, ts, pr, _, ih, hw, hi => by
    rw [tj_cons] at hi
    have hi' : Is ts (tk .enc f ++ wOr :: tj wOr (g :: fs)) := hi
    obtain ⟨t1, t2, rfl, i1, i2⟩ := hi'.split
    obtain ⟨t, t3, rfl, e1, _, i3⟩ := i2.head
    rw [List.append_assoc, ih f List.mem_cons_self bd t1 (t :: t3 ++ rest) _ ls nd hw.1 i1 (and_ok (.inr e1) _)]
    unfold after
    have st : closedF fin ({ newL q c with ch := pr } :: ls) (t :: t3 ++ rest) bd f = .ok (.inl ⟨t3 ++ rest, { newL q c with ch := pr ++ [f] } :: ls, bd⟩) := by
      show (if wd (t :: t3 ++ rest) = wAnd then _ else if wd (t :: t3 ++ rest) = wOr then _ else _) = _
      rw [if_neg (show ¬ wd (t :: t3 ++ rest) = wAnd from fun z => by rw [show wd (t :: t3 ++ rest) = t.w from rfl, e1] at z; cases z), if_pos (show wd (t :: t3 ++ rest) = wOr from e1)]
      rfl
    rw [st]
    show run fin ⟨t3 ++ rest, _, bd⟩ = _
    rw [row_or nd o n q c ls (g :: fs) t3 (pr ++ [f]) (List.cons_ne_nil _ _) (fun x hx => ih x (List.mem_cons_of_mem _ hx)) hw.2 i3, List.append_assoc]
    rfl
theorem row_top {fin : Nat} {bd : List Cs} (nd : bd.Nodup) {rest : Tk} (o : okr rest) (n : nao rest) (q : List (Cs × Cs)) (c : Bool) (ls : List Lvl) {w : Cs} {fs : List Fm} {ts : Tk} (h : wf bd (.row w fs)) (ih : ∀ f ∈ fs, PA fin f) (hi : Is ts (tj w fs)) :
    run fin ⟨ts ++ rest, newL q c :: ls, bd⟩ = thenR fin (leave fin q c ls rest bd (.row w fs)) := by
  obtain ⟨hw, h2, hs⟩ := h
  have ne : fs ≠ [] := fun z => by rw [z] at h2; cases h2
  rcases hw with rfl | rfl
  · have := row_and nd o n q c ls fs ts [] ne ih hs hi
    rw [List.nil_append, rowF_two _ h2] at this
    exact this
  · have := row_or nd o n q c ls fs ts [] ne ih hs hi
    rw [List.nil_append, rowF_two _ h2] at this
    exact this
/-- a whole formula in parentheses -/
theorem par_read {fin : Nat} {bd : List Cs} {t t2 : Tok} {ts rest : Tk} {f : Fm} (h1 : t.w = [40]) (h2 : t2.w = [41]) (l : Lvl) (ls : List Lvl) (b : run fin ⟨ts ++ t2 :: rest, newL [] true :: l :: ls, bd⟩ = thenR fin (leave fin [] true (l :: ls) (t2 :: rest) bd f)) :
    run fin ⟨t :: (ts ++ t2 :: rest), l :: ls, bd⟩ = after fin (l :: ls) rest bd f := by
  rw [run_par h1, b]
  unfold leave
  rw [if_neg (show ¬ (true = true ∧ wd (t2 :: rest) ≠ [41]) from fun z => z.2 h2), if_neg (fun z => Bool.noConfusion z.1)]
  rfl
theorem par_cut {fin : Nat} {bd : List Cs} {t : Tok} {ts : Tk} {f : Fm} (h1 : t.w = [40]) (l : Lvl) (ls : List Lvl) (b : run fin ⟨ts ++ [], newL [] true :: l :: ls, bd⟩ = thenR fin (leave fin [] true (l :: ls) [] bd f)) :
    run fin ⟨t :: ts, l :: ls, bd⟩ = .error fin := by
  rw [List.append_nil] at b
  rw [run_par h1, b]
  unfold leave
  rw [if_pos ⟨rfl, by decide⟩]
  rfl
theorem quants_leave {fin : Nat} {w n : Cs} {f : Fm} {bd : List Cs} (nd : bd.Nodup) (h : wf bd (.qu w n f)) {rest : Tk} (na : nao rest) (q : List (Cs × Cs)) (c : Bool) (ls : List Lvl) :
    thenR fin (leave fin ((n :: (strip w f).1).map fun n => (w, n)) false (newL q c :: ls) rest (bd ++ n :: (strip w f).1) (strip w f).2) = thenR fin (leave fin q c ls rest bd (.qu w n f)) := by
  have e1 : leave fin ((n :: (strip w f).1).map fun n => (w, n)) false (newL q c :: ls) rest (bd ++ n :: (strip w f).1) (strip w f).2 = closedF fin (newL q c :: ls) rest bd (.qu w n f) := by
    conv => lhs; unfold leave
    rw [if_neg (fun z => Bool.noConfusion z.1), if_neg (fun z => nomatch z.2.1)]
    dsimp only
    rw [if_neg (List.cons_ne_nil _ _), unbind _ _ _ (strip_ok nd h).1]
    have := wraps_strip w (.qu w n f)
    rw [strip_qu, if_pos rfl] at this
    rw [this]
    rfl
  rw [e1, closed_leave _ _ _ _ _ _ na]
  rfl
theorem read_all (fin : Nat) : ∀ (N : Nat) (f : Fm), sz f ≤ N → PA fin f ∧ PB fin f := by
  intro N
  induction N with
  | zero =>
    intro f h
    cases f <;> simp only [sz] at h <;> omega
  | succ N ih =>
    intro f hz
    cases f with
    | cmp op n1 k1 n2 k2 =>
      have a : PA fin (.cmp op n1 k1 n2 k2) := fun bd ts rest l ls nd h hi o => by
        rw [tk_cmp] at hi
        exact run_cmp h.1 h.2.1 h.2.2 hi o _ _
      exact ⟨a, b_of_a (by rw [tk_cmp, tk_cmp]; rfl) a⟩
    | neg g =>
      have hg := ih g (by simp only [sz] at hz; omega)
      have a : PA fin (.neg g) := fun bd ts rest l ls nd h hi o => by
        rw [tk_neg] at hi
        obtain ⟨t, t3, rfl, e1, _, i3⟩ := Is.head hi
        show run fin ⟨t :: (t3 ++ rest), l :: ls, bd⟩ = _
        rw [run_not e1]
        show run fin ⟨t3 ++ rest, { l with dn := l.dn + 1 } :: ls, bd⟩ = _
        rw [hg.1 bd t3 rest _ ls nd h i3 o]
        rfl
      exact ⟨a, b_of_a (by rw [tk_neg, tk_neg]; rfl) a⟩
    | row w fs =>
      have hs : ∀ f ∈ fs, PA fin f := by
        have hz' : szs fs ≤ N := by simp only [sz] at hz; omega
        have le : ∀ (fs : List Fm), szs fs ≤ N → ∀ f ∈ fs, sz f ≤ N := by
          intro fs
          induction fs with
          | nil => intro _ f hf; cases hf
          | cons x xs ihx =>
            intro hh f hf
            simp only [szs] at hh
            rcases List.mem_cons.mp hf with e | m
            · subst e; omega
            · exact ihx (by omega) f m
        exact fun f hf => (ih f (le fs hz' f hf)).1
      refine ⟨fun bd ts rest l ls nd h hi o => ?_, fun bd ts rest q c ls nd h hi o n => ?_⟩
      · rw [tk_row] at hi
        obtain ⟨t, t3, rfl, e1, _, i3⟩ := Is.head (ws := tj w fs ++ [[41]]) hi
        obtain ⟨t4, t5, rfl, i4, i5⟩ := i3.split
        obtain ⟨t6, rfl, e6, _⟩ := i5.one
        have p := par_ok e6 rest
        show run fin ⟨t :: (t4 ++ [t6] ++ rest), l :: ls, bd⟩ = _
        rw [List.append_assoc]
        exact par_read e1 e6 l ls (row_top nd p.1 p.2 [] true (l :: ls) h hs i4)
      · rw [tk_row] at hi
        have hi' : Is ts (tj w fs) := by simpa [opn, cls] using hi
        exact row_top nd o n q c ls h hs hi'
    | qu w n g =>
      have body := ih (strip w g).2 (by have := sz_strip w g; simp only [sz] at hz; omega)
      have b : PB fin (.qu w n g) := fun bd ts rest q c ls nd h hi o na => by
        rw [tk_qu, if_neg (by intro z; cases z), tk_strip] at hi
        have hi' : Is ts (w :: n :: (strip w g).1 ++ [58] :: tk .top (strip w g).2) := by simpa [opn, cls] using hi
        obtain ⟨t0, ts2, rfl, i2, hr⟩ := run_quants h.1 nd h hi' (newL q c :: ls)
        obtain ⟨nd2, w2⟩ := strip_ok nd h
        rw [List.append_assoc, hr, body.2 _ ts2 rest _ _ _ nd2 w2 i2 o na]
        exact quants_leave nd h na q c ls
      refine ⟨fun bd ts rest l ls nd h hi o => ?_, b⟩
      rw [tk_qu, if_neg (by intro z; cases z)] at hi
      obtain ⟨t, t3, rfl, e1, _, i3⟩ := Is.head (ws := [w, n] ++ (tk (.blk w) g ++ [[41]])) hi
      rw [← List.append_assoc] at i3
      obtain ⟨t4, t5, rfl, i4, i5⟩ := i3.split
      obtain ⟨t6, rfl, e6, _⟩ := i5.one
      have p := par_ok e6 rest
      show run fin ⟨t :: (t4 ++ [t6] ++ rest), l :: ls, bd⟩ = _
      rw [List.append_assoc]
      refine par_read e1 e6 l ls (b bd t4 _ [] true (l :: ls) nd h ?_ p.1 p.2)
      rw [tk_qu, if_neg (by intro z; cases z)]
      simpa [opn, cls] using i4
/-! ### the last word is missing -/
theorem term_cut {fin : Nat} {n : Cs} {k : Int} (a : atomOk n k) {ts : Tk} {t : Tok} (h : Is (ts ++ [t]) (atomK n k)) : term fin ts = .error fin := by
  have t0 : term fin [] = .error fin := rfl
  have len := h.len
  unfold atomK at h len
  have two : ∀ {d : Cs}, Is (ts ++ [t]) [[45], d] → term fin ts = .error fin := fun {d} h => by
    obtain ⟨t1, r, e, e1, _, _⟩ := h.head
    have l2 := h.len
    have l3 : ts.length = 1 := by simpa using l2
    obtain ⟨x, rfl⟩ : ∃ x, ts = [x] := match ts, l3 with | [x], _ => ⟨x, rfl⟩
    have ex : x = t1 := (List.cons.inj e).1
    subst ex
    unfold term
    rw [if_pos (show wd [x] = [45] from e1)]
    rfl
  by_cases z : n = w0
  · rw [if_pos z] at h len
    by_cases neg : k < 0
    · rw [if_pos neg] at h
      exact two h
    · rw [if_neg neg] at h len
      have z0 : ts = [] := List.length_eq_zero_iff.mp (by simpa using len)
      subst z0
      exact t0
  · rw [if_neg z] at h len
    have nm := a.1.resolve_left z
    by_cases k0 : k = 0
    · rw [if_pos k0] at h len
      have z0 : ts = [] := List.length_eq_zero_iff.mp (by simpa using len)
      subst z0
      exact t0
    · rw [if_neg k0] at h len
      have three : ∀ {s d : Cs}, s = [45] ∨ s = [43] → Is (ts ++ [t]) [n, s, d] → term fin ts = .error fin := fun {s d} hs h => by
        obtain ⟨t1, r, e, e1, e2, h'⟩ := h.head
        obtain ⟨t2, r2, er, e3, e4, _⟩ := h'.head
        have l2 := h.len
        subst er
        have l3 : ts.length = 2 := by simpa using l2
        obtain ⟨x, y, rfl⟩ : ∃ x y, ts = [x, y] := match ts, l3 with | [x, y], _ => ⟨x, y, rfl⟩
        have ex : x = t1 := (List.cons.inj e).1
        have ey : y = t2 := (List.cons.inj (List.cons.inj e).2).1
        subst ex ey
        unfold term
        have n1 : ¬ wd [x, y] = [45] := fun e => name_ne nm (w := [45]) (sg (by decide)) (e1.symm.trans e)
        have n2 : ¬ isK .number [x, y] = true := fun e => by
          have e' : decide (x.k = .number) = true := e
          rw [e2, name_head nm] at e'
          cases e'
        rw [if_neg n1, if_neg n2]
        unfold taken
        have yy : (isK .word [x, y] && isName (wd [x, y])) = true := by
          show (decide (x.k = .word) && isName x.w) = true
          rw [e2, name_head nm, e1, name_is nm]
          rfl
        rw [if_pos yy]
        show (if y.w = [43] then _ else _) = _
        rw [e3]
        rcases hs with rfl | rfl
        · rw [if_neg (by decide : ¬ ([45] : Cs) = [43]), if_pos (show wd [x, y].tail = [45] from e3)]
          rfl
        · rw [if_pos rfl]
          rfl
      by_cases neg : k < 0
      · rw [if_pos neg] at h
        exact three (.inl rfl) h
      · rw [if_neg neg] at h
        exact three (.inr rfl) h
theorem snoc_split {a b : Tk} {ts : Tk} {t : Tok} (h : ts ++ [t] = a ++ b) (hb : b ≠ []) : ∃ b', b = b' ++ [t] ∧ ts = a ++ b' := by
  obtain ⟨b', x, rfl⟩ : ∃ b' x, b = b' ++ [x] := ⟨b.dropLast, b.getLast hb, (List.dropLast_concat_getLast hb).symm⟩
  rw [← List.append_assoc] at h
  have e := List.append_inj' h rfl
  obtain rfl : t = x := by simpa using e.2
  exact ⟨b', rfl, e.1⟩
theorem Is.ne {ts : Tk} {w : Cs} {ws : List Cs} (h : Is ts (w :: ws)) : ts ≠ [] := fun z => by
  subst z
  cases h
theorem tk_ne (m : Md) (f : Fm) : (∃ bd, wf bd f) → tk m f ≠ [] := by
  intro ⟨bd, h⟩
  cases f with
  | cmp op n1 k1 n2 k2 =>
    rw [tk_cmp]
    simp
  | neg g =>
    rw [tk_neg]
    simp
  | row w fs =>
    rw [tk_row]
    obtain ⟨_, h2, hs⟩ := h
    match fs, h2 with
    | a :: b :: r, _ =>
      rw [tj_cons]
      simp
  | qu w n g =>
    rw [tk_qu]
    split <;> simp
theorem row_cut {fin : Nat} {bd : List Cs} (nd : bd.Nodup) {w : Cs} (hw : w = wAnd ∨ w = wOr) : ∀ (fs : List Fm) (ts : Tk) (t : Tok) (l : Lvl) (ls : List Lvl), fs ≠ [] → (∀ f ∈ fs, PA fin f ∧ PC fin f) → wfs bd fs → Is (ts ++ [t]) (tj w fs) → run fin ⟨ts, l :: ls, bd⟩ = .error fin
  | [], _, _, _, _, h, _, _, _ => absurd rfl h
  | [f], ts, t, l, ls, _, ih, hf, hi => by
    rw [tj_cons] at hi
    have hi' : Is (ts ++ [t]) (tk .enc f) := by simpa using hi
    exact (ih f List.mem_cons_self).2 bd ts t l ls nd hf.1 hi'
  | f :: g :: fs, ts, t, l, ls, _, ih, hf, hi => by
    rw [tj_cons] at hi
    have hi' : Is (ts ++ [t]) (tk .enc f ++ w :: tj w (g :: fs)) := hi
    obtain ⟨t1, t2, e, i1, i2⟩ := hi'.split
    obtain ⟨x, t3, rfl, e1, _, i3⟩ := i2.head
    have n3 : t3 ≠ [] := fun z => by
      subst z
      have l1 := i3.len
      have p1 := List.length_pos_iff.mpr (tk_ne .enc g ⟨bd, hf.2.1⟩)
      rw [tj_cons, List.length_append, List.length_nil] at l1
      omega
    obtain ⟨b', eb, rfl⟩ := snoc_split e (List.cons_ne_nil _ _)
    obtain ⟨t3', rfl, rfl⟩ := snoc_split (a := [x]) (b := t3) (ts := b') (t := t) eb.symm n3
    show run fin ⟨t1 ++ x :: t3', l :: ls, bd⟩ = _
    have hx : x.w = wAnd ∨ x.w = wOr := by rw [e1]; exact hw
    rw [(ih f List.mem_cons_self).1 bd t1 (x :: t3') l ls nd hf.1 i1 (and_ok hx _)]
    unfold after
    have step : ∃ l', closedF fin (l :: ls) (x :: t3') bd f = .ok (.inl ⟨t3', l' :: ls, bd⟩) := by
      show ∃ l', (if wd (x :: t3') = wAnd then _ else if wd (x :: t3') = wOr then _ else _) = _
      rcases hx with z | z
      · rw [if_pos (show wd (x :: t3') = wAnd from z)]
        exact ⟨_, rfl⟩
      · rw [if_neg (show ¬ wd (x :: t3') = wAnd from fun y => by rw [show wd (x :: t3') = x.w from rfl, z] at y; cases y), if_pos (show wd (x :: t3') = wOr from z)]
        exact ⟨_, rfl⟩
    obtain ⟨l', st⟩ := step
    rw [st]
    exact row_cut nd hw (g :: fs) t3' t l' ls (List.cons_ne_nil _ _) (fun y hy => ih y (List.mem_cons_of_mem _ hy)) hf.2 i3
theorem cut_all (fin : Nat) : ∀ (N : Nat) (f : Fm), sz f ≤ N → PC fin f ∧ PD fin f := by
  intro N
  induction N with
  | zero =>
    intro f h
    cases f <;> simp only [sz] at h <;> omega
  | succ N ih =>
    intro f hz
    have same : ∀ f, tk .top f = tk .enc f → PC fin f → PD fin f := fun f e c bd ts t q c' ls nd h hi => c bd ts t _ ls nd h (e ▸ hi)
    cases f with
    | cmp op n1 k1 n2 k2 =>
      have a : PC fin (.cmp op n1 k1 n2 k2) := fun bd ts t l ls nd h hi => by
        rw [tk_cmp] at hi
        obtain ⟨ho, a1, a2⟩ := h
        obtain ⟨t1, t2, e, i1, i2⟩ := Is.split (a := atomK n1 k1) (b := op :: atomK n2 k2) hi
        obtain ⟨x, t3, rfl, e1, _, i3⟩ := i2.head
        have n3 : t3 ≠ [] := by
          obtain ⟨w, ws, ew⟩ := atomK_ne n2 k2
          rw [ew] at i3
          exact i3.ne
        obtain ⟨b', eb, rfl⟩ := snoc_split e (List.cons_ne_nil _ _)
        obtain ⟨t3', rfl, rfl⟩ := snoc_split (a := [x]) (b := t3) (ts := b') (t := t) eb.symm n3
        show run fin ⟨t1 ++ x :: t3', l :: ls, bd⟩ = _
        rw [run_eq, openL_cmp a1 i1]
        dsimp only
        unfold cmpr
        rw [term_atom a1 i1 (ops_okr ho x e1 _)]
        dsimp only
        unfold taken
        rw [if_pos (show decide (wd (x :: t3') ∈ ops) = true from decide_eq_true (by show x.w ∈ ops; rw [e1]; exact ho))]
        show (match (match term fin t3' with | .error e => Except.error e | .ok (n2, k2, r3) => .ok (Fm.cmp x.w n1 k1 n2 k2, r3)) with | .error e => Except.error e | .ok (c, r2) => _) = _
        rw [term_cut a2 i3]
      exact ⟨a, same _ (by rw [tk_cmp, tk_cmp]; rfl) a⟩
    | neg g =>
      have hg := ih g (by simp only [sz] at hz; omega)
      have a : PC fin (.neg g) := fun bd ts t l ls nd h hi => by
        rw [tk_neg] at hi
        obtain ⟨x, t3, e, e1, _, i3⟩ := Is.head (w := wNot) (ws := tk .enc g) hi
        have n3 : t3 ≠ [] := fun z => by
          subst z
          have l1 := i3.len
          have p1 := List.length_pos_iff.mpr (tk_ne .enc g ⟨bd, h⟩)
          rw [List.length_nil] at l1
          omega
        obtain ⟨t3', rfl, rfl⟩ := snoc_split (a := [x]) (b := t3) e n3
        show run fin ⟨x :: t3', l :: ls, bd⟩ = _
        rw [run_not e1]
        exact hg.1 bd t3' t _ ls nd h i3
      exact ⟨a, same _ (by rw [tk_neg, tk_neg]; rfl) a⟩
    | row w fs =>
      have hs : ∀ f ∈ fs, PA fin f ∧ PC fin f := by
        have hz' : szs fs ≤ N := by simp only [sz] at hz; omega
        have le : ∀ (fs : List Fm), szs fs ≤ N → ∀ f ∈ fs, sz f ≤ N := by
          intro fs
          induction fs with
          | nil => intro _ f hf; cases hf
          | cons x xs ihx =>
            intro hh f hf
            simp only [szs] at hh
            rcases List.mem_cons.mp hf with e | m
            · subst e; omega
            · exact ihx (by omega) f m
        exact fun f hf => ⟨(read_all fin _ f (le fs hz' f hf)).1, (ih f (le fs hz' f hf)).1⟩
      refine ⟨fun bd ts t l ls nd h hi => ?_, fun bd ts t q c ls nd h hi => ?_⟩
      · rw [tk_row] at hi
        obtain ⟨x, t3, e, e1, _, i3⟩ := Is.head (w := [40]) (ws := tj w fs ++ [[41]]) hi
        obtain ⟨t4, t5, rfl, i4, i5⟩ := i3.split
        obtain ⟨t6, rfl, e6, _⟩ := i5.one
        obtain ⟨b', eb, rfl⟩ := snoc_split (a := [x]) (b := t4 ++ [t6]) e (by simp)
        obtain ⟨c', ec, rfl⟩ := snoc_split (a := t4) (b := [t6]) (ts := b') (t := t) eb.symm (by simp)
        have hc : c' = [] := by
          have := congrArg List.length ec
          simp at this
          exact this
        subst hc
        rw [List.append_nil]
        exact par_cut e1 l ls (row_top nd nil_ok.1 nil_ok.2 [] true (l :: ls) h (fun f hf => (hs f hf).1) i4)
      · rw [tk_row] at hi
        have hi' : Is (ts ++ [t]) (tj w fs) := by simpa [opn, cls] using hi
        obtain ⟨hw, h2, hf⟩ := h
        exact row_cut nd hw fs ts t _ ls (fun z => by rw [z] at h2; cases h2) hs hf hi'
    | qu w n g =>
      have body := ih (strip w g).2 (by have := sz_strip w g; simp only [sz] at hz; omega)
      refine ⟨fun bd ts t l ls nd h hi => ?_, fun bd ts t q c ls nd h hi => ?_⟩
      · rw [tk_qu, if_neg (by intro z; cases z)] at hi
        obtain ⟨x, t3, e, e1, _, i3⟩ := Is.head (w := [40]) (ws := [w, n] ++ (tk (.blk w) g ++ [[41]])) hi
        rw [← List.append_assoc] at i3
        obtain ⟨t4, t5, rfl, i4, i5⟩ := i3.split
        obtain ⟨t6, rfl, e6, _⟩ := i5.one
        obtain ⟨b', eb, rfl⟩ := snoc_split (a := [x]) (b := t4 ++ [t6]) e (by simp)
        obtain ⟨c', ec, rfl⟩ := snoc_split (a := t4) (b := [t6]) (ts := b') (t := t) eb.symm (by simp)
        have hc : c' = [] := by
          have := congrArg List.length ec
          simp at this
          exact this
        subst hc
        rw [List.append_nil]
        refine par_cut e1 l ls ((read_all fin _ (.qu w n g) (Nat.le_refl _)).2 bd t4 [] [] true (l :: ls) nd h ?_ nil_ok.1 nil_ok.2)
        rw [tk_qu, if_neg (by intro z; cases z)]
        simpa [opn, cls] using i4
      · rw [tk_qu, if_neg (by intro z; cases z), tk_strip] at hi
        have hi' : Is (ts ++ [t]) (w :: n :: (strip w g).1 ++ [58] :: tk .top (strip w g).2) := by simpa [opn, cls] using hi
        obtain ⟨t0, ts2, e, i2, hr⟩ := run_quants (fin := fin) h.1 nd h hi' (newL q c :: ls)
        obtain ⟨nd2, w2⟩ := strip_ok nd h
        have n2 : ts2 ≠ [] := fun z => by
          subst z
          have l1 := i2.len
          have p1 := List.length_pos_iff.mpr (tk_ne .top (strip w g).2 ⟨_, w2⟩)
          rw [List.length_nil] at l1
          omega
        obtain ⟨b', rfl, rfl⟩ := snoc_split e n2
        rw [hr]
        exact body.2 _ b' t _ _ _ nd2 w2 i2
/-! ### parse -/
theorem parse_ok {fin : Nat} {f : Fm} (h : wf [] f) {ts : Tk} (hi : Is ts (tk .top f)) : parse fin ts = .ok f := by
  have := (read_all fin _ f (Nat.le_refl _)).2 [] ts [] [] false [] List.nodup_nil h hi nil_ok.1 nil_ok.2
  rw [List.append_nil] at this
  exact this
theorem parse_more {fin : Nat} {f : Fm} (h : wf [] f) {ts : Tk} (hi : Is ts (tk .top f)) {t : Tok} (ht : t.w = [41]) : parse fin (ts ++ [t]) = .error t.col := by
  have p := par_ok ht []
  exact (read_all fin _ f (Nat.le_refl _)).2 [] ts [t] [] false [] List.nodup_nil h hi p.1 p.2
theorem parse_cut {fin : Nat} {f : Fm} (h : wf [] f) {ts : Tk} {t : Tok} (hi : Is (ts ++ [t]) (tk .top f)) : parse fin ts = .error fin :=
  (cut_all fin _ f (Nat.le_refl _)).2 [] ts t [] false [] List.nodup_nil h hi
theorem parse_par {fin : Nat} {f : Fm} (h : wf [] f) {ts : Tk} (hi : Is ts ([40] :: [40] :: (tk .top f ++ [[41], [41]]))) : parse fin ts = .ok f := by
  obtain ⟨x, t1, rfl, e1, _, i1⟩ := hi.head
  obtain ⟨y, t2, rfl, e2, _, i2⟩ := i1.head
  obtain ⟨t3, t4, rfl, i3, i4⟩ := i2.split
  obtain ⟨u, t5, rfl, e3, _, i5⟩ := i4.head
  obtain ⟨v, rfl, e4, _⟩ := i5.one
  have p := par_ok e3 [v]
  have q := par_ok e4 []
  have inner := (read_all fin _ f (Nat.le_refl _)).2 [] t3 [u, v] [] true [newL [] true, newL [] false] List.nodup_nil h i3 p.1 p.2
  show run fin ⟨x :: y :: (t3 ++ [u, v]), [newL [] false], []⟩ = _
  rw [run_par e1, par_read e2 e3 _ _ inner]
  unfold after
  rw [closed_leave _ _ _ _ _ _ q.2]
  show thenR fin (leave fin [] true [newL [] false] [v] [] f) = _
  unfold leave
  rw [if_neg (show ¬ (true = true ∧ wd [v] ≠ [41]) from fun z => z.2 e4), if_neg (fun z => Bool.noConfusion z.1)]
  show thenR fin (closedF fin [newL [] false] [] [] f) = _
  rw [closed_leave _ _ _ _ _ _ nil_ok.2]
  rfl
end Fx
namespace Fx
open PySem
/-! # texts of formulas and their words -/
structure Sty where
  sp : Cs
  op : Cs
  cl : Cs
  col : Cs
  eqs : Cs → Cs
def atomT (σ : Sty) (n : Cs) (k : Int) : Cs := if n = w0 then (if k < 0 then 45 :: dig k else dig k) else if k = 0 then n else if k < 0 then n ++ (σ.sp ++ (45 :: (σ.sp ++ dig k))) else n ++ (σ.sp ++ (43 :: (σ.sp ++ dig k)))
def preT (σ : Sty) : Md → Cs
  | .blk _ => σ.col
  | _ => []
def opnT (σ : Sty) : Md → Cs
  | .blk _ => σ.col
  | .enc => σ.op
  | .top => []
def clsT (σ : Sty) : Md → Cs
  | .enc => σ.cl
  | _ => []
mutual
def tx (σ : Sty) : Md → Fm → Cs
  | m, .cmp op n1 k1 n2 k2 => preT σ m ++ (atomT σ n1 k1 ++ (σ.eqs op ++ atomT σ n2 k2))
  | m, .neg f => preT σ m ++ (wNot ++ (σ.sp ++ tx σ .enc f))
  | m, .row w fs => opnT σ m ++ (tjT σ w fs ++ clsT σ m)
  | m, .qu w n f => (if m = .blk w then σ.sp ++ n else opnT σ m ++ (w ++ (σ.sp ++ n))) ++ (tx σ (.blk w) f ++ clsT σ m)
def tjT (σ : Sty) : Cs → List Fm → Cs
  | _, [] => []
  | w, f :: fs => tx σ .enc f ++ (if fs.isEmpty then [] else σ.sp ++ (w ++ (σ.sp ++ tjT σ w fs)))
end
theorem tx_cmp (σ : Sty) (m : Md) (op n1 n2 : Cs) (k1 k2 : Int) : tx σ m (.cmp op n1 k1 n2 k2) = preT σ m ++ (atomT σ n1 k1 ++ (σ.eqs op ++ atomT σ n2 k2)) := by rw [tx]
theorem tx_neg (σ : Sty) (m : Md) (f : Fm) : tx σ m (.neg f) = preT σ m ++ (wNot ++ (σ.sp ++ tx σ .enc f)) := by rw [tx]
theorem tx_row (σ : Sty) (m : Md) (w : Cs) (fs : List Fm) : tx σ m (.row w fs) = opnT σ m ++ (tjT σ w fs ++ clsT σ m) := by rw [tx]
theorem tx_qu (σ : Sty) (m : Md) (w n : Cs) (f : Fm) : tx σ m (.qu w n f) = (if m = .blk w then σ.sp ++ n else opnT σ m ++ (w ++ (σ.sp ++ n))) ++ (tx σ (.blk w) f ++ clsT σ m) := by rw [tx]
theorem tjT_nil (σ : Sty) (w : Cs) : tjT σ w [] = [] := by rw [tjT]
theorem tjT_cons (σ : Sty) (w : Cs) (f : Fm) (fs : List Fm) : tjT σ w (f :: fs) = tx σ .enc f ++ (if fs.isEmpty then [] else σ.sp ++ (w ++ (σ.sp ++ tjT σ w fs))) := by rw [tjT]
/-! ### lexing -/
def sepE : Cs → Prop
  | [] => True
  | c :: _ => isL c = false ∧ isD c = false
def sepH (t : Cs) : Prop := t ≠ [] ∧ sepE t
theorem sepH.app {t : Cs} (h : sepH t) (r : Cs) : sepE (t ++ r) := by
  cases t with
  | nil => exact absurd rfl h.1
  | cons c t => exact h.2
theorem sepH.app' {t : Cs} (h : sepH t) (r : Cs) : sepH (t ++ r) := ⟨by cases t with | nil => exact absurd rfl h.1 | cons c t => simp, h.app r⟩
def pfx (ts : Tk) : R Tk → R Tk
  | .error e => .error e
  | .ok r => .ok (ts ++ r)
theorem pfx_nil (x : R Tk) : pfx [] x = x := by cases x <;> rfl
theorem pfx_pfx (a b : Tk) (x : R Tk) : pfx a (pfx b x) = pfx (a ++ b) x := by
  cases x with
  | error e => rfl
  | ok r => exact congrArg Except.ok (List.append_assoc a b r).symm
def Lexes0 (t : Cs) (ws : List Cs) : Prop := ∀ rest col, ∃ ts, Is ts ws ∧ lex (t ++ rest) col = pfx ts (lex rest (col + t.length))
def Lexes (t : Cs) (ws : List Cs) : Prop := ∀ rest col, sepE rest → ∃ ts, Is ts ws ∧ lex (t ++ rest) col = pfx ts (lex rest (col + t.length))
theorem Lexes0.weak {t : Cs} {ws : List Cs} (h : Lexes0 t ws) : Lexes t ws := fun rest col _ => h rest col
theorem Lexes0.nil : Lexes0 [] [] := fun rest col => ⟨[], .nil, (pfx_nil _).symm⟩
theorem join_lex {a b rest : Cs} {col : Nat} {wa wb : List Cs} {ta tb : Tk} (ia : Is ta wa) (ib : Is tb wb) (ha : lex (a ++ (b ++ rest)) col = pfx ta (lex (b ++ rest) (col + a.length))) (hb : lex (b ++ rest) (col + a.length) = pfx tb (lex rest (col + a.length + b.length))) :
    ∃ ts, Is ts (wa ++ wb) ∧ lex (a ++ b ++ rest) col = pfx ts (lex rest (col + (a ++ b).length)) :=
  ⟨ta ++ tb, ia.app ib, by rw [List.append_assoc, ha, hb, pfx_pfx, List.length_append, Nat.add_assoc]⟩
theorem Lexes0.app0 {a b : Cs} {wa wb : List Cs} (ha : Lexes0 a wa) (hb : Lexes0 b wb) : Lexes0 (a ++ b) (wa ++ wb) := fun rest col => by
  obtain ⟨ta, ia, ea⟩ := ha (b ++ rest) col
  obtain ⟨tb, ib, eb⟩ := hb rest (col + a.length)
  exact join_lex ia ib ea eb
theorem Lexes0.app {a b : Cs} {wa wb : List Cs} (ha : Lexes0 a wa) (hb : Lexes b wb) : Lexes (a ++ b) (wa ++ wb) := fun rest col s => by
  obtain ⟨ta, ia, ea⟩ := ha (b ++ rest) col
  obtain ⟨tb, ib, eb⟩ := hb rest (col + a.length) s
  exact join_lex ia ib ea eb
theorem Lexes.app {a b : Cs} {wa wb : List Cs} (ha : Lexes a wa) (hb : Lexes b wb) (s : sepH b) : Lexes (a ++ b) (wa ++ wb) := fun rest col sr => by
  obtain ⟨ta, ia, ea⟩ := ha (b ++ rest) col (s.app _)
  obtain ⟨tb, ib, eb⟩ := hb rest (col + a.length) sr
  exact join_lex ia ib ea eb
theorem Lexes.app0 {a b : Cs} {wa wb : List Cs} (ha : Lexes a wa) (hb : Lexes0 b wb) (s : sepH b) : Lexes0 (a ++ b) (wa ++ wb) := fun rest col => by
  obtain ⟨ta, ia, ea⟩ := ha (b ++ rest) col (s.app _)
  obtain ⟨tb, ib, eb⟩ := hb rest (col + a.length)
  exact join_lex ia ib ea eb
theorem lexes_sp : Lexes0 [32] [] := fun rest col => ⟨[], .nil, by
  show lex (32 :: rest) col = _
  rw [lex_sp, pfx_nil]
  rfl⟩
theorem one_tok {c : Nat} {r rest : Cs} {w : Cs} {col : Nat} {kd : Kd} (h : c ≠ 32) (e : step (c :: (r ++ rest)) = some (kd, (c :: r).length)) (hw : w = c :: r) (hk : kd = kdOf w) : ∃ ts, Is ts [w] ∧ lex (c :: r ++ rest) col = pfx ts (lex rest (col + (c :: r).length)) := by
  have t1 : (c :: (r ++ rest)).take (c :: r).length = c :: r := by
    rw [← List.cons_append]
    exact List.take_left' rfl
  have d1 : (c :: (r ++ rest)).drop (c :: r).length = rest := by
    rw [← List.cons_append]
    exact List.drop_left' rfl
  refine ⟨[⟨w, kd, col⟩], .cons rfl hk .nil, ?_⟩
  show lex (c :: (r ++ rest)) col = _
  rw [lex_tok h e, t1, d1, hw]
  cases lex rest (col + (c :: r).length) <;> rfl
theorem lexes_sign {c : Nat} (h : c = 61 ∨ c = 58 ∨ c = 40 ∨ c = 41 ∨ c = 43 ∨ c = 45) : Lexes0 [c] [[c]] := fun rest col => by
  have hl : ¬ isL c = true := fun z => by have := isL_iff.mp z; omega
  have hd : ¬ isD c = true := fun z => by have := isD_iff.mp z; omega
  have hs : isS c = true := isS_iff.mpr (by omega)
  have ho : ¬ isO ((c :: ([] ++ rest)).take 2) = true := fun z => by
    unfold isO at z
    rw [decide_eq_true_eq] at z
    cases rest with
    | nil => rcases z with z | z | z <;> cases z
    | cons d r =>
      have z' : ([c, d] : Cs) = [33, 61] ∨ ([c, d] : Cs) = [60, 61] ∨ ([c, d] : Cs) = [62, 61] := z
      rcases z' with z | z | z <;> have := (List.cons.inj z).1 <;> omega
  refine one_tok (kd := .sign) (r := []) (by omega) ?_ rfl ?_
  · rw [step_cons, if_neg hl, if_neg hd, if_neg ho, if_pos hs]
    rfl
  · show _ = (if isL c = true then Kd.word else if isD c = true then Kd.number else Kd.sign)
    rw [if_neg hl, if_neg hd]
theorem takeWhile_run {p : Nat → Bool} : ∀ {a rest : Cs}, (∀ c ∈ a, p c = true) → (∀ c r, rest = c :: r → p c = false) → (a ++ rest).takeWhile p = a
  | [], rest, _, h => by
    cases rest with
    | nil => rfl
    | cons c r =>
      show (c :: r).takeWhile p = []
      rw [List.takeWhile_cons, if_neg (by rw [h c r rfl]; exact Bool.false_ne_true)]
  | c :: a, rest, ha, h => by
    show (c :: (a ++ rest)).takeWhile p = _
    rw [List.takeWhile_cons, if_pos (ha c List.mem_cons_self), takeWhile_run (fun x hx => ha x (List.mem_cons_of_mem _ hx)) h]
theorem letter_not {c : Nat} (h : isL c = true) : c ≠ 32 := by
  have := isL_iff.mp h
  omega
theorem lexes_word {n : Cs} (h0 : n ≠ []) (h : ∀ c ∈ n, isL c = true) : Lexes n [n] := fun rest col s => by
  cases n with
  | nil => exact absurd rfl h0
  | cons c r =>
    have hc := h c List.mem_cons_self
    have run : (c :: (r ++ rest)).takeWhile isL = c :: r := takeWhile_run (a := c :: r) h fun d t e => by
      subst e
      exact s.1
    refine one_tok (kd := .word) (letter_not hc) ?_ rfl ?_
    · rw [step_cons, if_pos hc, run]
    · show _ = (if isL c = true then Kd.word else _)
      rw [if_pos hc]
theorem lexes_dig {k : Int} (h : k.natAbs ≤ 9) : Lexes (dig k) [dig k] := fun rest col s => by
  have hd : isD (48 + k.natAbs) = true := isD_iff.mpr (by omega)
  have hl : ¬ isL (48 + k.natAbs) = true := fun z => by have := isL_iff.mp z; omega
  have run : ((48 + k.natAbs) :: ([] ++ rest)).takeWhile isD = [48 + k.natAbs] := takeWhile_run (a := [48 + k.natAbs]) (fun c hc => by rw [List.mem_singleton] at hc; subst hc; exact hd) fun d t e => by
    have e' : rest = d :: t := e
    subst e'
    exact s.2
  refine one_tok (c := 48 + k.natAbs) (r := []) (kd := .number) (by omega) ?_ rfl ?_
  · rw [step_cons, if_neg hl, if_pos hd, run]
  · exact (dig_kd h).symm
structure StyOk (σ : Sty) : Prop where
  sp : Lexes0 σ.sp []
  spH : sepH σ.sp
  op : Lexes0 σ.op [[40]]
  cl : Lexes0 σ.cl [[41]]
  clH : sepH σ.cl
  col : Lexes0 σ.col [[58]]
  colH : sepH σ.col
  eqs : ∀ o ∈ ops, Lexes0 (σ.eqs o) [o]
  eqH : ∀ o ∈ ops, sepH (σ.eqs o)
theorem sepH_cons {c : Nat} {r : Cs} (h1 : isL c = false) (h2 : isD c = false) : sepH (c :: r) := ⟨List.cons_ne_nil _ _, h1, h2⟩
theorem lexes_atom {σ : Sty} (S : StyOk σ) {n : Cs} {k : Int} (a : atomOk n k) : Lexes (atomT σ n k) (atomK n k) := by
  obtain ⟨hn, hk⟩ := a
  unfold atomT atomK
  by_cases z : n = w0
  · rw [if_pos z, if_pos z]
    by_cases neg : k < 0
    · rw [if_pos neg, if_pos neg]
      exact Lexes0.app (a := [45]) (lexes_sign (by omega)) (lexes_dig hk)
    · rw [if_neg neg, if_neg neg]
      exact lexes_dig hk
  · rw [if_neg z, if_neg z]
    have nm := hn.resolve_left z
    have ln := lexes_word nm.1 nm.2.1
    by_cases k0 : k = 0
    · rw [if_pos k0, if_pos k0]
      exact ln
    · rw [if_neg k0, if_neg k0]
      have tail : ∀ c, c = 45 ∨ c = 43 → Lexes (n ++ (σ.sp ++ (c :: (σ.sp ++ dig k)))) [n, [c], dig k] := fun c hc =>
        ln.app (wb := [[c], dig k]) (S.sp.app (wb := [[c], dig k]) (Lexes0.app (a := [c]) (wa := [[c]]) (lexes_sign (by omega)) (S.sp.app (wb := [dig k]) (lexes_dig hk)))) (S.spH.app' _)
      by_cases neg : k < 0
      · rw [if_pos neg, if_pos neg]
        exact tail 45 (.inl rfl)
      · rw [if_neg neg, if_neg neg]
        exact tail 43 (.inr rfl)
theorem word_let {w : Cs} (h : w = wAll ∨ w = wSome ∨ w = wNot ∨ w = wAnd ∨ w = wOr) : w ≠ [] ∧ ∀ c ∈ w, isL c = true := by
  rcases h with rfl | rfl | rfl | rfl | rfl <;> exact ⟨List.cons_ne_nil _ _, by decide +kernel⟩
theorem preT_lex {σ : Sty} (S : StyOk σ) (m : Md) : Lexes0 (preT σ m) (pre m) := by
  cases m
  · exact Lexes0.nil
  · exact Lexes0.nil
  · exact S.col
theorem opnT_lex {σ : Sty} (S : StyOk σ) (m : Md) : Lexes0 (opnT σ m) (opn m) := by
  cases m
  · exact Lexes0.nil
  · exact S.op
  · exact S.col
/-- behind a text that ends in a word: the closing -/
theorem Lexes.close {σ : Sty} (S : StyOk σ) {t : Cs} {ws : List Cs} (h : Lexes t ws) (m : Md) : Lexes (t ++ clsT σ m) (ws ++ cls m) := by
  cases m
  · show Lexes (t ++ []) (ws ++ [])
    rw [List.append_nil, List.append_nil]
    exact h
  · exact (h.app0 S.cl S.clH).weak
  · show Lexes (t ++ []) (ws ++ [])
    rw [List.append_nil, List.append_nil]
    exact h
mutual
theorem lexes_tx {σ : Sty} (S : StyOk σ) : ∀ (f : Fm) (m : Md) (bd : List Cs), wf bd f → Lexes (tx σ m f) (tk m f)
  | .cmp op n1 k1 n2 k2, m, bd, h => by
    rw [tx_cmp, tk_cmp]
    exact (preT_lex S m).app ((lexes_atom S h.2.1).app0 (S.eqs op h.1) (S.eqH op h.1) |>.app (lexes_atom S h.2.2) |> fun x => by
      rw [List.append_assoc, List.append_assoc] at x
      exact x)
  | .neg f, m, bd, h => by
    rw [tx_neg, tk_neg]
    have wn := word_let (w := wNot) (by simp)
    exact (preT_lex S m).app ((lexes_word wn.1 wn.2).app (S.sp.app (lexes_tx S f .enc bd h)) (S.spH.app' _))
  | .row w fs, m, bd, h => by
    rw [tx_row, tk_row]
    exact (opnT_lex S m).app ((lexes_tj S fs w bd h.1 h.2.2).close S m)
  | .qu w n f, m, bd, h => by
    rw [tx_qu, tk_qu]
    obtain ⟨hw, hn, _, hf⟩ := h
    have wl := word_let (w := w) (hw.elim .inl fun z => .inr (.inl z))
    have ln := lexes_word hn.1 hn.2.1
    have body := lexes_tx S f (.blk w) _ hf
    have bh : sepH (tx σ (.blk w) f) := blk_head S f w
    by_cases e : m = .blk w
    · subst e
      rw [if_pos rfl, if_pos rfl]
      show Lexes ((σ.sp ++ n) ++ (tx σ (.blk w) f ++ [])) ([n] ++ (tk (.blk w) f ++ []))
      rw [List.append_nil, List.append_nil]
      exact (S.sp.app ln).app body bh
    · rw [if_neg e, if_neg e]
      have hd : Lexes (opnT σ m ++ (w ++ (σ.sp ++ n))) (opn m ++ [w, n]) := (opnT_lex S m).app (wb := [w, n]) ((lexes_word wl.1 wl.2).app (wb := [n]) (S.sp.app ln) (S.spH.app' _))
      exact hd.app (body.close S m) (bh.app' _)
theorem blk_head {σ : Sty} (S : StyOk σ) : ∀ (f : Fm) (w : Cs), sepH (tx σ (.blk w) f)
  | .cmp op n1 k1 n2 k2, w => by
    rw [tx_cmp]
    exact S.colH.app' _
  | .neg f, w => by
    rw [tx_neg]
    exact S.colH.app' _
  | .row _ fs, w => by
    rw [tx_row]
    exact S.colH.app' _
  | .qu w' n f, w => by
    rw [tx_qu]
    split
    · exact (S.spH.app' _).app' _
    · exact (S.colH.app' _).app' _
theorem lexes_tj {σ : Sty} (S : StyOk σ) : ∀ (fs : List Fm) (w : Cs) (bd : List Cs), (w = wAnd ∨ w = wOr) → wfs bd fs → Lexes (tjT σ w fs) (tj w fs)
  | [], w, bd, _, _ => by
    rw [tjT_nil, show tj w [] = [] by rw [tj]]
    exact Lexes0.nil.weak
  | f :: fs, w, bd, hw, h => by
    rw [tjT_cons, tj_cons]
    have a := lexes_tx S f .enc bd h.1
    by_cases e : fs.isEmpty = true
    · rw [if_pos e, if_pos e, List.append_nil, List.append_nil]
      exact a
    · rw [if_neg e, if_neg e]
      have wl := word_let (w := w) (hw.elim (fun z => .inr (.inr (.inr (.inl z)))) fun z => .inr (.inr (.inr (.inr z))))
      exact a.app (wb := w :: tj w fs) (S.sp.app ((lexes_word wl.1 wl.2).app (wa := [w]) (S.sp.app (lexes_tj S fs w bd hw h.2)) (S.spH.app' _))) (S.spH.app' _)
end
def plain : Sty := ⟨[32], [40], [41], [58, 32], fun o => 32 :: (o ++ [32])⟩
def wide : Sty := ⟨[32, 32, 32], [32, 40, 32], [32, 41, 32], [58, 32, 32, 32], fun o => 32 :: 32 :: 32 :: (o ++ [32, 32, 32])⟩
def mid : Sty := ⟨[32], [40], [41], [58], fun o => 32 :: (o ++ [32])⟩
def narrow : Sty := ⟨[32], [40], [41], [58], fun o => if o = [61] then [61] else 32 :: (o ++ [32])⟩
theorem isL32 : isL 32 = false := by decide +kernel
theorem isD32 : isD 32 = false := by decide +kernel
theorem lexes_op {o : Cs} (h : o ∈ ops) {t : Cs} (s : ∃ r, t = 32 :: r) (ht : Lexes0 t []) : Lexes0 (o ++ t) [o] := by
  obtain ⟨r, rfl⟩ := s
  have two : ∀ c, (c = 33 ∨ c = 60 ∨ c = 62) → Lexes0 [c, 61] [[c, 61]] := fun c hc rest col => by
    have hl : ¬ isL c = true := fun z => by have := isL_iff.mp z; omega
    have hd : ¬ isD c = true := fun z => by have := isD_iff.mp z; omega
    refine one_tok (c := c) (r := [61]) (kd := .sign) (by omega) ?_ rfl ?_
    · rw [step_cons, if_neg hl, if_neg hd, if_pos (show isO ((c :: ([61] ++ rest)).take 2) = true from ?_)]
      · rfl
      · show isO [c, 61] = true
        rcases hc with rfl | rfl | rfl <;> decide
    · show _ = (if isL c = true then Kd.word else if isD c = true then Kd.number else Kd.sign)
      rw [if_neg hl, if_neg hd]
  have one : ∀ c, (c = 60 ∨ c = 62) → Lexes0 ([c] ++ 32 :: r) [[c]] := fun c hc rest col => by
    have hl : ¬ isL c = true := fun z => by have := isL_iff.mp z; omega
    have hd : ¬ isD c = true := fun z => by have := isD_iff.mp z; omega
    obtain ⟨ts, i1, e1⟩ := one_tok (c := c) (r := []) (rest := 32 :: r ++ rest) (w := [c]) (col := col) (kd := .sign) (by omega) (by
      rw [step_cons, if_neg hl, if_neg hd, if_neg (show ¬ isO ((c :: ([] ++ (32 :: r ++ rest))).take 2) = true from ?_), if_pos (isS_iff.mpr (by omega))]
      · rfl
      · show ¬ isO [c, 32] = true
        rcases hc with rfl | rfl <;> decide) rfl (by
      show _ = (if isL c = true then Kd.word else if isD c = true then Kd.number else Kd.sign)
      rw [if_neg hl, if_neg hd])
    obtain ⟨t2, i2, e2⟩ := ht rest (col + 1)
    cases i2
    rw [pfx_nil] at e2
    refine ⟨ts, i1, ?_⟩
    have e3 : [c] ++ 32 :: r ++ rest = c :: [] ++ (32 :: r ++ rest) := rfl
    rw [e3, e1]
    show pfx ts (lex (32 :: r ++ rest) (col + 1)) = _
    rw [e2]
    simp [Nat.add_assoc, Nat.add_comm]
  unfold ops at h
  simp only [List.mem_cons, List.not_mem_nil, or_false] at h
  rcases h with rfl | rfl | rfl | rfl | rfl | rfl
  · exact (lexes_sign (by omega)).app0 ht
  · exact (two 33 (by omega)).app0 ht
  · exact one 60 (by omega)
  · exact (two 60 (by omega)).app0 ht
  · exact one 62 (by omega)
  · exact (two 62 (by omega)).app0 ht
theorem sp3 : Lexes0 [32, 32, 32] [] := lexes_sp.app0 (lexes_sp.app0 lexes_sp)
theorem plain_ok : StyOk plain where
  sp := lexes_sp
  spH := sepH_cons isL32 isD32
  op := lexes_sign (by omega)
  cl := lexes_sign (by omega)
  clH := sepH_cons (by decide +kernel) (by decide +kernel)
  col := (lexes_sign (c := 58) (by omega)).app0 lexes_sp
  colH := sepH_cons (by decide +kernel) (by decide +kernel)
  eqs := fun o h => lexes_sp.app0 (a := [32]) (lexes_op h ⟨_, rfl⟩ lexes_sp)
  eqH := fun o h => sepH_cons isL32 isD32
theorem wide_ok : StyOk wide where
  sp := sp3
  spH := sepH_cons isL32 isD32
  op := lexes_sp.app0 (a := [32]) ((lexes_sign (c := 40) (by omega)).app0 lexes_sp)
  cl := lexes_sp.app0 (a := [32]) ((lexes_sign (c := 41) (by omega)).app0 lexes_sp)
  clH := sepH_cons isL32 isD32
  col := (lexes_sign (c := 58) (by omega)).app0 sp3
  colH := sepH_cons (by decide +kernel) (by decide +kernel)
  eqs := fun o h => sp3.app0 (lexes_op h ⟨_, rfl⟩ sp3)
  eqH := fun o h => sepH_cons isL32 isD32
theorem narrow_ok : StyOk narrow where
  sp := lexes_sp
  spH := sepH_cons isL32 isD32
  op := lexes_sign (by omega)
  cl := lexes_sign (by omega)
  clH := sepH_cons (by decide +kernel) (by decide +kernel)
  col := lexes_sign (c := 58) (by omega)
  colH := sepH_cons (by decide +kernel) (by decide +kernel)
  eqs := fun o h => by
    show Lexes0 (if o = [61] then [61] else 32 :: (o ++ [32])) [o]
    by_cases e : o = [61]
    · rw [if_pos e, e]
      exact lexes_sign (by omega)
    · rw [if_neg e]
      exact lexes_sp.app0 (a := [32]) (lexes_op h ⟨_, rfl⟩ lexes_sp)
  eqH := fun o h => by
    show sepH (if o = [61] then [61] else 32 :: (o ++ [32]))
    split
    · exact sepH_cons (by decide +kernel) (by decide +kernel)
    · exact sepH_cons isL32 isD32
/-! ### what is read -/
theorem lex_whole {t : Cs} {ws : List Cs} (h : Lexes t ws) : ∃ ts, Is ts ws ∧ lex t 1 = .ok ts := by
  obtain ⟨ts, i, e⟩ := h [] 1 trivial
  refine ⟨ts, i, ?_⟩
  rw [List.append_nil] at e
  rw [e, lex_nil]
  show Except.ok (ts ++ []) = _
  rw [List.append_nil]
theorem read_style {σ : Sty} (S : StyOk σ) {f : Fm} (h : wf [] f) : readF (tx σ .top f) = .ok f := by
  obtain ⟨ts, i, e⟩ := lex_whole (lexes_tx S f .top [] h)
  unfold readF
  rw [e]
  exact parse_ok h i
theorem read_wide {f : Fm} (h : wf [] f) : readF ([32, 32, 40, 40] ++ (tx wide .top f ++ [41, 32, 41, 32])) = .ok f := by
  have l1 : Lexes0 [32, 32, 40, 40] [[40], [40]] := (lexes_sp.app0 (a := [32]) (lexes_sp.app0 (a := [32]) ((lexes_sign (c := 40) (by omega)).app0 (lexes_sign (c := 40) (by omega)))))
  have l2 : Lexes0 [41, 32, 41, 32] [[41], [41]] := (lexes_sign (c := 41) (by omega)).app0 (a := [41]) (lexes_sp.app0 (a := [32]) ((lexes_sign (c := 41) (by omega)).app0 (a := [41]) lexes_sp))
  obtain ⟨ts, i, e⟩ := lex_whole (l1.app ((lexes_tx wide_ok f .top [] h).app l2.weak (sepH_cons (by decide +kernel) (by decide +kernel))))
  unfold readF
  rw [e]
  exact parse_par h i
theorem read_more {f : Fm} (h : wf [] f) : readF (tx plain .top f ++ [32, 41]) = .error ((tx plain .top f).length + 2) := by
  obtain ⟨ts, i, e⟩ := (lexes_tx plain_ok f .top [] h) [32, 41] 1 ⟨isL32, isD32⟩
  unfold readF
  rw [e, lex_sp, lex_tok (m := 1) (kd := .sign) (by decide) (by decide +kernel)]
  show parse _ (ts ++ [⟨[41], .sign, 1 + (tx plain .top f).length + 1⟩]) = _
  rw [parse_more h i rfl]
  show Except.error (1 + (tx plain .top f).length + 1) = _
  congr 1
  omega
end Fx
namespace Fx
open PySem
/-! # replaced texts -/
theorem mem_dig {k : Int} (h : k.natAbs ≤ 9) : ∀ c ∈ dig k, isL c = false ∧ isD c = true := fun c hc => by
  have e : c = 48 + k.natAbs := List.mem_singleton.mp hc
  refine ⟨?_, by rw [isD_iff]; omega⟩
  cases z : isL c with
  | false => rfl
  | true =>
    have := isL_iff.mp z
    omega
theorem fm_letters {φ : Nat → Cs} (hφ : ∀ c, c ≠ 32 → c ≠ 40 → c ≠ 41 → φ c = [c]) : ∀ {l : Cs}, (∀ c ∈ l, c ≠ 32 ∧ c ≠ 40 ∧ c ≠ 41) → l.flatMap φ = l
  | [], _ => rfl
  | c :: l, h => by
    obtain ⟨a, b, d⟩ := h c List.mem_cons_self
    rw [List.flatMap_cons, hφ c a b d, fm_letters hφ fun x hx => h x (List.mem_cons_of_mem _ hx)]
    rfl
theorem let_plain {l : Cs} (h : ∀ c ∈ l, isL c = true) : ∀ c ∈ l, c ≠ 32 ∧ c ≠ 40 ∧ c ≠ 41 := fun c hc => by
  have := isL_iff.mp (h c hc)
  omega
theorem dig_plain {k : Int} (h : k.natAbs ≤ 9) : ∀ c ∈ dig k, c ≠ 32 ∧ c ≠ 40 ∧ c ≠ 41 := fun c hc => by
  have e : c = 48 + k.natAbs := List.mem_singleton.mp hc
  omega
theorem op_plain {o : Cs} (h : o ∈ ops) : ∀ c ∈ o, c ≠ 32 ∧ c ≠ 40 ∧ c ≠ 41 := by
  unfold ops at h
  simp only [List.mem_cons, List.not_mem_nil, or_false] at h
  rcases h with rfl | rfl | rfl | rfl | rfl | rfl <;> decide
section
variable {φ : Nat → Cs} (hφ : ∀ c, c ≠ 32 → c ≠ 40 → c ≠ 41 → φ c = [c]) {σ τ : Sty} (h32 : σ.sp.flatMap φ = τ.sp) (h40 : σ.op.flatMap φ = τ.op) (h41 : σ.cl.flatMap φ = τ.cl) (hc : σ.col.flatMap φ = τ.col) (he : ∀ o ∈ ops, (σ.eqs o).flatMap φ = τ.eqs o)
include hφ h32 h40 h41 hc he
theorem fm_atom {n : Cs} {k : Int} (a : atomOk n k) : (atomT σ n k).flatMap φ = atomT τ n k := by
  obtain ⟨hn, hk⟩ := a
  have d := fm_letters hφ (dig_plain hk)
  unfold atomT
  by_cases z : n = w0
  · rw [if_pos z, if_pos z]
    by_cases neg : k < 0
    · rw [if_pos neg, List.flatMap_cons, hφ 45 (by decide) (by decide) (by decide), d]
      rfl
    · rw [if_neg neg, d]
  · rw [if_neg z, if_neg z]
    have nm := hn.resolve_left z
    have dn := fm_letters hφ (let_plain nm.2.1)
    by_cases k0 : k = 0
    · rw [if_pos k0, if_pos k0, dn]
    · rw [if_neg k0, if_neg k0]
      by_cases neg : k < 0
      · rw [if_pos neg, if_pos neg, List.flatMap_append, dn, List.flatMap_append, h32, List.flatMap_cons, hφ 45 (by decide) (by decide) (by decide), List.flatMap_append, h32, d]
        rfl
      · rw [if_neg neg, if_neg neg, List.flatMap_append, dn, List.flatMap_append, h32, List.flatMap_cons, hφ 43 (by decide) (by decide) (by decide), List.flatMap_append, h32, d]
        rfl
theorem fm_preT (m : Md) : (preT σ m).flatMap φ = preT τ m := by
  cases m
  · rfl
  · rfl
  · exact hc
theorem fm_opnT (m : Md) : (opnT σ m).flatMap φ = opnT τ m := by
  cases m
  · rfl
  · exact h40
  · exact hc
theorem fm_clsT (m : Md) : (clsT σ m).flatMap φ = clsT τ m := by
  cases m
  · rfl
  · exact h41
  · rfl
mutual
theorem fm_tx : ∀ (f : Fm) (m : Md) (bd : List Cs), wf bd f → (tx σ m f).flatMap φ = tx τ m f
  | .cmp op n1 k1 n2 k2, m, bd, h => by
    rw [tx_cmp, tx_cmp, List.flatMap_append, fm_preT hφ h32 h40 h41 hc he, List.flatMap_append, fm_atom hφ h32 h40 h41 hc he h.2.1, List.flatMap_append, he op h.1, fm_atom hφ h32 h40 h41 hc he h.2.2]
  | .neg f, m, bd, h => by
    rw [tx_neg, tx_neg, List.flatMap_append, fm_preT hφ h32 h40 h41 hc he, List.flatMap_append, fm_letters hφ (let_plain (word_let (w := wNot) (by simp)).2), List.flatMap_append, h32, fm_tx f .enc bd h]
  | .row w fs, m, bd, h => by
    rw [tx_row, tx_row, List.flatMap_append, fm_opnT hφ h32 h40 h41 hc he, List.flatMap_append, fm_tj fs w bd h.1 h.2.2, fm_clsT hφ h32 h40 h41 hc he]
  | .qu w n f, m, bd, h => by
    obtain ⟨hw, hn, _, hf⟩ := h
    have dn := fm_letters hφ (let_plain hn.2.1)
    have dw := fm_letters hφ (let_plain (word_let (w := w) (hw.elim .inl fun z => .inr (.inl z))).2)
    rw [tx_qu, tx_qu, List.flatMap_append, List.flatMap_append, fm_tx f (.blk w) _ hf, fm_clsT hφ h32 h40 h41 hc he]
    by_cases e : m = .blk w
    · rw [if_pos e, if_pos e, List.flatMap_append, h32, dn]
    · rw [if_neg e, if_neg e, List.flatMap_append, fm_opnT hφ h32 h40 h41 hc he, List.flatMap_append, dw, List.flatMap_append, h32, dn]
theorem fm_tj : ∀ (fs : List Fm) (w : Cs) (bd : List Cs), (w = wAnd ∨ w = wOr) → wfs bd fs → (tjT σ w fs).flatMap φ = tjT τ w fs
  | [], w, bd, _, _ => by
    rw [tjT_nil, tjT_nil]
    rfl
  | f :: fs, w, bd, hw, h => by
    have dw := fm_letters hφ (let_plain (word_let (w := w) (hw.elim (fun z => .inr (.inr (.inr (.inl z)))) fun z => .inr (.inr (.inr (.inr z))))).2)
    rw [tjT_cons, tjT_cons, List.flatMap_append, fm_tx f .enc bd h.1]
    by_cases e : fs.isEmpty = true
    · rw [if_pos e, if_pos e]
      rfl
    · rw [if_neg e, if_neg e, List.flatMap_append, h32, List.flatMap_append, dw, List.flatMap_append, h32, fm_tj fs w bd hw h.2]
end
end
/-- one sign replaced -/
theorem repl_one (c : Nat) (z : Cs) : ∀ l : Cs, PySem.StrLaws.replL [c] z l = l.flatMap fun x => if x = c then z else [x]
  | [] => PySem.StrLaws.replL_nil
  | x :: l => by
    rw [List.flatMap_cons]
    by_cases e : x = c
    · subst e
      rw [if_pos rfl, PySem.StrLaws.replL_hit (by simp) (by simp), show ((x :: l).drop [x].length) = l from rfl, repl_one x z l]
    · rw [if_neg e, PySem.StrLaws.replL_miss (by simpa using e), repl_one c z l]
      rfl
def wide1 : Sty := ⟨[32, 32, 32], [40], [41], [58, 32, 32, 32], fun o => 32 :: 32 :: 32 :: (o ++ [32, 32, 32])⟩
def wide2 : Sty := ⟨[32, 32, 32], [32, 40, 32], [41], [58, 32, 32, 32], fun o => 32 :: 32 :: 32 :: (o ++ [32, 32, 32])⟩
theorem ops_all {P : Cs → Prop} (h : P [61] ∧ P [33, 61] ∧ P [60] ∧ P [60, 61] ∧ P [62] ∧ P [62, 61]) : ∀ o ∈ ops, P o := by
  intro o ho
  unfold ops at ho
  simp only [List.mem_cons, List.not_mem_nil, or_false] at ho
  rcases ho with rfl | rfl | rfl | rfl | rfl | rfl
  · exact h.1
  · exact h.2.1
  · exact h.2.2.1
  · exact h.2.2.2.1
  · exact h.2.2.2.2.1
  · exact h.2.2.2.2.2
theorem repl_w1 {f : Fm} (h : wf [] f) : PySem.StrLaws.replL [32] [32, 32, 32] (tx plain .top f) = tx wide1 .top f := by
  rw [repl_one]
  exact fm_tx (σ := plain) (τ := wide1) (fun c a _ _ => if_neg a) (by decide) (by decide) (by decide) (by decide) (ops_all (by decide)) f .top [] h
theorem repl_w2 {f : Fm} (h : wf [] f) : PySem.StrLaws.replL [40] [32, 40, 32] (tx wide1 .top f) = tx wide2 .top f := by
  rw [repl_one]
  exact fm_tx (σ := wide1) (τ := wide2) (fun c _ a _ => if_neg a) (by decide) (by decide) (by decide) (by decide) (ops_all (by decide)) f .top [] h
theorem repl_w3 {f : Fm} (h : wf [] f) : PySem.StrLaws.replL [41] [32, 41, 32] (tx wide2 .top f) = tx wide .top f := by
  rw [repl_one]
  exact fm_tx (σ := wide2) (τ := wide) (fun c _ _ a => if_neg a) (by decide) (by decide) (by decide) (by decide) (ops_all (by decide)) f .top [] h
/-! ### ': ' and ' = ' -/
def Copy (y z a b : Cs) : Prop := ∀ r, PySem.StrLaws.replL y z (a ++ r) = b ++ PySem.StrLaws.replL y z r
theorem Copy.nil {y z : Cs} : Copy y z [] [] := fun r => rfl
theorem Copy.app {y z a b a' b' : Cs} (h : Copy y z a b) (h' : Copy y z a' b') : Copy y z (a ++ a') (b ++ b') := fun r => by
  rw [List.append_assoc, h, h', List.append_assoc]
theorem copy_free {d : Nat} {y z : Cs} : ∀ {a : Cs}, (∀ c ∈ a, c ≠ d) → Copy (d :: y) z a a
  | [], _ => Copy.nil
  | c :: a, h => fun r => by
    have hc := h c List.mem_cons_self
    show PySem.StrLaws.replL (d :: y) z (c :: (a ++ r)) = _
    have ms : ¬ (c :: (a ++ r)).take (d :: y).length = d :: y := fun e => by
      rw [List.length_cons, List.take_succ_cons] at e
      exact hc (List.cons.inj e).1
    rw [PySem.StrLaws.replL_miss ms, copy_free (fun x hx => h x (List.mem_cons_of_mem _ hx)) r]
    rfl
theorem let_ne {l : Cs} (h : ∀ c ∈ l, isL c = true) {d : Nat} (hd : d < 97) : ∀ c ∈ l, c ≠ d := fun c hc => by
  have := isL_iff.mp (h c hc)
  omega
theorem dig_ne {k : Int} (h : k.natAbs ≤ 9) {d : Nat} (hd : d < 48 ∨ 57 < d) : ∀ c ∈ dig k, c ≠ d := fun c hc => by
  have e : c = 48 + k.natAbs := List.mem_singleton.mp hc
  omega
abbrev C1 := Copy [58, 32] [58]
theorem c1_free {a : Cs} (h : ∀ c ∈ a, c ≠ 58) : C1 a a := copy_free h
theorem c1_col : C1 [58, 32] [58] := fun r => by
  show PySem.StrLaws.replL [58, 32] [58] (58 :: 32 :: r) = _
  rw [PySem.StrLaws.replL_hit (c := 58) (r := 32 :: r) (by decide) rfl]
  rfl
theorem c1_atom {n : Cs} {k : Int} (a : atomOk n k) : C1 (atomT plain n k) (atomT mid n k) := by
  obtain ⟨hn, hk⟩ := a
  have hd := dig_ne hk (d := 58) (by omega)
  have e : atomT plain n k = atomT mid n k := rfl
  rw [← e]
  refine c1_free ?_
  unfold atomT
  by_cases z : n = w0
  · rw [if_pos z]
    split
    · exact fun c hc => (List.mem_cons.mp hc).elim (fun z => by omega) (hd c)
    · exact hd
  · rw [if_neg z]
    have nm := (hn.resolve_left z).2.1
    have hl := let_ne nm (d := 58) (by omega)
    have tail : ∀ s, s = 45 ∨ s = 43 → ∀ c ∈ n ++ (plain.sp ++ (s :: (plain.sp ++ dig k))), c ≠ 58 := fun s hs c hc => by
      rcases List.mem_append.mp hc with m | m
      · exact hl c m
      have m' : c = 32 ∨ c = s ∨ c = 32 ∨ c ∈ dig k := by simpa [plain] using m
      rcases m' with m | m | m | m
      · omega
      · omega
      · omega
      · exact hd c m
    split
    · exact hl
    · split
      · exact tail 45 (.inl rfl)
      · exact tail 43 (.inr rfl)
theorem c1_pre (m : Md) : C1 (preT plain m) (preT mid m) := by
  cases m
  · exact Copy.nil
  · exact Copy.nil
  · exact c1_col
theorem c1_opn (m : Md) : C1 (opnT plain m) (opnT mid m) := by
  cases m
  · exact Copy.nil
  · exact c1_free (by decide)
  · exact c1_col
theorem c1_cls (m : Md) : C1 (clsT plain m) (clsT mid m) := by
  cases m
  · exact Copy.nil
  · exact c1_free (by decide)
  · exact Copy.nil
mutual
theorem c1_tx : ∀ (f : Fm) (m : Md) (bd : List Cs), wf bd f → C1 (tx plain m f) (tx mid m f)
  | .cmp op n1 k1 n2 k2, m, bd, h => by
    rw [tx_cmp, tx_cmp]
    refine (c1_pre m).app ((c1_atom h.2.1).app (Copy.app (c1_free ?_) (c1_atom h.2.2)))
    revert op
    exact fun op h => ops_all (P := fun o => ∀ c ∈ plain.eqs o, c ≠ 58) (by decide) op h.1
  | .neg f, m, bd, h => by
    rw [tx_neg, tx_neg]
    exact (c1_pre m).app ((c1_free (by decide)).app ((c1_free (by decide)).app (c1_tx f .enc bd h)))
  | .row w fs, m, bd, h => by
    rw [tx_row, tx_row]
    exact (c1_opn m).app ((c1_tj fs w bd h.1 h.2.2).app (c1_cls m))
  | .qu w n f, m, bd, h => by
    obtain ⟨hw, hn, _, hf⟩ := h
    have dn := c1_free (let_ne hn.2.1 (d := 58) (by omega))
    have dw := c1_free (let_ne (word_let (w := w) (hw.elim .inl fun z => .inr (.inl z))).2 (d := 58) (by omega))
    have ds : C1 plain.sp mid.sp := c1_free (by decide)
    rw [tx_qu, tx_qu]
    refine Copy.app ?_ ((c1_tx f (.blk w) _ hf).app (c1_cls m))
    by_cases e : m = .blk w
    · rw [if_pos e, if_pos e]
      exact ds.app dn
    · rw [if_neg e, if_neg e]
      exact (c1_opn m).app (dw.app (ds.app dn))
theorem c1_tj : ∀ (fs : List Fm) (w : Cs) (bd : List Cs), (w = wAnd ∨ w = wOr) → wfs bd fs → C1 (tjT plain w fs) (tjT mid w fs)
  | [], w, bd, _, _ => by
    rw [tjT_nil, tjT_nil]
    exact Copy.nil
  | f :: fs, w, bd, hw, h => by
    have dw := c1_free (let_ne (word_let (w := w) (hw.elim (fun z => .inr (.inr (.inr (.inl z)))) fun z => .inr (.inr (.inr (.inr z))))).2 (d := 58) (by omega))
    have ds : C1 plain.sp mid.sp := c1_free (by decide)
    rw [tjT_cons, tjT_cons]
    refine (c1_tx f .enc bd h.1).app ?_
    by_cases e : fs.isEmpty = true
    · rw [if_pos e, if_pos e]
      exact Copy.nil
    · rw [if_neg e, if_neg e]
      exact ds.app (dw.app (ds.app (c1_tj fs w bd hw h.2)))
end
theorem repl_n1 {f : Fm} (h : wf [] f) : PySem.StrLaws.replL [58, 32] [58] (tx plain .top f) = tx mid .top f := by
  have := c1_tx f .top [] h []
  rw [List.append_nil, PySem.StrLaws.replL_nil, List.append_nil] at this
  exact this
/-- as Copy, where what follows does not begin with '=' -/
def Cp2 (a b : Cs) : Prop := ∀ r, r.head? ≠ some 61 → PySem.StrLaws.replL [32, 61, 32] [61] (a ++ r) = b ++ PySem.StrLaws.replL [32, 61, 32] [61] r
def noE (a : Cs) : Prop := a ≠ [] ∧ a.head? ≠ some 61
theorem noE.app {a : Cs} (h : noE a) (r : Cs) : (a ++ r).head? ≠ some 61 := by
  cases a with
  | nil => exact absurd rfl h.1
  | cons c a => exact h.2
theorem noE.app' {a : Cs} (h : noE a) (r : Cs) : noE (a ++ r) := ⟨by cases a with | nil => exact absurd rfl h.1 | cons c a => simp, h.app r⟩
theorem Cp2.nil : Cp2 [] [] := fun r _ => rfl
theorem Cp2.app {a b a' b' : Cs} (h : Cp2 a b) (h' : Cp2 a' b') (n : noE a') : Cp2 (a ++ a') (b ++ b') := fun r hr => by
  rw [List.append_assoc, h _ (n.app r), h' r hr, List.append_assoc]
theorem Cp2.appN {a b : Cs} (h : Cp2 a b) : Cp2 (a ++ []) (b ++ []) := by
  rw [List.append_nil, List.append_nil]
  exact h
theorem c2_free {a : Cs} (h : ∀ c ∈ a, c ≠ 32) : Cp2 a a := fun r _ => copy_free h r
theorem c2_sp : Cp2 [32] [32] := fun r hr => by
  show PySem.StrLaws.replL [32, 61, 32] [61] (32 :: r) = _
  rw [PySem.StrLaws.replL_miss]
  · rfl
  · intro e
    cases r with
    | nil => cases e
    | cons c r =>
      have e' : [32] ++ ((c :: r).take 2) = [32, 61, 32] := e
      have := (List.cons.inj (List.cons.inj e').2).1
      exact hr (by rw [← this]; rfl)
theorem noE_let {a : Cs} (h0 : a ≠ []) (h : ∀ c ∈ a, isL c = true) : noE a := ⟨h0, by
  cases a with
  | nil => exact absurd rfl h0
  | cons c a =>
    intro e
    have e' : c = 61 := Option.some.inj e
    have := isL_iff.mp (h c List.mem_cons_self)
    omega⟩
theorem noE_atom {n : Cs} {k : Int} (a : atomOk n k) : noE (atomT mid n k) := by
  obtain ⟨hn, hk⟩ := a
  have hd : noE (dig k) := ⟨List.cons_ne_nil _ _, fun e => by
    have e' : 48 + k.natAbs = 61 := Option.some.inj e
    omega⟩
  unfold atomT
  by_cases z : n = w0
  · rw [if_pos z]
    split
    · exact ⟨List.cons_ne_nil _ _, by simp⟩
    · exact hd
  · rw [if_neg z]
    have nm := hn.resolve_left z
    have hl := noE_let nm.1 nm.2.1
    split
    · exact hl
    · split
      · exact hl.app' _
      · exact hl.app' _
theorem c2_atom {n : Cs} {k : Int} (a : atomOk n k) : Cp2 (atomT mid n k) (atomT narrow n k) := by
  have e : atomT narrow n k = atomT mid n k := rfl
  rw [e]
  obtain ⟨hn, hk⟩ := a
  have hd := dig_ne hk (d := 32) (by omega)
  have cd : Cp2 (dig k) (dig k) := c2_free hd
  have nd : noE (dig k) := ⟨List.cons_ne_nil _ _, fun e => by
    have e' : 48 + k.natAbs = 61 := Option.some.inj e
    omega⟩
  unfold atomT
  by_cases z : n = w0
  · rw [if_pos z]
    split
    · exact c2_free fun c hc => (List.mem_cons.mp hc).elim (fun z => by omega) (hd c)
    · exact cd
  · rw [if_neg z]
    have nm := (hn.resolve_left z).2.1
    have hl : Cp2 n n := c2_free (let_ne nm (d := 32) (by omega))
    have sp1 : noE [32] := ⟨by decide, by decide⟩
    have tail : ∀ s, s = 45 ∨ s = 43 → Cp2 (n ++ ([32] ++ ([s] ++ ([32] ++ dig k)))) (n ++ ([32] ++ ([s] ++ ([32] ++ dig k)))) := fun s hs =>
      hl.app (c2_sp.app (Cp2.app (c2_free fun c hc => by rw [List.mem_singleton] at hc; omega) (c2_sp.app cd nd) (sp1.app' _)) (noE.app' ⟨List.cons_ne_nil _ _, fun e => by have e' : s = 61 := Option.some.inj e; omega⟩ _)) (sp1.app' _)
    split
    · exact hl
    · split
      · exact tail 45 (.inl rfl)
      · exact tail 43 (.inr rfl)
theorem c2_eqs {o : Cs} (h : o ∈ ops) : Cp2 (mid.eqs o) (narrow.eqs o) := by
  have two : ∀ c, c ≠ 61 → c ≠ 32 → Cp2 (32 :: ([c, 61] ++ [32])) (32 :: ([c, 61] ++ [32])) := fun c h1 h2 =>
    c2_sp.app (a := [32]) (Cp2.app (a := [c, 61]) (c2_free (by simp [h2])) c2_sp ⟨by decide, by decide⟩) (noE.app' (a := [c, 61]) ⟨by simp, by simpa using h1⟩ _)
  have one : ∀ c, c ≠ 61 → c ≠ 32 → Cp2 (32 :: ([c] ++ [32])) (32 :: ([c] ++ [32])) := fun c h1 h2 =>
    c2_sp.app (a := [32]) (Cp2.app (a := [c]) (c2_free (by simp [h2])) c2_sp ⟨by decide, by decide⟩) (noE.app' (a := [c]) ⟨by simp, by simpa using h1⟩ _)
  have eq : Cp2 (32 :: ([61] ++ [32])) [61] := fun r _ => by
    show PySem.StrLaws.replL [32, 61, 32] [61] (32 :: 61 :: 32 :: r) = _
    rw [PySem.StrLaws.replL_hit (by decide) rfl]
    rfl
  unfold ops at h
  simp only [List.mem_cons, List.not_mem_nil, or_false] at h
  rcases h with rfl | rfl | rfl | rfl | rfl | rfl
  · exact eq
  · exact two 33 (by decide) (by decide)
  · exact one 60 (by decide) (by decide)
  · exact two 60 (by decide) (by decide)
  · exact one 62 (by decide) (by decide)
  · exact two 62 (by decide) (by decide)
theorem noE_eqs (o : Cs) : noE (mid.eqs o) := ⟨List.cons_ne_nil _ _, by show (some 32 : Option Nat) ≠ some 61; decide⟩
mutual
theorem noE_tx : ∀ (f : Fm) (m : Md) (bd : List Cs), wf bd f → noE (tx mid m f)
  | .cmp op n1 k1 n2 k2, m, bd, h => by
    rw [tx_cmp]
    cases m
    · exact (noE_atom h.2.1).app' _
    · exact (noE_atom h.2.1).app' _
    · exact ⟨by simp [preT, mid], by simp [preT, mid]⟩
  | .neg f, m, bd, h => by
    rw [tx_neg]
    cases m
    · exact ⟨by simp [preT], by simp [preT]⟩
    · exact ⟨by simp [preT], by simp [preT]⟩
    · exact ⟨by simp [preT, mid], by simp [preT, mid]⟩
  | .row w fs, m, bd, h => by
    rw [tx_row]
    cases m
    · show noE ([] ++ (tjT mid w fs ++ []))
      rw [List.nil_append, List.append_nil]
      obtain ⟨_, h2, hs⟩ := h
      match fs, h2, hs with
      | f :: g :: r, _, hs =>
        rw [tjT_cons]
        exact (noE_tx f .enc bd hs.1).app' _
    · exact ⟨by simp [opnT, mid], by simp [opnT, mid]⟩
    · exact ⟨by simp [opnT, mid], by simp [opnT, mid]⟩
  | .qu w n f, m, bd, h => by
    rw [tx_qu]
    have wl := word_let (w := w) (h.1.elim .inl fun z => .inr (.inl z))
    by_cases e : m = .blk w
    · rw [if_pos e]
      exact noE.app' (noE.app' ⟨by decide, by decide⟩ _) _
    · rw [if_neg e]
      refine noE.app' ?_ _
      cases m
      · exact (noE_let wl.1 wl.2).app' _
      · exact ⟨by simp [opnT, mid], by simp [opnT, mid]⟩
      · exact ⟨by simp [opnT, mid], by simp [opnT, mid]⟩
end
theorem c2_pre (m : Md) : Cp2 (preT mid m) (preT narrow m) := by
  cases m
  · exact Cp2.nil
  · exact Cp2.nil
  · exact c2_free (a := [58]) (by decide)
theorem c2_opn (m : Md) : Cp2 (opnT mid m) (opnT narrow m) := by
  cases m
  · exact Cp2.nil
  · exact c2_free (by decide)
  · exact c2_free (a := [58]) (by decide)
theorem Cp2.close {a b : Cs} (h : Cp2 a b) (m : Md) : Cp2 (a ++ clsT mid m) (b ++ clsT narrow m) := by
  cases m
  · exact h.appN
  · exact h.app (c2_free (by decide)) ⟨by decide, by decide⟩
  · exact h.appN
mutual
theorem c2_tx : ∀ (f : Fm) (m : Md) (bd : List Cs), wf bd f → Cp2 (tx mid m f) (tx narrow m f)
  | .cmp op n1 k1 n2 k2, m, bd, h => by
    rw [tx_cmp, tx_cmp]
    exact (c2_pre m).app ((c2_atom h.2.1).app ((c2_eqs h.1).app (c2_atom h.2.2) (noE_atom h.2.2)) ((noE_eqs op).app' _)) ((noE_atom h.2.1).app' _)
  | .neg f, m, bd, h => by
    rw [tx_neg, tx_neg]
    have nn : noE wNot := ⟨by decide, by decide⟩
    have ns : noE mid.sp := ⟨by decide, by decide⟩
    exact (c2_pre m).app (Cp2.app (c2_free (by decide)) (c2_sp.app (c2_tx f .enc bd h) (noE_tx f .enc bd h)) (ns.app' _)) (nn.app' _)
  | .row w fs, m, bd, h => by
    rw [tx_row, tx_row]
    have ht : noE (tjT mid w fs) := by
      obtain ⟨_, h2, hs⟩ := h
      match fs, h2, hs with
      | f :: g :: r, _, hs =>
        rw [tjT_cons]
        exact (noE_tx f .enc bd hs.1).app' _
    exact (c2_opn m).app ((c2_tj fs w bd h.1 h.2.2).close m) (ht.app' _)
  | .qu w n f, m, bd, h => by
    obtain ⟨hw, hn, _, hf⟩ := h
    have wl := word_let (w := w) (hw.elim .inl fun z => .inr (.inl z))
    have dn : Cp2 n n := c2_free (let_ne hn.2.1 (d := 32) (by omega))
    have dw : Cp2 w w := c2_free (let_ne wl.2 (d := 32) (by omega))
    have nn := noE_let hn.1 hn.2.1
    have ns : noE mid.sp := ⟨by decide, by decide⟩
    rw [tx_qu, tx_qu]
    refine Cp2.app ?_ ((c2_tx f (.blk w) _ hf).close m) ((noE_tx f (.blk w) _ hf).app' _)
    by_cases e : m = .blk w
    · rw [if_pos e, if_pos e]
      exact c2_sp.app dn nn
    · rw [if_neg e, if_neg e]
      exact (c2_opn m).app (dw.app (c2_sp.app dn nn) (ns.app' _)) ((noE_let wl.1 wl.2).app' _)
theorem c2_tj : ∀ (fs : List Fm) (w : Cs) (bd : List Cs), (w = wAnd ∨ w = wOr) → wfs bd fs → Cp2 (tjT mid w fs) (tjT narrow w fs)
  | [], w, bd, _, _ => by
    rw [tjT_nil, tjT_nil]
    exact Cp2.nil
  | f :: fs, w, bd, hw, h => by
    have wl := word_let (w := w) (hw.elim (fun z => .inr (.inr (.inr (.inl z)))) fun z => .inr (.inr (.inr (.inr z))))
    have dw : Cp2 w w := c2_free (let_ne wl.2 (d := 32) (by omega))
    have ns : noE mid.sp := ⟨by decide, by decide⟩
    rw [tjT_cons, tjT_cons]
    by_cases e : fs.isEmpty = true
    · rw [if_pos e, if_pos e]
      exact (c2_tx f .enc bd h.1).appN
    · rw [if_neg e, if_neg e]
      have ht : noE (tjT mid w fs) := by
        cases fs with
        | nil => exact absurd rfl e
        | cons g r =>
          rw [tjT_cons]
          exact (noE_tx g .enc bd h.2.1).app' _
      exact (c2_tx f .enc bd h.1).app (c2_sp.app (dw.app (c2_sp.app (c2_tj fs w bd hw h.2) ht) (ns.app' _)) ((noE_let wl.1 wl.2).app' _)) (ns.app' _)
end
theorem repl_n2 {f : Fm} (h : wf [] f) : PySem.StrLaws.replL [32, 61, 32] [61] (tx mid .top f) = tx narrow .top f := by
  have := c2_tx f .top [] h [] (by decide)
  rw [List.append_nil, PySem.StrLaws.replL_nil, List.append_nil] at this
  exact this
end Fx
namespace Fx
open PySem
/-! # spoilt texts -/
def okc (c : Nat) : Prop := isL c = true ∨ isD c = true ∨ c = 32 ∨ isS c = true
inductive G : Cs → Prop
  | nil : G []
  | ex {r : Cs} : G r → G (33 :: 61 :: r)
  | one {c : Nat} {r : Cs} : okc c → G r → G (c :: r)
theorem G.app {a b : Cs} (h : G a) (h' : G b) : G (a ++ b) := by
  induction h with
  | nil => exact h'
  | ex _ ih => exact .ex ih
  | one o _ ih => exact .one o ih
theorem ok33 : ¬ okc 33 := fun h => by
  rcases h with h | h | h | h
  · have := isL_iff.mp h; omega
  · have := isD_iff.mp h; omega
  · omega
  · have := isS_iff.mp h; omega
theorem G.tail1 {c : Nat} {r : Cs} (h : G (c :: r)) (n : c ≠ 33) : G r := by
  cases h with
  | ex => exact absurd rfl n
  | one _ h => exact h
theorem G.all {a : Cs} (h : ∀ c ∈ a, okc c) : G a := by
  induction a with
  | nil => exact .nil
  | cons c a ih => exact .one (h c List.mem_cons_self) (ih fun x hx => h x (List.mem_cons_of_mem _ hx))
theorem G.run {p : Nat → Bool} (hp : ∀ c, p c = true → c ≠ 33) : ∀ {q : Cs}, G q → G (q.drop (q.takeWhile p).length)
  | [], _ => .nil
  | c :: r, h => by
    rw [List.takeWhile_cons]
    by_cases e : p c = true
    · rw [if_pos e]
      exact G.run hp (h.tail1 (hp c e))
    · rw [if_neg e]
      exact h
theorem takeWhile_stop {p : Nat → Bool} {b : Nat} {r : Cs} (hb : p b = false) : ∀ q : Cs, (q ++ b :: r).takeWhile p = q.takeWhile p
  | [] => by
    show (b :: r).takeWhile p = []
    rw [List.takeWhile_cons, if_neg (by rw [hb]; exact Bool.false_ne_true)]
  | c :: q => by
    show (c :: (q ++ b :: r)).takeWhile p = _
    rw [List.takeWhile_cons, List.takeWhile_cons, takeWhile_stop hb q]
theorem lex_stops : ∀ (N : Nat) (q : Cs), q.length ≤ N → G q → ∀ (b : Nat) (rest : Cs) (k : Nat), step (b :: rest) = none → b ≠ 32 → isL b = false → isD b = false → b ≠ 61 → lex (q ++ b :: rest) k = .error (k + q.length)
  | _, [], _, _, b, rest, k, e, h32, _, _, _ => lex_bad h32 e
  | 0, c :: r, h, _, _, _, _, _, _, _, _, _ => absurd h (by simp)
  | N + 1, c :: r, hN, g, b, rest, k, e, h32, hl, hd, h61 => by
    have hr : r.length ≤ N := by simpa using hN
    show lex (c :: (r ++ b :: rest)) k = _
    by_cases z : c = 32
    · subst z
      rw [lex_sp, lex_stops N r hr (g.tail1 (by decide)) b rest (k + 1) e h32 hl hd h61]
      show Except.error (k + 1 + r.length) = Except.error (k + (r.length + 1))
      congr 1
      omega
    have fin : ∀ (kd : Kd) (m : Nat), step (c :: (r ++ b :: rest)) = some (kd, m) → 1 ≤ m → m ≤ (c :: r).length → G ((c :: r).drop m) → lex (c :: (r ++ b :: rest)) k = .error (k + (c :: r).length) := fun kd m hs h1 hm gd => by
      have hdr : (c :: (r ++ b :: rest)).drop m = (c :: r).drop m ++ b :: rest := by
        rw [← List.cons_append]
        exact List.drop_append_of_le_length hm
      have hlen : ((c :: r).drop m).length ≤ N := by
        rw [List.length_drop]
        omega
      rw [lex_tok z hs, hdr, lex_stops N _ hlen gd b rest (k + m) e h32 hl hd h61]
      show Except.error (k + m + ((c :: r).drop m).length) = _
      rw [List.length_drop]
      congr 1
      omega
    by_cases l : isL c = true
    · have run := takeWhile_stop (p := isL) (r := rest) hl (c :: r)
      refine fin .word ((c :: r).takeWhile isL).length ?_ (takeWhile_pos l) (takeWhile_le _ _) (G.run (fun x hx => by have := isL_iff.mp hx; omega) g)
      rw [step_cons, if_pos l]
      exact congrArg (fun t : Cs => some (Kd.word, t.length)) run
    by_cases d : isD c = true
    · have run := takeWhile_stop (p := isD) (r := rest) hd (c :: r)
      refine fin .number ((c :: r).takeWhile isD).length ?_ (takeWhile_pos d) (takeWhile_le _ _) (G.run (fun x hx => by have := isD_iff.mp hx; omega) g)
      rw [step_cons, if_neg l, if_pos d]
      exact congrArg (fun t : Cs => some (Kd.number, t.length)) run
    by_cases o : isO ((c :: (r ++ b :: rest)).take 2) = true
    · have o' := o
      unfold isO at o'
      rw [decide_eq_true_eq] at o'
      have hc : ∃ r', r = 61 :: r' := by
        cases r with
        | nil =>
          have o2 : ([c, b] : Cs) = [33, 61] ∨ ([c, b] : Cs) = [60, 61] ∨ ([c, b] : Cs) = [62, 61] := o'
          rcases o2 with y | y | y <;> exact absurd (List.cons.inj (List.cons.inj y).2).1 h61
        | cons x r' =>
          have o2 : ([c, x] : Cs) = [33, 61] ∨ ([c, x] : Cs) = [60, 61] ∨ ([c, x] : Cs) = [62, 61] := o'
          rcases o2 with y | y | y <;> exact ⟨r', by rw [(List.cons.inj (List.cons.inj y).2).1]⟩
      obtain ⟨r', rfl⟩ := hc
      refine fin .sign 2 (by rw [step_cons, if_neg l, if_neg d, if_pos o]) (by decide) (by simp) ?_
      show G r'
      cases g with
      | ex h => exact h
      | one _ h => exact h.tail1 (by decide)
    by_cases s : isS c = true
    · have n33 : c ≠ 33 := fun y => by
        have := isS_iff.mp s
        omega
      exact fin .sign 1 (by rw [step_cons, if_neg l, if_neg d, if_neg o, if_pos s]) (by decide) (by simp) (g.tail1 n33)
    · cases g with
      | ex h => exact absurd (show isO [33, 61] = true by decide) o
      | one oc _ => exact absurd oc fun y => y.elim l fun y => y.elim d fun y => y.elim z s
theorem G.take : ∀ {l : Cs}, G l → ∀ n, G (l.take n) ∨ ∃ q, l.take n = q ++ [33] ∧ G q := by
  intro l h
  induction h with
  | nil => intro n; exact .inl (by rw [List.take_nil]; exact .nil)
  | @ex r h ih =>
    intro n
    match n with
    | 0 => exact .inl .nil
    | 1 => exact .inr ⟨[], rfl, .nil⟩
    | n + 2 =>
      rcases ih n with a | ⟨q, e, g⟩
      · exact .inl (.ex a)
      · exact .inr ⟨33 :: 61 :: q, by rw [List.take_succ_cons, List.take_succ_cons, e]; rfl, .ex g⟩
  | @one c r o h ih =>
    intro n
    match n with
    | 0 => exact .inl .nil
    | n + 1 =>
      rcases ih n with a | ⟨q, e, g⟩
      · exact .inl (.one o a)
      · exact .inr ⟨c :: q, by rw [List.take_succ_cons, e]; rfl, .one o g⟩
theorem G.last {l : Cs} (h : G l) : ∀ q, l ≠ q ++ [33] := by
  induction h with
  | nil => intro q e; simp at e
  | @ex r h ih =>
    intro q e
    match q with
    | [] => cases e
    | [x] => have := (List.cons.inj (List.cons.inj e).2).1; omega
    | x :: y :: q => exact ih q (List.cons.inj (List.cons.inj e).2).2
  | @one c r o h ih =>
    intro q e
    match q with
    | [] => exact ok33 ((List.cons.inj e).1 ▸ o)
    | x :: q => exact ih q (List.cons.inj e).2
def spoilers : Cs := [35, 65, 46, 33, 42, 59, 95]
theorem read_spoilt {l : Cs} (g : G l) {n s : Nat} (hn : n ≤ l.length) (hs : s ∈ spoilers) : readF (l.take n ++ (s :: 32 :: l.drop n)) = .error (if (l.take n).getLast? = some 33 then n else n + 1) := by
  have hlen : (l.take n).length = n := by rw [List.length_take]; omega
  have sp : s ≠ 32 ∧ isL s = false ∧ isD s = false ∧ s ≠ 61 ∧ isS s = false ∧ isO [s, 32] = false := by
    unfold spoilers at hs
    simp only [List.mem_cons, List.not_mem_nil, or_false] at hs
    rcases hs with rfl | rfl | rfl | rfl | rfl | rfl | rfl <;> exact ⟨by decide, by decide +kernel, by decide +kernel, by decide, by decide +kernel, by decide⟩
  obtain ⟨a1, a2, a3, a4, a5, a6⟩ := sp
  have st : step (s :: 32 :: l.drop n) = none := by
    rw [step_cons, a2, a3, show (s :: 32 :: l.drop n).take 2 = [s, 32] from rfl, a6, a5]
    rfl
  unfold readF
  rcases g.take n with a | ⟨q, e, g2⟩
  · rw [lex_stops _ _ (Nat.le_refl _) a s (32 :: l.drop n) 1 st a1 a2 a3 a4, if_neg (fun z => by
      obtain ⟨q, e⟩ := List.getLast?_eq_some_iff.mp z
      exact a.last q e), hlen]
    show Except.error (1 + n) = _
    rw [Nat.add_comm]
  · have st2 : step (33 :: s :: 32 :: l.drop n) = none := by
      have o : isO [33, s] = false := by
        unfold isO
        rw [decide_eq_false]
        rintro (y | y | y)
        · exact a4 (List.cons.inj (List.cons.inj y).2).1
        · have := (List.cons.inj y).1; omega
        · have := (List.cons.inj y).1; omega
      rw [step_cons, show isL 33 = false by decide +kernel, show isD 33 = false by decide +kernel, show (33 :: s :: 32 :: l.drop n).take 2 = [33, s] from rfl, o, show isS 33 = false by decide +kernel]
      rfl
    rw [if_pos (List.getLast?_eq_some_iff.mpr ⟨q, e⟩), e, List.append_assoc]
    show (match lex (q ++ 33 :: s :: 32 :: l.drop n) 1 with | .error e => Except.error e | .ok ts => _) = _
    rw [lex_stops _ _ (Nat.le_refl _) g2 33 (s :: 32 :: l.drop n) 1 st2 (by decide) (by decide +kernel) (by decide +kernel) (by decide)]
    show Except.error (1 + q.length) = _
    have : q.length + 1 = n := by
      rw [← hlen, e]
      simp
    congr 1
    omega
/-! ### the texts of formulas are good -/
theorem g_let {a : Cs} (h : ∀ c ∈ a, isL c = true) : G a := G.all fun c hc => .inl (h c hc)
theorem g_dig {k : Int} (h : k.natAbs ≤ 9) : G (dig k) := G.all fun c hc => .inr (.inl (mem_dig h c hc).2)
theorem g_sp : G [32] := .one (.inr (.inr (.inl rfl))) .nil
theorem okS {c : Nat} (h : c = 61 ∨ c = 60 ∨ c = 62 ∨ c = 58 ∨ c = 40 ∨ c = 41 ∨ c = 43 ∨ c = 45) : okc c := .inr (.inr (.inr (isS_iff.mpr h)))
theorem g_atom {n : Cs} {k : Int} (a : atomOk n k) : G (atomT plain n k) := by
  obtain ⟨hn, hk⟩ := a
  have hd := g_dig hk
  unfold atomT
  by_cases z : n = w0
  · rw [if_pos z]
    split
    · exact .one (okS (by omega)) hd
    · exact hd
  · rw [if_neg z]
    have hl := g_let (hn.resolve_left z).2.1
    split
    · exact hl
    · split
      · exact hl.app (g_sp.app (.one (okS (by omega)) (g_sp.app hd)))
      · exact hl.app (g_sp.app (.one (okS (by omega)) (g_sp.app hd)))
theorem g_eqs {o : Cs} (h : o ∈ ops) : G (plain.eqs o) := by
  have b : okc 32 := .inr (.inr (.inl rfl))
  unfold ops at h
  simp only [List.mem_cons, List.not_mem_nil, or_false] at h
  rcases h with rfl | rfl | rfl | rfl | rfl | rfl
  · exact .one b (.one (okS (by omega)) (.one b .nil))
  · exact .one b (.ex (.one b .nil))
  · exact .one b (.one (okS (by omega)) (.one b .nil))
  · exact .one b (.one (okS (by omega)) (.one (okS (by omega)) (.one b .nil)))
  · exact .one b (.one (okS (by omega)) (.one b .nil))
  · exact .one b (.one (okS (by omega)) (.one (okS (by omega)) (.one b .nil)))
theorem g_col : G [58, 32] := .one (okS (by omega)) g_sp
theorem g_pre (m : Md) : G (preT plain m) := by
  cases m
  · exact .nil
  · exact .nil
  · exact g_col
theorem g_opn (m : Md) : G (opnT plain m) := by
  cases m
  · exact .nil
  · exact .one (okS (by omega)) .nil
  · exact g_col
theorem g_cls (m : Md) : G (clsT plain m) := by
  cases m
  · exact .nil
  · exact .one (okS (by omega)) .nil
  · exact .nil
mutual
theorem g_tx : ∀ (f : Fm) (m : Md) (bd : List Cs), wf bd f → G (tx plain m f)
  | .cmp op n1 k1 n2 k2, m, bd, h => by
    rw [tx_cmp]
    exact (g_pre m).app ((g_atom h.2.1).app ((g_eqs h.1).app (g_atom h.2.2)))
  | .neg f, m, bd, h => by
    rw [tx_neg]
    exact (g_pre m).app ((g_let (word_let (w := wNot) (by simp)).2).app (g_sp.app (g_tx f .enc bd h)))
  | .row w fs, m, bd, h => by
    rw [tx_row]
    exact (g_opn m).app ((g_tj fs w bd h.1 h.2.2).app (g_cls m))
  | .qu w n f, m, bd, h => by
    obtain ⟨hw, hn, _, hf⟩ := h
    have gw := g_let (word_let (w := w) (hw.elim .inl fun z => .inr (.inl z))).2
    have gn := g_let hn.2.1
    rw [tx_qu]
    refine G.app ?_ ((g_tx f (.blk w) _ hf).app (g_cls m))
    by_cases e : m = .blk w
    · rw [if_pos e]
      exact g_sp.app gn
    · rw [if_neg e]
      exact (g_opn m).app (gw.app (g_sp.app gn))
theorem g_tj : ∀ (fs : List Fm) (w : Cs) (bd : List Cs), (w = wAnd ∨ w = wOr) → wfs bd fs → G (tjT plain w fs)
  | [], w, bd, _, _ => by
    rw [tjT_nil]
    exact .nil
  | f :: fs, w, bd, hw, h => by
    have gw := g_let (word_let (w := w) (hw.elim (fun z => .inr (.inr (.inr (.inl z)))) fun z => .inr (.inr (.inr (.inr z))))).2
    rw [tjT_cons]
    refine (g_tx f .enc bd h.1).app ?_
    by_cases e : fs.isEmpty = true
    · rw [if_pos e]
      exact .nil
    · rw [if_neg e]
      exact g_sp.app (gw.app (g_sp.app (g_tj fs w bd hw h.2)))
end
/-! ### the last word is left out -/
def alnum (c : Nat) : Bool := isL c || isD c
structure Cut (t : Cs) (ws : List Cs) : Prop where
  ex : ∃ (body lt : Cs) (w1 : List Cs) (w : Cs), t = body ++ lt ∧ ws = w1 ++ [w] ∧ Lexes body w1 ∧ body ≠ [] ∧
    (lt = [41] ∨ (lt ≠ [] ∧ (∀ c ∈ lt, alnum c = true) ∧ ∃ b x, body = b ++ [x] ∧ alnum x = false))
theorem Cut.glue {a t : Cs} {wa ws : List Cs} (c : Cut t ws) (h : ∀ body w1, body ≠ [] → (∃ lt, t = body ++ lt) → Lexes body w1 → Lexes (a ++ body) (wa ++ w1)) : Cut (a ++ t) (wa ++ ws) := by
  obtain ⟨body, lt, w1, w, rfl, rfl, l, nb, k⟩ := c.ex
  refine ⟨a ++ body, lt, wa ++ w1, w, by rw [List.append_assoc], by rw [List.append_assoc], h body w1 nb ⟨lt, rfl⟩ l, fun z => nb (List.append_eq_nil_iff.mp z).2, ?_⟩
  rcases k with k | ⟨k1, k2, b, x, rfl, k3⟩
  · exact .inl k
  · exact .inr ⟨k1, k2, a ++ b, x, by rw [List.append_assoc], k3⟩
theorem Cut.after {a t : Cs} {wa ws : List Cs} (h : Lexes0 a wa) (c : Cut t ws) : Cut (a ++ t) (wa ++ ws) := c.glue fun _ _ _ _ l => h.app l
theorem Cut.behind {a t : Cs} {wa ws : List Cs} (h : Lexes a wa) (c : Cut t ws) (s : sepH t) : Cut (a ++ t) (wa ++ ws) := c.glue fun body w1 nb ⟨lt, e⟩ l => by
  refine h.app l ⟨nb, ?_⟩
  cases body with
  | nil => exact absurd rfl nb
  | cons x body =>
    subst e
    exact s.2
theorem alnum_let {n : Cs} (h : ∀ c ∈ n, isL c = true) : ∀ c ∈ n, alnum c = true := fun c hc => by
  unfold alnum
  rw [h c hc]
  rfl
theorem alnum_dig {k : Int} (h : k.natAbs ≤ 9) : ∀ c ∈ dig k, alnum c = true := fun c hc => by
  unfold alnum
  rw [(mem_dig h c hc).2, Bool.or_true]
theorem alnum32 : alnum 32 = false := by decide +kernel
theorem alnum45 : alnum 45 = false := by decide +kernel
/-- behind a text whose last sign is none of a word -/
theorem cut_atom {n : Cs} {k : Int} (a : atomOk n k) {p : Cs} {x : Nat} {wp : List Cs} (lp : Lexes0 (p ++ [x]) wp) (hx : alnum x = false) : Cut ((p ++ [x]) ++ atomT plain n k) (wp ++ atomK n k) := by
  obtain ⟨hn, hk⟩ := a
  have ad := alnum_dig hk
  have nd : dig k ≠ [] := List.cons_ne_nil _ _
  unfold atomT atomK
  by_cases z : n = w0
  · rw [if_pos z, if_pos z]
    by_cases neg : k < 0
    · rw [if_pos neg, if_pos neg]
      exact ⟨(p ++ [x]) ++ [45], dig k, wp ++ [[45]], dig k, by simp, by simp, (lp.app0 (lexes_sign (by omega))).weak, by simp, .inr ⟨nd, ad, p ++ [x], 45, rfl, alnum45⟩⟩
    · rw [if_neg neg, if_neg neg]
      exact ⟨p ++ [x], dig k, wp, dig k, rfl, rfl, lp.weak, by simp, .inr ⟨nd, ad, p, x, rfl, hx⟩⟩
  · rw [if_neg z, if_neg z]
    have nm := hn.resolve_left z
    by_cases k0 : k = 0
    · rw [if_pos k0, if_pos k0]
      exact ⟨p ++ [x], n, wp, n, rfl, rfl, lp.weak, by simp, .inr ⟨nm.1, alnum_let nm.2.1, p, x, rfl, hx⟩⟩
    · rw [if_neg k0, if_neg k0]
      have tail : ∀ s, s = 45 ∨ s = 43 → Cut ((p ++ [x]) ++ (n ++ ([32] ++ (s :: ([32] ++ dig k))))) (wp ++ [n, [s], dig k]) := fun s hs => by
        refine ⟨(p ++ [x]) ++ (n ++ ([32] ++ ([s] ++ [32]))), dig k, wp ++ [n, [s]], dig k, by simp, by simp, ?_, by simp, .inr ⟨nd, ad, (p ++ [x]) ++ (n ++ ([32] ++ [s])), 32, by simp, alnum32⟩⟩
        exact (lp.app0 (wb := [n, [s]]) ((lexes_word nm.1 nm.2.1).app0 (wb := [[s]]) (lexes_sp.app0 (wb := [[s]]) ((lexes_sign (c := s) (by omega)).app0 lexes_sp)) (sepH.app' (sepH_cons isL32 isD32) _))).weak
      by_cases neg : k < 0
      · rw [if_pos neg, if_pos neg]
        exact tail 45 (.inl rfl)
      · rw [if_neg neg, if_neg neg]
        exact tail 43 (.inr rfl)
theorem eqs_snoc (o : Cs) : plain.eqs o = (32 :: o) ++ [32] := rfl
theorem Cut.close {t : Cs} {ws : List Cs} (h : Lexes t ws) (nt : t ≠ []) (c : Cut t ws) (m : Md) : Cut (t ++ clsT plain m) (ws ++ cls m) := by
  cases m
  · show Cut (t ++ []) (ws ++ [])
    rw [List.append_nil, List.append_nil]
    exact c
  · exact ⟨t, [41], ws, [41], rfl, rfl, h, nt, .inl rfl⟩
  · show Cut (t ++ []) (ws ++ [])
    rw [List.append_nil, List.append_nil]
    exact c
theorem Cut.ne {t : Cs} {ws : List Cs} (c : Cut t ws) : t ≠ [] := by
  obtain ⟨body, lt, _, _, rfl, _, _, nb, _⟩ := c.ex
  exact fun z => nb (List.append_eq_nil_iff.mp z).1
mutual
theorem cut_tx : ∀ (f : Fm) (m : Md) (bd : List Cs), wf bd f → Cut (tx plain m f) (tk m f)
  | .cmp op n1 k1 n2 k2, m, bd, h => by
    rw [tx_cmp, tk_cmp]
    refine (Cut.after (preT_lex plain_ok m) ?_)
    have l1 : Lexes0 (atomT plain n1 k1 ++ plain.eqs op) (atomK n1 k1 ++ [op]) := (lexes_atom plain_ok h.2.1).app0 (plain_ok.eqs op h.1) (plain_ok.eqH op h.1)
    have e1 : atomT plain n1 k1 ++ plain.eqs op = (atomT plain n1 k1 ++ (32 :: op)) ++ [32] := by rw [eqs_snoc, List.append_assoc]
    have := cut_atom h.2.2 (e1 ▸ l1) alnum32
    rw [← e1, List.append_assoc, List.append_assoc] at this
    exact this
  | .neg f, m, bd, h => by
    rw [tx_neg, tk_neg]
    have wn := word_let (w := wNot) (by simp)
    have hd : Lexes0 (wNot ++ [32]) [wNot] := (lexes_word wn.1 wn.2).app0 lexes_sp (sepH_cons isL32 isD32)
    exact Cut.after (preT_lex plain_ok m) (by
      have := Cut.after hd (cut_tx f .enc bd h)
      rw [List.append_assoc] at this
      exact this)
  | .row w fs, m, bd, h => by
    rw [tx_row, tk_row]
    have ne : fs ≠ [] := fun z => by
      have := h.2.1
      rw [z] at this
      cases this
    have c := cut_tj fs w bd h.1 h.2.2 ne
    exact Cut.after (opnT_lex plain_ok m) (Cut.close (lexes_tj plain_ok fs w bd h.1 h.2.2) c.ne c m)
  | .qu w n f, m, bd, h => by
    rw [tx_qu, tk_qu]
    obtain ⟨hw, hn, _, hf⟩ := h
    have wl := word_let (w := w) (hw.elim .inl fun z => .inr (.inl z))
    have ln := lexes_word hn.1 hn.2.1
    have body := lexes_tx plain_ok f (.blk w) _ hf
    have bh : sepH (tx plain (.blk w) f) := blk_head plain_ok f w
    have c := cut_tx f (.blk w) _ hf
    by_cases e : m = .blk w
    · subst e
      rw [if_pos rfl, if_pos rfl]
      show Cut ((plain.sp ++ n) ++ (tx plain (.blk w) f ++ [])) ([n] ++ (tk (.blk w) f ++ []))
      rw [List.append_nil, List.append_nil]
      exact Cut.behind (plain_ok.sp.app ln) c bh
    · rw [if_neg e, if_neg e]
      have hd : Lexes (opnT plain m ++ (w ++ (plain.sp ++ n))) (opn m ++ [w, n]) := (opnT_lex plain_ok m).app (wb := [w, n]) ((lexes_word wl.1 wl.2).app (wb := [n]) (plain_ok.sp.app ln) (plain_ok.spH.app' _))
      exact Cut.behind hd (Cut.close body c.ne c m) (bh.app' _)
theorem cut_tj : ∀ (fs : List Fm) (w : Cs) (bd : List Cs), (w = wAnd ∨ w = wOr) → wfs bd fs → fs ≠ [] → Cut (tjT plain w fs) (tj w fs)
  | [], w, bd, _, _, n => absurd rfl n
  | f :: fs, w, bd, hw, h, _ => by
    rw [tjT_cons, tj_cons]
    by_cases e : fs.isEmpty = true
    · rw [if_pos e, if_pos e, List.append_nil, List.append_nil]
      exact cut_tx f .enc bd h.1
    · rw [if_neg e, if_neg e]
      have wl := word_let (w := w) (hw.elim (fun z => .inr (.inr (.inr (.inl z)))) fun z => .inr (.inr (.inr (.inr z))))
      have hd : Lexes0 ([32] ++ (w ++ [32])) [w] := lexes_sp.app0 (wb := [w]) ((lexes_word wl.1 wl.2).app0 lexes_sp (sepH_cons isL32 isD32))
      have all : Lexes0 (tx plain .enc f ++ ([32] ++ (w ++ [32]))) (tk .enc f ++ [w]) := (lexes_tx plain_ok f .enc bd h.1).app0 hd (sepH_cons isL32 isD32)
      have c := Cut.after all (cut_tj fs w bd hw h.2 (fun z => e (by rw [z]; rfl)))
      rw [List.append_assoc, List.append_assoc, List.append_assoc, List.append_assoc] at c
      exact c
end
theorem read_cut {f : Fm} (h : wf [] f) : ∃ body lt : Cs, tx plain .top f = body ++ lt ∧ readF body = .error (body.length + 1) ∧
    (lt = [41] ∨ (lt ≠ [] ∧ (∀ c ∈ lt, alnum c = true) ∧ ∃ b x, body = b ++ [x] ∧ alnum x = false)) := by
  obtain ⟨body, lt, w1, w, e, ew, l, nb, k⟩ := (cut_tx f .top [] h).ex
  refine ⟨body, lt, e, ?_, k⟩
  obtain ⟨ts, i, el⟩ := lex_whole l
  unfold readF
  rw [el]
  have one : ∃ t : Tok, Is [t] [w] := ⟨⟨w, kdOf w, 0⟩, .cons rfl rfl .nil⟩
  obtain ⟨t, it⟩ := one
  refine parse_cut h (t := t) ?_
  rw [ew]
  exact i.app it
/-! ### how long they are -/
structure StyLen (σ : Sty) : Prop where
  sp : σ.sp.length ≤ 3
  op : σ.op.length ≤ 3
  cl : σ.cl.length ≤ 3
  col : σ.col.length ≤ 4
  eqs : ∀ o ∈ ops, (σ.eqs o).length ≤ 8
theorem len_atom {σ : Sty} (S : StyLen σ) {n : Cs} {k : Int} (a : atomOk n k) : (atomT σ n k).length ≤ 16 := by
  obtain ⟨hn, hk⟩ := a
  have := S.sp
  have d1 : (dig k).length = 1 := rfl
  unfold atomT
  by_cases z : n = w0
  · rw [if_pos z]
    split
    · rw [List.length_cons, d1]; omega
    · rw [d1]; omega
  · rw [if_neg z]
    have nm := (hn.resolve_left z).2.2.1
    split
    · omega
    · split
      · rw [List.length_append, List.length_append, List.length_cons, List.length_append, d1]; omega
      · rw [List.length_append, List.length_append, List.length_cons, List.length_append, d1]; omega
theorem len_pre {σ : Sty} (S : StyLen σ) (m : Md) : (preT σ m).length ≤ 4 := by
  cases m
  · exact Nat.zero_le _
  · exact Nat.zero_le _
  · exact S.col
theorem len_opn {σ : Sty} (S : StyLen σ) (m : Md) : (opnT σ m).length ≤ 4 := by
  cases m
  · exact Nat.zero_le _
  · exact Nat.le_succ_of_le S.op
  · exact S.col
theorem len_cls {σ : Sty} (S : StyLen σ) (m : Md) : (clsT σ m).length ≤ 3 := by
  cases m
  · exact Nat.zero_le _
  · exact S.cl
  · exact Nat.zero_le _
theorem len_word {w : Cs} (h : w = wAll ∨ w = wSome ∨ w = wNot ∨ w = wAnd ∨ w = wOr) : w.length ≤ 4 := by
  rcases h with rfl | rfl | rfl | rfl | rfl <;> decide
mutual
theorem len_tx {σ : Sty} (S : StyLen σ) : ∀ (f : Fm) (m : Md) (bd : List Cs), wf bd f → (tx σ m f).length ≤ 64 * sz f
  | .cmp op n1 k1 n2 k2, m, bd, h => by
    rw [tx_cmp, List.length_append, List.length_append, List.length_append]
    have := len_pre S m
    have := len_atom S h.2.1
    have := len_atom S h.2.2
    have := S.eqs op h.1
    simp only [sz]
    omega
  | .neg f, m, bd, h => by
    rw [tx_neg, List.length_append, List.length_append, List.length_append]
    have := len_pre S m
    have := S.sp
    have := len_tx S f .enc bd h
    simp only [sz]
    have l3 : wNot.length = 3 := rfl
    omega
  | .row w fs, m, bd, h => by
    rw [tx_row, List.length_append, List.length_append]
    have := len_opn S m
    have := len_cls S m
    have := len_tj S fs w bd h.1 h.2.2
    simp only [sz]
    omega
  | .qu w n f, m, bd, h => by
    rw [tx_qu, List.length_append, List.length_append]
    obtain ⟨hw, hn, _, hf⟩ := h
    have := len_opn S m
    have := len_cls S m
    have := S.sp
    have := hn.2.2.1
    have := len_word (w := w) (hw.elim .inl fun z => .inr (.inl z))
    have := len_tx S f (.blk w) _ hf
    simp only [sz]
    split
    · rw [List.length_append]; omega
    · rw [List.length_append, List.length_append, List.length_append]; omega
theorem len_tj {σ : Sty} (S : StyLen σ) : ∀ (fs : List Fm) (w : Cs) (bd : List Cs), (w = wAnd ∨ w = wOr) → wfs bd fs → (tjT σ w fs).length ≤ 64 * szs fs
  | [], w, bd, _, _ => by
    rw [tjT_nil]
    exact Nat.zero_le _
  | f :: fs, w, bd, hw, h => by
    rw [tjT_cons, List.length_append]
    have := S.sp
    have := len_word (w := w) (hw.elim (fun z => .inr (.inr (.inr (.inl z)))) fun z => .inr (.inr (.inr (.inr z))))
    have := len_tx S f .enc bd h.1
    have := len_tj S fs w bd hw h.2
    simp only [szs]
    split
    · rw [List.length_nil]; omega
    · rw [List.length_append, List.length_append, List.length_append]; omega
end
theorem plain_len : StyLen plain := ⟨by decide, by decide, by decide, by decide, ops_all (by decide)⟩
theorem wide_len : StyLen wide := ⟨by decide, by decide, by decide, by decide, ops_all (by decide)⟩
theorem wide1_len : StyLen wide1 := ⟨by decide, by decide, by decide, by decide, ops_all (by decide)⟩
theorem wide2_len : StyLen wide2 := ⟨by decide, by decide, by decide, by decide, ops_all (by decide)⟩
theorem mid_len : StyLen mid := ⟨by decide, by decide, by decide, by decide, ops_all (by decide)⟩
theorem narrow_len : StyLen narrow := ⟨by decide, by decide, by decide, by decide, ops_all (by decide)⟩
end Fx
namespace Fx
open PySem
/-! # what else the law asks of texts and formulas -/
theorem rstrip_cs {x y : Str} {a b : Cs} (h : cs x = a ++ b) (hb : ∀ c ∈ b, y.cps.contains c = true) (ha : ∃ a' z, a = a' ++ [z] ∧ y.cps.contains z = false) : cs (Txt.rstripChars x y) = a := by
  unfold Txt.rstripChars
  rw [PyProof.Rows.stripBy_eq]
  have hx : x.cps.toList = a ++ b := h
  have lo : stripLo y.cps.contains false x = 0 := rfl
  rw [lo]
  have hi : stripHi y.cps.contains true x 0 = a.length := by
    unfold stripHi
    rw [if_pos rfl, List.drop_zero, hx, List.reverse_append]
    obtain ⟨a', z, rfl, hz⟩ := ha
    rw [List.reverse_append]
    have run : (b.reverse ++ ([z].reverse ++ a'.reverse)).takeWhile y.cps.contains = b.reverse := takeWhile_run (fun c hc => hb c (List.mem_reverse.mp hc)) fun c r e => by
      have e' : z :: a'.reverse = c :: r := e
      rw [← (List.cons.inj e').1]
      exact hz
    rw [run, List.length_reverse]
    have : x.length = (a' ++ [z]).length + b.length := by rw [← cs_len, h, List.length_append]
    omega
  rw [hi]
  show (x.cps.extract 0 a.length).toList = a
  rw [Array.toList_extract, hx]
  simp
/-! ### free names -/
abbrev fnName (bd : List Cs) (n : Cs) : Bool := !decide (n = w0) && !decide (n ∈ bd)
mutual
def fr : List Cs → Fm → List Cs
  | bd, .cmp _ n1 _ n2 _ => [n1, n2].filter (fnName bd)
  | bd, .neg f => fr bd f
  | bd, .row _ fs => frs bd fs
  | bd, .qu _ n f => fr (n :: bd) f
def frs : List Cs → List Fm → List Cs
  | _, [] => []
  | bd, f :: fs => fr bd f ++ frs bd fs
end
def add1 (a : List Cs) (x : Cs) : List Cs := if x ∈ a then a else a ++ [x]
def addAll (a l : List Cs) : List Cs := l.foldl add1 a
theorem addAll_app (a l m : List Cs) : addAll a (l ++ m) = addAll (addAll a l) m := List.foldl_append ..
theorem fn_congr {bd bd' : List Cs} (h : ∀ x, x ∈ bd ↔ x ∈ bd') (n : Cs) : fnName bd n = fnName bd' n := by
  show (!decide (n = w0) && !decide (n ∈ bd)) = (!decide (n = w0) && !decide (n ∈ bd'))
  rw [decide_eq_decide.mpr (h n)]
mutual
theorem fr_congr : ∀ (f : Fm) (bd bd' : List Cs), (∀ x, x ∈ bd ↔ x ∈ bd') → fr bd f = fr bd' f
  | .cmp _ n1 _ n2 _, bd, bd', h => by
    unfold fr
    congr 1
    funext n
    exact fn_congr h n
  | .neg f, bd, bd', h => by
    unfold fr
    exact fr_congr f bd bd' h
  | .row _ fs, bd, bd', h => by
    unfold fr
    exact frs_congr fs bd bd' h
  | .qu _ n f, bd, bd', h => by
    unfold fr
    exact fr_congr f _ _ fun x => by rw [List.mem_cons, List.mem_cons, h x]
theorem frs_congr : ∀ (fs : List Fm) (bd bd' : List Cs), (∀ x, x ∈ bd ↔ x ∈ bd') → frs bd fs = frs bd' fs
  | [], _, _, _ => by rw [frs, frs]
  | f :: fs, bd, bd', h => by
    unfold frs
    rw [fr_congr f bd bd' h, frs_congr fs bd bd' h]
end
inductive It where
  | f (g : Fm)
  | leave (n : Cs)
def res : List It → List Cs → List Cs → List Cs
  | [], _, found => found
  | .f g :: s, bd, found => res s bd (addAll found (fr bd g))
  | .leave n :: s, bd, found => res s (bd.erase n) found
theorem res_list : ∀ (fs : List Fm) (s : List It) (bd found : List Cs), res (fs.map It.f ++ s) bd found = res s bd (addAll found (frs bd fs))
  | [], s, bd, found => by
    rw [frs]
    rfl
  | f :: fs, s, bd, found => by
    rw [frs]
    show res (fs.map It.f ++ s) bd (addAll found (fr bd f)) = _
    rw [res_list fs s bd, addAll_app]
theorem res_cmp (op n1 n2 : Cs) (k1 k2 : Int) (s : List It) (bd found : List Cs) : res (.f (.cmp op n1 k1 n2 k2) :: s) bd found = res s bd (addAll found ([n1, n2].filter (fnName bd))) := by
  show res s bd (addAll found (fr bd _)) = _
  rw [fr]
theorem res_neg (g : Fm) (s : List It) (bd found : List Cs) : res (.f (.neg g) :: s) bd found = res (.f g :: s) bd found := by
  show res s bd (addAll found (fr bd _)) = res s bd (addAll found (fr bd g))
  rw [fr]
theorem res_row (w : Cs) (fs : List Fm) (s : List It) (bd found : List Cs) : res (.f (.row w fs) :: s) bd found = res (fs.map It.f ++ s) bd found := by
  rw [res_list]
  show res s bd (addAll found (fr bd _)) = _
  rw [fr]
theorem res_qu (w n : Cs) (g : Fm) (s : List It) (bd found : List Cs) : res (.f (.qu w n g) :: s) bd found = res (.f g :: .leave n :: s) (n :: bd) found := by
  show res s bd (addAll found (fr bd _)) = res s ((n :: bd).erase n) (addAll found (fr (n :: bd) g))
  rw [fr, List.erase_cons_head]
/-- the first of each -/
def firsts (l : List Cs) : List Cs := addAll [] l
theorem mem_add {a : List Cs} {x y : Cs} : y ∈ add1 a x ↔ y ∈ a ∨ y = x := by
  unfold add1
  by_cases h : x ∈ a
  · rw [if_pos h]
    exact ⟨.inl, fun z => z.elim id fun e => e ▸ h⟩
  · rw [if_neg h, List.mem_append, List.mem_singleton]
theorem mem_addAll {l a : List Cs} {y : Cs} : y ∈ addAll a l ↔ y ∈ a ∨ y ∈ l := by
  induction l generalizing a with
  | nil => simp [addAll]
  | cons x l ih =>
    show y ∈ addAll (add1 a x) l ↔ _
    rw [ih, mem_add, List.mem_cons, or_assoc]
theorem firsts_snoc (l : List Cs) (x : Cs) : firsts (l ++ [x]) = if x ∈ l then firsts l else firsts l ++ [x] := by
  unfold firsts
  rw [addAll_app]
  show add1 (addAll [] l) x = _
  unfold add1
  have e : x ∈ addAll [] l ↔ x ∈ l := by
    rw [mem_addAll]
    simp
  by_cases h : x ∈ l
  · rw [if_pos h, if_pos (e.mpr h)]
  · rw [if_neg h, if_neg (fun z => h (e.mp z))]
/-! ### what is written -/
inductive Wi where
  | t (s : Cs)
  | f (g : Fm)
def wtx : List Wi → Cs
  | [] => []
  | .t s :: r => s ++ wtx r
  | .f g :: r => tx plain .top g ++ wtx r
theorem wtx_app : ∀ a b : List Wi, wtx (a ++ b) = wtx a ++ wtx b
  | [], b => rfl
  | .t s :: a, b => by
    show s ++ wtx (a ++ b) = _
    rw [wtx_app a b, ← List.append_assoc]
    rfl
  | .f g :: a, b => by
    show tx plain .top g ++ wtx (a ++ b) = _
    rw [wtx_app a b, ← List.append_assoc]
    rfl
def isCN : Fm → Bool
  | .cmp .. => true
  | .neg _ => true
  | _ => false
def encW (g : Fm) : List Wi := if isCN g then [.f g] else [.t [40], .f g, .t [41]]
theorem enc_text (g : Fm) : wtx (encW g) = tx plain .enc g := by
  cases g with
  | cmp op n1 k1 n2 k2 =>
    show tx plain .top _ ++ [] = _
    rw [tx_cmp, tx_cmp, List.append_nil]
    rfl
  | neg g =>
    show tx plain .top _ ++ [] = _
    rw [tx_neg, tx_neg, List.append_nil]
    rfl
  | row w fs =>
    show [40] ++ (tx plain .top _ ++ ([41] ++ [])) = _
    rw [tx_row, tx_row]
    simp [opnT, clsT, plain]
  | qu w n g =>
    show [40] ++ (tx plain .top _ ++ ([41] ++ [])) = _
    rw [tx_qu, tx_qu, if_neg (by intro z; cases z), if_neg (by intro z; cases z)]
    simp [opnT, clsT, plain]
def rowW (w : Cs) : List Fm → List Wi
  | [] => []
  | f :: fs => encW f ++ (if fs.isEmpty then [] else .t (32 :: (w ++ [32])) :: rowW w fs)
theorem row_text (w : Cs) : ∀ fs : List Fm, wtx (rowW w fs) = tjT plain w fs
  | [] => by rw [tjT_nil]; rfl
  | f :: fs => by
    rw [tjT_cons]
    show wtx (encW f ++ _) = _
    rw [wtx_app, enc_text]
    congr 1
    by_cases e : fs.isEmpty = true
    · rw [if_pos e, if_pos e]
      rfl
    · rw [if_neg e, if_neg e]
      show (32 :: (w ++ [32])) ++ wtx (rowW w fs) = _
      rw [row_text w fs]
      simp [plain]
/-- names with blanks between -/
def spaced : List Cs → Cs
  | [] => []
  | n :: ns => 32 :: n ++ spaced ns
theorem blk_text (w : Cs) : ∀ f : Fm, tx plain (.blk w) f = spaced (strip w f).1 ++ (58 :: 32 :: tx plain .top (strip w f).2)
  | .cmp .. => by
    rw [tx_cmp]
    show _ = [] ++ (58 :: 32 :: tx plain .top (.cmp ..))
    rw [tx_cmp]
    rfl
  | .neg _ => by
    rw [tx_neg]
    show _ = [] ++ (58 :: 32 :: tx plain .top (.neg _))
    rw [tx_neg]
    rfl
  | .row .. => by
    rw [tx_row]
    show _ = [] ++ (58 :: 32 :: tx plain .top (.row ..))
    rw [tx_row]
    rfl
  | .qu w' n f => by
    rw [tx_qu, strip_qu]
    by_cases h : w' = w
    · subst h
      rw [if_pos rfl, if_pos rfl]
      show (plain.sp ++ n) ++ (tx plain (.blk w') f ++ []) = (32 :: n ++ spaced (strip w' f).1) ++ (58 :: 32 :: tx plain .top (strip w' f).2)
      rw [List.append_nil, blk_text w' f]
      simp [plain]
    · rw [if_neg h, if_neg (fun e => h (Md.blk.inj e).symm)]
      show (plain.col ++ (w' ++ (plain.sp ++ n))) ++ (tx plain (.blk w') f ++ []) = [] ++ (58 :: 32 :: tx plain .top (.qu w' n f))
      rw [tx_qu, if_neg (by intro z; cases z)]
      simp [plain, opnT, clsT]
theorem qu_text (w n : Cs) (f : Fm) : tx plain .top (.qu w n f) = w ++ spaced (n :: (strip w f).1) ++ (58 :: 32 :: tx plain .top (strip w f).2) := by
  rw [tx_qu, if_neg (by intro z; cases z), blk_text w f]
  simp [plain, opnT, clsT, spaced]
/-! ### small formulas -/
mutual
def sm : Nat → Fm → Prop
  | _, .cmp .. => True
  | 0, _ => False
  | d + 1, .neg f => sm d f
  | d + 1, .row _ fs => fs.length ≤ 3 ∧ sms d fs
  | d + 1, .qu _ _ f => sm d f
def sms : Nat → List Fm → Prop
  | _, [] => True
  | d, f :: fs => sm d f ∧ sms d fs
end
def bnd : Nat → Nat
  | 0 => 1
  | d + 1 => 3 * bnd d + 4
theorem bnd_pos (d : Nat) : 1 ≤ bnd d := by cases d <;> simp [bnd]
theorem bnd_le (d : Nat) : bnd d ≤ bnd (d + 1) := by simp [bnd]; omega
mutual
theorem sm_sz : ∀ (f : Fm) (d : Nat), sm d f → sz f ≤ bnd d
  | .cmp .., d, _ => by
    unfold sz
    exact bnd_pos d
  | .neg f, 0, h => by simp [sm] at h
  | .row _ fs, 0, h => by simp [sm] at h
  | .qu _ _ f, 0, h => by simp [sm] at h
  | .neg f, d + 1, h => by
    have := sm_sz f d (by simpa [sm] using h)
    simp only [sz, bnd]
    omega
  | .row _ fs, d + 1, h => by
    obtain ⟨h1, h2⟩ : fs.length ≤ 3 ∧ sms d fs := by simpa [sm] using h
    have := sms_sz fs d h2
    have : fs.length * (bnd d + 1) ≤ 3 * (bnd d + 1) := Nat.mul_le_mul_right _ h1
    simp only [sz, bnd]
    omega
  | .qu _ _ f, d + 1, h => by
    have := sm_sz f d (by simpa [sm] using h)
    simp only [sz, bnd]
    omega
theorem sms_sz : ∀ (fs : List Fm) (d : Nat), sms d fs → szs fs ≤ fs.length * (bnd d + 1)
  | [], d, _ => by simp [szs]
  | f :: fs, d, h => by
    obtain ⟨h1, h2⟩ : sm d f ∧ sms d fs := by simpa [sms] using h
    have := sm_sz f d h1
    have := sms_sz fs d h2
    simp only [szs, List.length_cons]
    rw [Nat.add_mul]
    omega
end
theorem len_small {σ : Sty} (S : StyLen σ) {f : Fm} {m : Md} {bd : List Cs} (h : wf bd f) (s : sm 4 f) : (tx σ m f).length ≤ 20000 := by
  have a := len_tx S f m bd h
  have b := sm_sz f 4 s
  have c : bnd 4 = 241 := rfl
  omega
/-! ### the known texts -/
def known : List (Str × Nat) := [(("" : Str), 1), (("i" : Str), 2), (("i =" : Str), 4), (("all : i = i" : Str), 5), (("all i i: i = 0" : Str), 7), (("all i: some i: i = 0" : Str), 13), (("i = 00" : Str), 5), (("i = 12345" : Str), 5), (("abcdefghi = 0" : Str), 1), (("i = j k = 0" : Str), 7), (("not" : Str), 4), (("(i = 0" : Str), 7), (("i = 0)" : Str), 6), (("i < = 0" : Str), 5), (("i =< 0" : Str), 4), (("i = 0 and" : Str), 10), (("and = 0" : Str), 1), (("i = 0 or or i = 1" : Str), 10), (("i + j = 0" : Str), 5), (("3 + i = 0" : Str), 3), (("I = 0" : Str), 1), (("i = 0;" : Str), 6), (("i = 0\n" : Str), 6), (("all i j = 0" : Str), 9), (("i ! j" : Str), 3), (("   " : Str), 4), (("some: i = 0" : Str), 5), (("i = 0 not i = 1" : Str), 7), (("all i: i = 0 all j: j = 0" : Str), 14), (("i = 0 and #" : Str), 11), (("((i = 0) or i = 1" : Str), 18), (("i = --1" : Str), 6), (("i - -1 = 0" : Str), 5), (("alli: i = 0" : Str), 5)]
def isErr (c : Nat) : R Fm → Bool
  | .error e => e == c
  | .ok _ => false
theorem isErr_iff {c : Nat} {x : R Fm} (h : isErr c x = true) : x = .error c := by
  cases x with
  | ok f => cases h
  | error e => exact congrArg Except.error (by simpa [isErr] using h)
theorem known_bad : known.all (fun p => isErr p.2 (readF (cs p.1)) && decide (p.1.length ≤ 40)) = true := by decide +kernel
theorem known_len : known.length = 34 := rfl
end Fx
namespace Fx
open PySem PySem.NumText
/-! # words are short; numbers are digits -/
def TokOk (n : Nat) (t : Tok) : Prop := t.w.length ≤ n ∧ t.w ≠ [] ∧ (t.k = .number → AllDigits t.w)
theorem takeWhile_all {p : Nat → Bool} : ∀ l : Cs, ∀ c ∈ l.takeWhile p, p c = true
  | [], c, h => by cases h
  | d :: l, c, h => by
    rw [List.takeWhile_cons] at h
    split at h
    · rename_i e
      rcases List.mem_cons.mp h with z | m
      · exact z ▸ e
      · exact takeWhile_all l c m
    · cases h
theorem take_takeWhile (p : Nat → Bool) : ∀ l : Cs, l.take (l.takeWhile p).length = l.takeWhile p
  | [] => rfl
  | d :: l => by
    rw [List.takeWhile_cons]
    split
    · rw [List.length_cons, List.take_succ_cons, take_takeWhile p l]
    · rfl
theorem lex_toks : ∀ (N : Nat) (l : Cs) (k : Nat) (ts : Tk), l.length ≤ N → lex l k = .ok ts → (∀ t ∈ ts, TokOk l.length t) ∧ ts.length ≤ l.length
  | _, [], k, ts, _, h => by
    rw [lex_nil] at h
    cases h
    exact ⟨fun t ht => absurd ht List.not_mem_nil, Nat.le_refl _⟩
  | 0, c :: r, _, _, h, _ => absurd h (by simp)
  | N + 1, c :: r, k, ts, hN, h => by
    have hr : r.length ≤ N := by simpa using hN
    by_cases z : c = 32
    · subst z
      rw [lex_sp] at h
      obtain ⟨a, b⟩ := lex_toks N r _ ts hr h
      refine ⟨fun t ht => ?_, by rw [List.length_cons]; omega⟩
      obtain ⟨p, q⟩ := a t ht
      exact ⟨by rw [List.length_cons]; omega, q⟩
    · cases e : step (c :: r) with
      | none =>
        rw [lex_bad z e] at h
        cases h
      | some km =>
        obtain ⟨kd, m⟩ := km
        have hm := step_pos e
        rw [lex_tok z e] at h
        cases e2 : lex ((c :: r).drop m) (k + m) with
        | error x => rw [e2] at h; cases h
        | ok ts2 =>
          rw [e2] at h
          have ets : ts = Tok.mk ((c :: r).take m) kd k :: ts2 := (Except.ok.inj h).symm
          subst ets
          have hl : ((c :: r).drop m).length ≤ N := by rw [List.length_drop, List.length_cons]; omega
          obtain ⟨a, b⟩ := lex_toks N _ _ ts2 hl e2
          rw [List.length_drop] at b
          refine ⟨fun t ht => ?_, by rw [List.length_cons]; omega⟩
          rcases List.mem_cons.mp ht with rfl | ht
          · refine ⟨?_, ?_, ?_⟩
            · show ((c :: r).take m).length ≤ _
              rw [List.length_take]
              exact Nat.min_le_right _ _
            · show (c :: r).take m ≠ []
              obtain ⟨m, rfl⟩ : ∃ m', m = m' + 1 := ⟨m - 1, by omega⟩
              rw [List.take_succ_cons]
              exact List.cons_ne_nil _ _
            · show kd = .number → AllDigits ((c :: r).take m)
              intro hk
              subst hk
              rw [step_cons] at e
              by_cases h1 : isL c = true
              · rw [if_pos h1] at e
                cases e
              rw [if_neg h1] at e
              by_cases h2 : isD c = true
              · rw [if_pos h2] at e
                have em : ((c :: r).takeWhile isD).length = m := (Prod.mk.inj (Option.some.inj e)).2
                rw [← em, take_takeWhile]
                exact fun d hd => isD_iff.mp (takeWhile_all _ d hd)
              rw [if_neg h2] at e
              split at e
              · cases e
              · split at e <;> cases e
          · obtain ⟨p, q⟩ := a t ht
            rw [List.length_drop] at p
            exact ⟨by omega, q⟩
theorem digs_val (w : Cs) : digs w = digitsVal w := by
  unfold digs digitsVal
  congr 1
  funext a c
  rw [Nat.mul_comm]
theorem num_text {w : Cs} (h : AllDigits w) (h0 : w ≠ []) (hl : w.length ≤ 4) : intText? (mkS w) = some ((digs w : Nat) : Int) := by
  have e : (mkS w).cps.toList = w := cs_mkS w
  rw [intText_digits (x := mkS w) (by rw [e]; exact h) (by rw [e]; exact h0) (by rw [mkS_len]; omega), e, digs_val]
end Fx
namespace Lo
open PySem L2 Fx
def top (i : Nat) : Stmt := PySem.Challenge.pw_loopsheds_k12_formula_texts.main.body.getD i (.Pass ⟨0, 0, 0, 0⟩)
abbrev sBTInit : Stmt := inClass (top 2) 0
abbrev sWordsOf : Stmt := top 11
abbrev sIsWN : Stmt := top 12
abbrev sWordAt : Stmt := top 13
abbrev sEndRun : Stmt := top 14
abbrev sLvInit : Stmt := inClass (top 17) 0
abbrev sRdInit : Stmt := inClass (top 18) 0
abbrev sWord : Stmt := inClass (top 18) 1
abbrev sIsKind : Stmt := inClass (top 18) 2
abbrev sCheck : Stmt := inClass (top 18) 3
abbrev sTaken : Stmt := inClass (top 18) 4
abbrev sFormula : Stmt := inClass (top 18) 5
abbrev sOpenL : Stmt := inClass (top 18) 6
abbrev sReadQ : Stmt := inClass (top 18) 7
abbrev sCompar : Stmt := inClass (top 18) 8
abbrev sTerm : Stmt := inClass (top 18) 9
abbrev sNumber : Stmt := inClass (top 18) 10
abbrev sClosed : Stmt := inClass (top 18) 11
abbrev sLeft : Stmt := inClass (top 18) 12
abbrev sRow : Stmt := top 19
abbrev sReadF : Stmt := top 20
abbrev sWriteF : Stmt := top 21
abbrev sWritten : Stmt := top 22
abbrev sEnclosed : Stmt := top 23
abbrev sTermT : Stmt := top 24
abbrev sFree : Stmt := top 25
abbrev sDraw : Stmt := top 27
abbrev sLAtom : Stmt := top 28
abbrev sLCompare : Stmt := top 29
abbrev sLTree : Stmt := top 30
abbrev sLTextOf : Stmt := top 31
abbrev sLText : Stmt := top 32
abbrev sLFree : Stmt := top 33
abbrev sLRefused : Stmt := top 34
abbrev sLKnown : Stmt := top 35
abbrev sLaw : Stmt := top 36
/-! ### what the top has left: built-ins, constants -/
structure BltF (mg : Str → Option Value) : Prop where
  abs : mg "abs" = none
/-- a tuple of texts that the top has written -/
def TupW (K : PySem.W.Frag) (a : Addr) (xs : List Str) : Prop := ∀ H : Hp, SqT K H a (xs.map V.str)
structure Cst (K : PySem.W.Frag) (mg : Str → Option Value) (aO aR aK : Addr) : Prop where
  let_ : ∃ t, mg "LETTERS" = some (.str LET t)
  dig_ : ∃ t, mg "DIGITS" = some (.str DIG t)
  word : ∃ t, mg "WORD" = some (.str ("word" : Str) t)
  number : ∃ t, mg "NUMBER" = some (.str ("number" : Str) t)
  sign : ∃ t, mg "SIGN" = some (.str ("sign" : Str) t)
  ops : mg "OPERATORS" = some (.ref aO)
  opsT : TupW K aO (Fx.ops.map mkS)
  res : mg "RESERVED" = some (.ref aR)
  resT : TupW K aR (Fx.resv.map mkS)
  kinds : mg "KINDS" = some (.ref aK)
  kindsT : TupW K aK ([wAll, wSome].map mkS)
theorem inV_strs (x : Str) : ∀ zs : List Str, inV (.str x) (zs.map V.str) = decide (x ∈ zs)
  | [] => by simp [inV]
  | z :: zs => by
    have ih := inV_strs x zs
    unfold inV at ih ⊢
    rw [List.map_cons, List.any_cons, ih]
    show ((z == x) || decide (x ∈ zs)) = decide (x ∈ z :: zs)
    by_cases e : z = x
    · subst e
      simp
    · have e' : (z == x) = false := by simpa using e
      rw [e', Bool.false_or]
      have : (x ∈ z :: zs) ↔ x ∈ zs := by
        rw [List.mem_cons]
        exact ⟨fun h => h.resolve_left fun y => e y.symm, .inr⟩
      rw [decide_eq_decide.mpr this]
theorem inV_mk (x : Cs) (zs : List Cs) : inV (.str (mkS x)) ((zs.map mkS).map V.str) = decide (x ∈ zs) := by
  rw [inV_strs]
  refine decide_eq_decide.mpr ⟨fun h => ?_, fun h => List.mem_map.mpr ⟨x, h, rfl⟩⟩
  obtain ⟨y, hy, e⟩ := List.mem_map.mp h
  exact mkS_inj e ▸ hy
theorem flat_strs (zs : List Str) : (zs.map V.str).all flatV = true := by
  rw [List.all_map]
  exact List.all_eq_true.mpr fun x _ => rfl
theorem same_tup {K : PySem.W.Frag} {H H' : Hp} {a : Addr} {xs : List V} (e : Same H H') (h : SqT K H a xs) : SqT K H' a xs := by
  rcases h with (h | ⟨o, h⟩) | h
  · exact .inl (.inl (e _ _ h))
  · exact .inl (.inr ⟨o, e _ _ h⟩)
  · exact .inr h
theorem yes_of {σ : L2.St} {H : Hp} {Q : Bool → Hp → Prop} (h : Q true H) : tYes σ H Q := h
section
variable {P : Program} {w : World} {K : PySem.W.Frag} {mg : Str → Option Value} {base : Heap}
/-! ### _end_of_run -/
def runTo (t s : Str) (i : Nat) : Nat := i + (((cs t).drop i).takeWhile fun c => decide (c ∈ cs s)).length
theorem runTo_step {t s : Str} {i : Nat} (h : i < t.length) (hc : decide ((cs t)[i]'(by rw [cs_len]; exact h) ∈ cs s) = true) : runTo t s i = runTo t s (i + 1) := by
  unfold runTo
  have hl : i < (cs t).length := by rw [cs_len]; exact h
  rw [List.drop_eq_getElem_cons hl, List.takeWhile_cons, if_pos hc, List.length_cons]
  omega
theorem runTo_stop {t s : Str} {i : Nat} (h : i < t.length) (hc : decide ((cs t)[i]'(by rw [cs_len]; exact h) ∈ cs s) = false) : runTo t s i = i := by
  unfold runTo
  have hl : i < (cs t).length := by rw [cs_len]; exact h
  rw [List.drop_eq_getElem_cons hl, List.takeWhile_cons, if_neg (by rw [hc]; exact Bool.false_ne_true)]
  rfl
theorem runTo_end {t s : Str} {i : Nat} (h : t.length ≤ i) : runTo t s i = i := by
  unfold runTo
  rw [List.drop_eq_nil_of_le (by rw [cs_len]; exact h)]
  rfl
def spEndRun : Sp := fun vs H Q _ => ∃ (t s : Str) (i : Nat), vs = [.str t, .int (i : Nat), .str s] ∧ t.length ≤ sizeLine ∧ Q (.int (runTo t s i : Nat)) H
abbrev nEndRun : List Str := ["text", "at", "signs", "end"]
theorem scEndRun : FnScope nEndRun ["text", "at", "signs"] (defScope sEndRun) := ⟨rfl, rfl, rfl, by decide +kernel, rfl, by decide +kernel, by decide +kernel⟩
theorem ok_endrun {f : Addr} {fd : FuncData} (F : Fun K "_end_of_run" "_end_of_run" sEndRun f fd) (T : Blt mg) : FnOk P w K mg base CX0 1 f fd ["text", "at", "signs"] spEndRun := by
  refine F.ok scEndRun (fun vs H Q E h => ?_) (fun cdv A outer s H vs Q E hr h => ?_)
  · obtain ⟨t, sg, i, rfl, _⟩ := h
    rfl
  · obtain ⟨t, sg, i, rfl, ht, q⟩ := h
    have nd := scEndRun.nd
    refine ⟨_, pss_cons (ps_set (i := 3) nd rfl (.inl rfl) (pv 1))
      (pss_cons (ps_while PassesOwn.never (PW.pt (pw_and (pt_cmpR op_lt (pv 3) (pe_callB call_len_str (by rfl) T.len PySem.boot_len (pa_cons (pv 0) pa_nil)) (nomark _)) (pw_and1 (pt_cmpR op_in_sign (pe_item_str (pv 0) (pv 3) (fun _ _ => rfl)) (pv 2) rfl))))
        (pss_one (ps_set (i := 3) nd rfl (.inl rfl) (pe_op op_add (pv 3) pe_int))))
      (pss_one (ps_ret (pv 3)))), ?_⟩
    refine ⟨_, rfl, fun m σ H' => ∃ j : Nat, m = t.length - j ∧ σ = [some (.str t), some (.int (i : Nat)), some (.str sg), some (.int (j : Nat))] ∧ H' = H ∧ runTo t sg j = runTo t sg i, ⟨_, i, rfl, rfl, rfl, rfl⟩, ?_⟩
    rintro m σ H' ⟨j, rfl, rfl, rfl, e⟩
    refine ⟨_, rfl, _, rfl, t, rfl, ht, _, _, rfl, rfl, _, rfl, ?_⟩
    by_cases hj : j < t.length
    · rw [decide_eq_true (by omega : ((j : Nat) : Int) < (t.length : Nat))]
      have hl : j < (cs t).length := by rw [cs_len]; exact hj
      have hsz : t.length < 2 ^ 63 := Nat.lt_of_le_of_lt ht (by decide)
      refine iteT ⟨_, rfl, _, rfl, t, j, (cs t)[j], rfl, rfl, by omega, by omega, by omega, ?_, ?_⟩
      · rw [Int.toNat_natCast]
        show t.cps[j]? = some (t.cps.toList[j])
        rw [Array.getElem?_eq_getElem (by simpa [Str.length] using hj)]
        rfl
      · refine ⟨_, rfl, (cs t)[j], sg, rfl, rfl, _, rfl, ?_⟩
        cases hc : decide ((cs t)[j] ∈ cs sg) with
        | true =>
          rw [show decide ((cs t)[j] ∈ sg.cps.toList) = true from hc]
          refine iteT ⟨fun σ' H3 => ∃ j' : Nat, j' = j + 1 ∧ σ' = [some (.str t), some (.int (i : Nat)), some (.str sg), some (.int (j' : Nat))] ∧ H3 = H', ?_, ?_⟩
          · rintro σ' H2 ⟨j', rfl, rfl, rfl⟩
            exact ⟨t.length - (j + 1), by omega, j + 1, rfl, rfl, rfl, (runTo_step hj hc).symm.trans e⟩
          · exact ⟨_, rfl, _, _, rfl, rfl, j + 1, rfl, rfl, rfl⟩
        | false =>
          rw [show decide ((cs t)[j] ∈ sg.cps.toList) = false from hc]
          refine iteF ⟨_, rfl, ?_⟩
          rw [← e, runTo_stop hj hc] at q
          exact q
    · rw [decide_eq_false (by omega : ¬ ((j : Nat) : Int) < (t.length : Nat))]
      refine iteF (iteF ⟨_, rfl, ?_⟩)
      rw [← e, runTo_end (by omega)] at q
      exact q
/-! ### is_word_name -/
def spIsWN : Sp := fun vs H Q _ => ∃ x : Cs, vs = [.str (mkS x)] ∧ x.length ≤ sizeLine ∧ Q (.bl (isName x)) H
theorem scIsWN : FnScope ["word"] ["word"] (defScope sIsWN) := ⟨rfl, rfl, rfl, by decide +kernel, rfl, by decide +kernel, by decide +kernel⟩
theorem ok_iswn {f aO aR aK : Addr} {fd : FuncData} (F : Fun K "is_word_name" "is_word_name" sIsWN f fd) (T : Blt mg) (C : Cst K mg aO aR aK) : FnOk P w K mg base CX0 1 f fd ["word"] spIsWN := by
  refine F.ok scIsWN (fun vs H Q E h => ?_) (fun cdv A outer s H vs Q E hr h => ?_)
  · obtain ⟨x, rfl, _⟩ := h
    rfl
  · obtain ⟨x, rfl, hx, q⟩ := h
    refine ⟨_, pss_one (ps_ret (pe_and (pe_cmpR op_le (pe_callB call_len_str (by rfl) T.len PySem.boot_len (pa_cons (pv 0) pa_nil)) pe_int (nomark _)) (pe_one (pe_cmpR op_notIn_seq (pv 0) (pe_glob (v := .ref aR) (by rfl) C.res rfl) (by rfl))))), ?_⟩
    refine ⟨_, rfl, _, rfl, by rw [mkS_len]; exact hx, _, _, rfl, rfl, _, rfl, ?_⟩
    have e1 : decide ((((mkS x).length : Nat) : Int) ≤ 8) = decide (x.length ≤ 8) := by
      rw [mkS_len]
      exact decide_eq_decide.mpr (by omega)
    rw [e1]
    unfold isName at q
    by_cases h8 : x.length ≤ 8
    · rw [decide_eq_true h8, Bool.true_and] at q
      rw [decide_eq_true h8]
      refine iteT ⟨_, rfl, aR, _, rfl, .inr (C.resT H), rfl, flat_strs _, ?_⟩
      rw [inV_mk]
      exact q
    · rw [decide_eq_false h8, Bool.false_and] at q
      rw [decide_eq_false h8]
      exact iteF q
end
end Lo
namespace Lo
open PySem L2 Fx
/-! ### BadText -/
structure BTxt (K : PySem.W.Frag) (mg : Str → Option Value) (CB fB : Addr) : Prop where
  ox : OexC K CB
  nL : PySem.W.findIn K (.ref CB) "line" = some none
  nC : PySem.W.findIn K (.ref CB) "column" = some none
  iC : PySem.W.findIn K (.ref CB) "__init__" = some (some (.ref fB))
  tI : PySem.W.typeIn K (.ref fB) = some (.type "function")
  mg : mg "BadText" = some (.ref CB)
/-- the fields of the error -/
def btF (c : Nat) : List (Str × V) := [("column", .int (c : Nat)), ("line", .int 1)]
section
variable {P : Program} {w : World} {K : PySem.W.Frag} {mg : Str → Option Value} {base : Heap}
def spBTInit (K : PySem.W.Frag) : Sp := fun vs H Q _ => ∃ (a C : Addr) (l c : Int), vs = [.ref a, .int l, .int c] ∧ OexC K C ∧ PySem.W.findIn K (.ref C) "line" = some none ∧ PySem.W.findIn K (.ref C) "column" = some none ∧ H a = some (exo a C none) ∧
  ∀ dx, H dx = none → dx ≠ a → Q .non (upd (upd (upd H dx (exd dx [("line", .int l)])) a (exo a C (some dx))) dx (exd dx [("column", .int c), ("line", .int l)]))
theorem scBTInit : FnScope ["self", "line", "column"] ["self", "line", "column"] (defScope sBTInit) := ⟨rfl, rfl, rfl, by decide +kernel, rfl, by decide +kernel, by decide +kernel⟩
theorem ok_btinit {f : Addr} {fd : FuncData} (F : Fun K "__init__" "BadText.__init__" sBTInit f fd) : FnOk P w K mg base CX0 1 f fd ["self", "line", "column"] (spBTInit K) := by
  refine F.ok scBTInit (fun vs H Q E h => ?_) (fun cdv A outer s H vs Q E hr h => ?_)
  · obtain ⟨a, C, l, c, rfl, _⟩ := h
    rfl
  · obtain ⟨a, C, l, c, rfl, T, n1, n2, ha, q⟩ := h
    refine ⟨_, pss_cons (ps_ost (pv 0) (pv 1)) (pss_one (ps_ost (pv 0) (pv 2))), ?_⟩
    refine ⟨_, rfl, _, rfl, a, C, rfl, T, n1, .inl ⟨ha, fun dx n ne => ?_⟩⟩
    exact ⟨_, rfl, _, rfl, a, C, rfl, T, n2, .inr ⟨dx, _, upd_same, by rw [upd_ne ne]; exact upd_same, by show 1 ≤ 900; decide, q dx n ne⟩⟩
/-- the making of a BadText(1, c) and what leaves -/
theorem bt_out {CB : Addr} {H0 H : Hp} {c : Nat} {E : XK} (s0 : Same H0 H) (T : OexC K CB) (nL : PySem.W.findIn K (.ref CB) "line" = some none) (nC : PySem.W.findIn K (.ref CB) "column" = some none)
    (q : ∀ H' dx, Same H0 H' → H0 dx = none → H' dx = some (.xd (btF c)) → E (.ref CB) (some dx) H') (a : Addr) (na : H a = none) :
    spBTInit K [.ref a, .int 1, .int (c : Nat)] (upd H a (exo a CB none)) (fun v H2 => v = .non ∧ ∃ (d : Addr) (fs : List (Str × V)), H2 a = some (exo a CB (some d)) ∧ H2 d = some (exd d fs) ∧ H d = none ∧ E (.ref CB) (some d) (upd (del H2 a) d (.xd fs))) (fun _ _ _ => False) := by
  refine ⟨a, CB, 1, _, rfl, T, nL, nC, upd_same, fun dx nx ne => ⟨rfl, dx, _, by rw [upd_ne ne.symm]; exact upd_same, upd_same, ?_, ?_⟩⟩
  · rw [upd_ne ne] at nx
    exact nx
  · rw [upd_ne ne] at nx
    refine q _ dx (fun b o e => ?_) (s0.free nx) upd_same
    have e1 := s0 b o e
    have nb : b ≠ dx := ne_of_none e1 nx
    have na' : b ≠ a := ne_of_none e1 na
    rw [upd_ne nb, del_ne na', upd_ne nb, upd_ne na', upd_ne nb, upd_ne na']
    exact e1
/-! ### _word_at -/
def kdS : Kd → Str
  | .word => ("word" : Str)
  | .number => ("number" : Str)
  | .sign => ("sign" : Str)
def spWordAt (CB : Addr) : Sp := fun vs H Q E => ∃ (t : Str) (i : Nat), vs = [.str t, .int (i : Nat)] ∧ t.length ≤ sizeLine ∧ i < t.length ∧
  (∀ kd m, step ((cs t).drop i) = some (kd, m) → ∀ p, H p = none → Q (.ref p) (upd H p (.tup [.str (kdS kd), .int ((i + m : Nat) : Int)]))) ∧
  (step ((cs t).drop i) = none → ∀ H' dx, Same H H' → H dx = none → H' dx = some (.xd (btF (i + 1))) → E (.ref CB) (some dx) H')
abbrev nWordAt : List Str := ["text", "at"]
theorem scWordAt : FnScope nWordAt ["text", "at"] (defScope sWordAt) := ⟨rfl, rfl, rfl, by decide +kernel, rfl, by decide +kernel, by decide +kernel⟩
theorem nat_add1 (i : Nat) : ((i : Nat) : Int) + 1 = ((i + 1 : Nat) : Int) := by omega
theorem nat_add2 (i : Nat) : ((i : Nat) : Int) + 2 = ((i + 2 : Nat) : Int) := by omega
theorem cutS_two {t : Str} {i : Nat} (h : i ≤ t.length) : cutS t (some (i : Nat)) (some ((i + 2 : Nat) : Int)) = mkS (((cs t).drop i).take 2) := by
  unfold cutS
  rw [show HT.sIx t.length 0 (some ((i : Nat) : Int)) = min i t.length from HT.sIx_nat _ _ i, show HT.sIx t.length t.length (some ((i + 2 : Nat) : Int)) = min (i + 2) t.length from HT.sIx_nat _ _ (i + 2)]
  have e : min i t.length = i := Nat.min_eq_left h
  rw [e]
  show mkS _ = _
  congr 1
  show ((cs t).drop i).take (min (i + 2) t.length - i) = ((cs t).drop i).take 2
  by_cases k : i + 2 ≤ t.length
  · rw [Nat.min_eq_left k]
    congr 1
    omega
  · have hl : ((cs t).drop i).length ≤ min (i + 2) t.length - i := by
      rw [List.length_drop, cs_len]
      omega
    have hl2 : ((cs t).drop i).length ≤ 2 := by
      rw [List.length_drop, cs_len]
      omega
    rw [List.take_of_length_le hl, List.take_of_length_le hl2]
theorem ops_two (l : Cs) (h : l.length = 2) : decide (l ∈ Fx.ops) = isO l := by
  unfold isO
  refine decide_eq_decide.mpr ?_
  unfold Fx.ops
  simp only [List.mem_cons, List.not_mem_nil, or_false]
  constructor
  · rintro (rfl | rfl | rfl | rfl | rfl | rfl)
    · cases h
    · exact .inl rfl
    · cases h
    · exact .inr (.inl rfl)
    · cases h
    · exact .inr (.inr rfl)
  · rintro (rfl | rfl | rfl) <;> simp
theorem isO_len {l : Cs} (h : isO l = true) : l.length = 2 := by
  unfold isO at h
  rw [decide_eq_true_eq] at h
  rcases h with rfl | rfl | rfl <;> rfl
theorem ok_wordat {f fE fB CB aO aR aK : Addr} {fd fdE fdB : FuncData} (F : Fun K "_word_at" "_word_at" sWordAt f fd) (T : Blt mg) (C : Cst K mg aO aR aK) (B : BTxt K mg CB fB)
    (GB : FnOk P w K mg base CX0 1 fB fdB ["self", "line", "column"] (spBTInit K)) (bB : Binds K fdB ["self", "line", "column"] [])
    (GE : FnOk P w K mg base CX0 1 fE fdE ["text", "at", "signs"] spEndRun) (kE : PySem.W.keepIn K (.ref fE) = true) (bE : Binds K fdE ["text", "at", "signs"] []) (gE : mg "_end_of_run" = some (.ref fE)) :
    FnOk P w K mg base (L2.CX P w) 3 f fd ["text", "at"] (spWordAt CB) := by
  refine F.okX scWordAt (fun vs H Q E h => ?_) (fun cdv A outer s H vs Q E hr h => ?_)
  · obtain ⟨t, i, rfl, _⟩ := h
    rfl
  · obtain ⟨t, i, rfl, ht, hi, q, qx⟩ := h
    have nd := scWordAt.nd
    obtain ⟨tL, gL⟩ := C.let_
    obtain ⟨tD, gD⟩ := C.dig_
    obtain ⟨tW, gW⟩ := C.word
    obtain ⟨tN, gN⟩ := C.number
    obtain ⟨tS, gS⟩ := C.sign
    have r1 := hr.mono (show 1 ≤ 2 by decide)
    refine ⟨_, pss_cons (ps_if (pt_cmpR op_in_sign (pe_item_str (pv 0) (pv 1) (fun _ _ => rfl)) (pe_glob (v := .str LET) (by rfl) gL ⟨_, rfl⟩) rfl)
        (pss_one (ps_ret (pe_tup (pa_cons (pe_glob (v := .str ("word" : Str)) (by rfl) gW ⟨_, rfl⟩) (pa_cons (pe_call GE r1 (by rfl) gE kE bE .nil pass0 (pa_cons (pv 0) (pa_cons (pv 1) (pa_cons (pe_glob (v := .str LET) (by rfl) gL ⟨_, rfl⟩) pa_nil)))) pa_nil))))) pss_nil)
      (pss_cons (ps_if (pt_cmpR op_in_sign (pe_item_str (pv 0) (pv 1) (fun _ _ => rfl)) (pe_glob (v := .str DIG) (by rfl) gD ⟨_, rfl⟩) rfl)
        (pss_one (ps_ret (pe_tup (pa_cons (pe_glob (v := .str ("number" : Str)) (by rfl) gN ⟨_, rfl⟩) (pa_cons (pe_call GE r1 (by rfl) gE kE bE .nil pass0 (pa_cons (pv 0) (pa_cons (pv 1) (pa_cons (pe_glob (v := .str DIG) (by rfl) gD ⟨_, rfl⟩) pa_nil)))) pa_nil))))) pss_nil)
      (C8.pss_cut (ps_if (PW.pt (pw_and (pt_cmpR op_in_seq (pe_slice sl_str (pv 0) (po_some (pv 1)) (po_some (pe_op op_add (pv 1) pe_int))) (pe_glob (v := .ref aO) (by rfl) C.ops rfl) (by rfl))
            (pw_and1 (pt_cmpR op_eq (pe_callB call_len_str (by rfl) T.len PySem.boot_len (pa_cons (pe_slice sl_str (pv 0) (po_some (pv 1)) (po_some (pe_op op_add (pv 1) pe_int))) pa_nil)) pe_int (nomark _)))))
        (pss_one (ps_ret (pe_tup (pa_cons (pe_glob (v := .str ("sign" : Str)) (by rfl) gS ⟨_, rfl⟩) (pa_cons (pe_op op_add (pv 1) pe_int) pa_nil))))) pss_nil)
      (pss_cons (ps_if (pt_cmpR op_in_sign (pe_item_str (pv 0) (pv 1) (fun _ _ => rfl)) pe_str rfl)
        (pss_one (ps_ret (pe_tup (pa_cons (pe_glob (v := .str ("sign" : Str)) (by rfl) gS ⟨_, rfl⟩) (pa_cons (pe_op op_add (pv 1) pe_int) pa_nil))))) pss_nil)
      (pss_one (ps_raise rfl (takes_of rfl rfl rfl rfl) (pmk_oex B.ox B.iC B.tI GB hr bB .nil pass0 (by rfl) B.mg (pa_cons pe_int (pa_cons (pe_op op_add (pv 1) pe_int) pa_nil)))))))), ?_⟩
    have hl : i < (cs t).length := by rw [cs_len]; exact hi
    have hsz : t.length < 2 ^ 63 := Nat.lt_of_le_of_lt ht (by decide)
    have item : t.cps[((i : Nat) : Int).toNat]? = some ((cs t)[i]) := by
      rw [Int.toNat_natCast]
      show t.cps[i]? = some (t.cps.toList[i])
      rw [Array.getElem?_eq_getElem (by simpa [Str.length] using hi)]
      rfl
    have dr : (cs t).drop i = (cs t)[i] :: (cs t).drop (i + 1) := List.drop_eq_getElem_cons hl
    have i0 : (0 : Int) ≤ (i : Nat) := by omega
    have i1 : ((i : Nat) : Int) < 2 ^ 63 := by omega
    have i2 : ((i : Nat) : Int) < (t.length : Nat) := by omega
    have st := step_cons (cs t)[i] ((cs t).drop (i + 1))
    rw [← dr] at st
    rw [st] at q qx
    have go : ∀ kd (m : Nat), (∀ p, H p = none → Q (.ref p) (upd H p (.tup [.str (kdS kd), .int ((i + m : Nat) : Int)]))) → ∀ (e : Int), e = ((i + m : Nat) : Int) → 2 ≤ sizeLine ∧ ∀ p, H p = none → Q (.ref p) (upd H p (.tup [.str (kdS kd), .int e])) := fun kd m h e he => ⟨by decide, fun p np => he ▸ h p np⟩
    -- a letter
    refine ⟨_, rfl, _, rfl, t, _, _, rfl, rfl, i0, i1, i2, item, ?_⟩
    refine ⟨_, _, rfl, rfl, _, rfl, ?_⟩
    rw [show decide ((cs t)[i] ∈ LET.cps.toList) = isL (cs t)[i] from rfl]
    cases cL : isL (cs t)[i] with
    | true =>
      rw [cL, if_pos rfl] at q
      refine iteT ⟨_, rfl, _, rfl, t, LET, i, rfl, ht, ?_⟩
      exact go .word _ (q .word _ rfl) _ rfl
    | false =>
      rw [cL, if_neg Bool.false_ne_true] at q qx
      refine iteF ?_
      refine ⟨_, rfl, _, rfl, t, _, _, rfl, rfl, i0, i1, i2, item, ?_⟩
      refine ⟨_, _, rfl, rfl, _, rfl, ?_⟩
      rw [show decide ((cs t)[i] ∈ DIG.cps.toList) = isD (cs t)[i] from rfl]
      cases cD : isD (cs t)[i] with
      | true =>
        rw [cD, if_pos rfl] at q
        refine iteT ⟨_, rfl, _, rfl, t, DIG, i, rfl, ht, ?_⟩
        exact go .number _ (q .number _ rfl) _ rfl
      | false =>
        rw [cD, if_neg Bool.false_ne_true] at q qx
        refine iteF ?_
        have cut := cutS_two (t := t) (i := i) (by omega)
        have len2 : (mkS (((cs t).drop i).take 2)).length ≤ sizeLine := by
          rw [mkS_len, List.length_take]
          exact Nat.le_trans (Nat.min_le_left _ _) (by decide)
        refine ⟨fun σ' H' => σ' = [some (.str t), some (.int (i : Nat))] ∧ H' = H ∧ isO (((cs t).drop i).take 2) = false, ?_, ?_⟩
        · refine ⟨_, rfl, _, rfl, _, rfl, _, rfl, _, _, rfl, rfl, _, rfl, t, rfl, ht, ?_⟩
          rw [nat_add2, cut]
          refine ⟨aO, _, rfl, .inr (C.opsT H), rfl, flat_strs _, ?_⟩
          refine ⟨_, rfl, ?_⟩
          rw [if_neg Bool.false_ne_true, inV_mk]
          have no : ∀ (h : ¬ (((cs t).drop i).take 2).length = 2), isO (((cs t).drop i).take 2) = false := fun h => by
            cases z : isO (((cs t).drop i).take 2) with
            | false => rfl
            | true => exact absurd (isO_len z) h
          cases hin : decide (((cs t).drop i).take 2 ∈ Fx.ops) with
          | false =>
            refine iteF ⟨rfl, rfl, ?_⟩
            by_cases h2 : (((cs t).drop i).take 2).length = 2
            · rw [← ops_two _ h2]
              exact hin
            · exact no h2
          | true =>
            refine iteT ⟨_, rfl, _, rfl, _, rfl, _, rfl, _, _, rfl, rfl, _, rfl, t, rfl, ht, ?_⟩
            rw [nat_add2, cut]
            refine ⟨_, rfl, len2, rfl, _, rfl, ?_⟩
            rw [mkS_len]
            by_cases h2 : (((cs t).drop i).take 2).length = 2
            · rw [h2]
              rw [ops_two _ h2] at hin
              rw [hin, if_pos rfl] at q
              refine iteT ⟨_, rfl, _, _, rfl, rfl, ?_⟩
              exact go .sign 2 (q .sign 2 rfl) _ (nat_add2 i)
            · rw [decide_eq_false (show ¬ V.int ((((cs t).drop i).take 2).length : Nat) = V.int 2 from fun z => h2 (by have := V.int.inj z; omega))]
              exact iteF ⟨rfl, rfl, no h2⟩
        · rintro σ' H' ⟨rfl, rfl, ho⟩
          rw [ho, if_neg Bool.false_ne_true] at q qx
          refine ⟨_, rfl, _, rfl, t, _, _, rfl, rfl, i0, i1, i2, item, ?_⟩
          refine ⟨_, _, rfl, rfl, _, rfl, ?_⟩
          rw [show decide ((cs t)[i] ∈ (("=<>:()+-" : Str)).cps.toList) = isS (cs t)[i] from rfl]
          cases cS : isS (cs t)[i] with
          | true =>
            rw [cS, if_pos rfl] at q
            refine iteT ⟨_, rfl, _, _, rfl, rfl, ?_⟩
            exact go .sign 1 (q .sign 1 rfl) _ (nat_add1 i)
          | false =>
            rw [cS, if_neg Bool.false_ne_true] at qx
            refine iteF ⟨_, rfl, _, _, rfl, rfl, by show 2 ≤ 1000; decide, fun a na => ?_⟩
            show spBTInit K [.ref a, .int 1, .int (((i : Nat) : Int) + 1)] _ _ _
            rw [nat_add1]
            exact bt_out (Same.refl _) B.ox B.nL B.nC (qx rfl) a na
/-! ### words_of -/
def WordsAt (H : Hp) (a : Addr) (ts : Tk) : Prop := ∃ ps : List Addr, H a = some (.lst (ps.map V.ref)) ∧ ps.length = ts.length ∧ ∀ (i : Nat) (p : Addr) (t : Fx.Tok), ps[i]? = some p → ts[i]? = some t → H p = some (.tup [.str (mkS t.w), .str (kdS t.k), .int (t.col : Nat)])
theorem WordsAt.same {H H' : Hp} {a : Addr} {ts : Tk} (s : Same H H') (h : WordsAt H a ts) : WordsAt H' a ts := by
  obtain ⟨ps, h1, h2, h3⟩ := h
  exact ⟨ps, s _ _ h1, h2, fun i p t a b => s _ _ (h3 i p t a b)⟩
def spWordsOf (CB : Addr) : Sp := fun vs H Q E => ∃ (t : Str), vs = [.str t] ∧ t.length ≤ 1000000 ∧
  (∀ ts, lex (cs t) 1 = .ok ts → ∀ H' p, Same H H' → H p = none → WordsAt H' p ts → Q (.ref p) H') ∧
  (∀ c, lex (cs t) 1 = .error c → ∀ H' dx, Same H H' → H dx = none → H' dx = some (.xd (btF c)) → E (.ref CB) (some dx) H')
abbrev nWordsOf : List Str := ["text", "found", "at", "kind", "end"]
theorem scWordsOf : FnScope nWordsOf ["text"] (defScope sWordsOf) := ⟨rfl, rfl, rfl, by decide +kernel, rfl, by decide +kernel, by decide +kernel⟩
theorem cutS_mid {t : Str} {i m : Nat} (h : i + m ≤ t.length) : cutS t (some (i : Nat)) (some ((i + m : Nat) : Int)) = mkS (((cs t).drop i).take m) := by
  unfold cutS
  rw [show HT.sIx t.length 0 (some ((i : Nat) : Int)) = min i t.length from HT.sIx_nat _ _ i, show HT.sIx t.length t.length (some ((i + m : Nat) : Int)) = min (i + m) t.length from HT.sIx_nat _ _ (i + m)]
  have e1 : min i t.length = i := Nat.min_eq_left (by omega)
  have e2 : min (i + m) t.length = i + m := Nat.min_eq_left h
  rw [e1, e2]
  show mkS (((cs t).drop i).take (i + m - i)) = _
  rw [Nat.add_sub_cancel_left]
theorem str1 {a b : Nat} : ((⟨#[a]⟩ : Str) = ⟨#[b]⟩) ↔ a = b := by
  constructor
  · intro h
    have := congrArg (fun s : Str => s.cps.toList) h
    simpa using this
  · intro h
    rw [h]
theorem sp_str : (" " : Str) = ⟨#[32]⟩ := by decide +kernel
theorem ok_wordsof {f fW CB : Addr} {fd fdW : FuncData} (F : Fun K "words_of" "words_of" sWordsOf f fd) (T : Blt mg)
    (GW : FnOk P w K mg base (L2.CX P w) 3 fW fdW ["text", "at"] (spWordAt CB)) (kW : PySem.W.keepIn K (.ref fW) = true) (bW : Binds K fdW ["text", "at"] []) (gW : mg "_word_at" = some (.ref fW)) :
    FnOk P w K mg base (L2.CX P w) 4 f fd ["text"] (spWordsOf CB) := by
  refine F.okX scWordsOf (fun vs H Q E h => ?_) (fun cdv A outer s H vs Q E hr h => ?_)
  · obtain ⟨t, rfl, _⟩ := h
    rfl
  · obtain ⟨t, rfl, hB, q, qx⟩ := h
    have nd := scWordsOf.nd
    have ht : t.length ≤ sizeLine := Nat.le_trans hB (by decide)
    have hsz : t.length < 2 ^ 63 := Nat.lt_of_le_of_lt ht (by decide)
    refine ⟨_, pss_cons (ps_set (i := 1) nd rfl (.inl rfl) (pe_lst pa_nil))
      (pss_cons (ps_set (i := 2) nd rfl (.inl rfl) pe_int)
      (pss_cons (ps_while (passes_of rfl) (pt_cmpR op_lt (pv 2) (pe_callB call_len_str (by rfl) T.len PySem.boot_len (pa_cons (pv 0) pa_nil)) (nomark _))
        (pss_cons (ps_if (pt_cmpR op_eq (pe_item_str (pv 0) (pv 2) (fun _ _ => rfl)) pe_str (nomark _)) (pss_cons (ps_set (i := 2) nd rfl (.inl rfl) (pe_op op_add (pv 2) pe_int)) (pss_one ps_continue)) pss_nil)
        (pss_cons (ps_asg (pe_callS GW hr (by rfl) gW kW bW (fun σ => passAt (takes_of rfl rfl rfl rfl) σ) (pa_cons (pv 0) (pa_cons (pv 2) pa_nil))) (pg_tup rfl (pgs_cons (pg_name (i := 3) nd rfl (.inl rfl)) (pgs_cons (pg_name (i := 4) nd rfl (.inl rfl)) pgs_nil))))
        (pss_cons (ps_expr (pe_bm PySem.F.plainAttrs_list PySem.F.slot_list_append PySem.F.type_list_append mt_append (pv 1) (pa_cons (pe_tup (pa_cons (pe_slice sl_str (pv 0) (po_some (pv 2)) (po_some (pv 4))) (pa_cons (pv 3) (pa_cons (pe_op op_add (pv 2) pe_int) pa_nil)))) pa_nil)))
        (pss_one (ps_set (i := 2) nd rfl (.inl rfl) (pv 4)))))))
      (pss_one (ps_ret (pv 1))))), ?_⟩
    refine ⟨Nat.zero_le _, fun L nL => ?_⟩
    have sL := same_upd (o := HO.lst []) nL
    refine ⟨fun m σ H' => ∃ (i : Nat) (ts : Tk) (y3 y4 : Option V), m = t.length - i ∧ σ = [some (.str t), some (.ref L), some (.int (i : Nat)), y3, y4] ∧ Same H H' ∧ WordsAt H' L ts ∧ i ≤ t.length ∧ ts.length ≤ i ∧ lex (cs t) 1 = pfx ts (lex ((cs t).drop i) (i + 1)),
      ⟨_, 0, [], none, none, rfl, rfl, sL, ⟨[], upd_same, rfl, fun i p t e => nomatch e⟩, Nat.zero_le _, Nat.le_refl _, (pfx_nil _).symm⟩, ?_⟩
    rintro m σ H1 ⟨i, ts, y3, y4, rfl, rfl, s1, hW, hi, hts, hlex⟩
    refine ⟨_, rfl, _, rfl, t, rfl, ht, _, _, rfl, rfl, _, rfl, ?_⟩
    by_cases hj : i < t.length
    · rw [decide_eq_true (by omega : ((i : Nat) : Int) < (t.length : Nat))]
      have hl : i < (cs t).length := by rw [cs_len]; exact hj
      have item : t.cps[((i : Nat) : Int).toNat]? = some ((cs t)[i]) := by
        rw [Int.toNat_natCast]
        show t.cps[i]? = some (t.cps.toList[i])
        rw [Array.getElem?_eq_getElem (by simpa [Str.length] using hj)]
        rfl
      have dr : (cs t).drop i = (cs t)[i] :: (cs t).drop (i + 1) := List.drop_eq_getElem_cons hl
      refine iteT ⟨fun σ' H' => ∃ m', m' < t.length - i ∧ ∃ (i : Nat) (ts : Tk) (y3 y4 : Option V), m' = t.length - i ∧ σ' = [some (.str t), some (.ref L), some (.int (i : Nat)), y3, y4] ∧ Same H H' ∧ WordsAt H' L ts ∧ i ≤ t.length ∧ ts.length ≤ i ∧ lex (cs t) 1 = pfx ts (lex ((cs t).drop i) (i + 1)), fun _ _ h => h, ?_⟩
      refine ⟨_, rfl, _, rfl, t, _, _, rfl, rfl, by omega, by omega, by omega, item, ?_⟩
      refine ⟨rfl, _, rfl, ?_⟩
      rw [sp_str]
      by_cases h32 : (cs t)[i] = 32
      · rw [decide_eq_true (show V.str ⟨#[(cs t)[i]]⟩ = V.str ⟨#[32]⟩ from by rw [h32])]
        refine iteT ⟨_, rfl, _, _, rfl, rfl, ?_⟩
        refine ⟨t.length - (i + 1), by omega, i + 1, ts, y3, y4, rfl, rfl, s1, hW, by omega, by omega, ?_⟩
        rw [dr, h32, lex_sp] at hlex
        exact hlex
      · rw [decide_eq_false (show ¬ V.str ⟨#[(cs t)[i]]⟩ = V.str ⟨#[32]⟩ from fun z => h32 (str1.mp (V.str.inj z)))]
        refine iteF ?_
        refine ⟨_, rfl, _, rfl, t, i, rfl, ht, hj, fun kd m hs p np => ?_, fun hs H' dx s' ndx hx => ?_⟩
        · have hm := step_pos hs
          rw [List.length_drop, cs_len] at hm
          have sp := same_upd (o := HO.tup [.str (kdS kd), .int ((i + m : Nat) : Int)]) np
          refine ⟨p, _, rfl, SqT.of upd_same, rfl, _, _, rfl, _, _, rfl, rfl, ?_⟩
          obtain ⟨ps, w1, w2, w3⟩ := hW.same sp
          refine ⟨_, rfl, .inl ⟨rfl, _, SqL.of w1⟩, _, rfl, _, rfl, _, rfl, _, rfl, _, rfl, t, rfl, ht, _, rfl, _, rfl, _, _, rfl, rfl, by show 3 ≤ sizeLine; decide, fun p2 np2 => ?_⟩
          have sp2 := same_upd (o := HO.tup [.str (cutS t (some (i : Nat)) (some ((i + m : Nat) : Int))), .str (kdS kd), .int (((i : Nat) : Int) + 1)]) np2
          refine ⟨L, _, _, rfl, rfl, sp2 _ _ w1, ?_, ?_⟩
          · rw [List.length_map, w2]
            exact Nat.lt_of_le_of_lt (Nat.le_trans hts (Nat.le_trans hi hB)) (by decide)
          · refine ⟨_, rfl, t.length - (i + m), by omega, i + m, ts ++ [⟨((cs t).drop i).take m, kd, i + 1⟩], _, _, rfl, rfl, ?_, ?_, by omega, ?_, ?_⟩
            · exact ((s1.trans sp).trans sp2).later (by
                show H L = none
                exact nL)
            · refine ⟨ps ++ [p2], by rw [upd_same, List.map_append]; rfl, by rw [List.length_append, List.length_append, w2]; rfl, fun j q t' a b => ?_⟩
              have nq : ∀ {q : Addr} {xs : List V}, (upd (upd H1 p (HO.tup [.str (kdS kd), .int ((i + m : Nat) : Int)])) p2 (HO.tup [.str (cutS t (some (i : Nat)) (some ((i + m : Nat) : Int))), .str (kdS kd), .int (((i : Nat) : Int) + 1)])) q = some (.tup xs) → upd (upd (upd H1 p (HO.tup [.str (kdS kd), .int ((i + m : Nat) : Int)])) p2 (HO.tup [.str (cutS t (some (i : Nat)) (some ((i + m : Nat) : Int))), .str (kdS kd), .int (((i : Nat) : Int) + 1)])) L (.lst (ps.map V.ref ++ [V.ref p2])) q = some (.tup xs) := fun {q xs} e => by
                rw [upd_ne (ne_of e (sp2 _ _ w1) (by intro z; cases z))]
                exact e
              by_cases hjl : j < ps.length
              · rw [List.getElem?_append_left hjl] at a
                rw [List.getElem?_append_left (by omega)] at b
                exact nq (sp2 _ _ (w3 j q t' a b))
              · rw [List.getElem?_append_right (by omega)] at a
                rw [List.getElem?_append_right (by omega)] at b
                have hj0 : j - ps.length = 0 := by
                  have := (List.getElem?_eq_some_iff.mp a).1
                  simp at this
                  omega
                rw [hj0] at a
                rw [← w2, hj0] at b
                obtain rfl := Option.some.inj a
                obtain rfl := Option.some.inj b
                refine nq ?_
                rw [upd_same]
                rw [cutS_mid (by omega), nat_add1]
            · rw [List.length_append]
              show ts.length + 1 ≤ i + m
              omega
            · rw [hlex, dr, lex_tok h32 (by rw [← dr]; exact hs), ← dr, List.drop_drop]
              have e1 : i + 1 + m = i + m + 1 := by omega
              rw [e1]
              cases lex ((cs t).drop (i + m)) (i + m + 1) with
              | error e => rfl
              | ok r =>
                show Except.ok (ts ++ (_ :: r)) = Except.ok ((ts ++ [_]) ++ r)
                rw [List.append_assoc]
                rfl
        · refine qx (i + 1) ?_ H' dx (s1.trans s') (s1.free ndx) hx
          rw [hlex, dr, lex_bad h32 (by rw [← dr]; exact hs)]
          rfl
    · rw [decide_eq_false (by omega : ¬ ((i : Nat) : Int) < (t.length : Nat))]
      refine iteF ⟨_, rfl, ?_⟩
      refine q ts ?_ H1 L s1 nL hW
      rw [hlex, List.drop_eq_nil_of_le (by rw [cs_len]; omega), lex_nil]
      show Except.ok (ts ++ []) = _
      rw [List.append_nil]
end
end Lo
namespace Lo
open PySem L2 Fx
/-! ### the reader as an object -/
theorem lk1 {f g : Str} {v : V} {l : List (Str × V)} (h : (g == f) = false) : ((f, v) :: l).lookup g = l.lookup g := by
  simp [List.lookup, h]
theorem lk0 {f : Str} {v : V} {l : List (Str × V)} : ((f, v) :: l).lookup f = some v := by
  simp [List.lookup]
theorem pf1 {f g : Str} {v y : V} {l : List (Str × V)} (h : g ≠ f) : putF f y ((g, v) :: l) = (g, v) :: putF f y l := if_neg h
theorem pf0 {f : Str} {v y : V} {l : List (Str × V)} : putF f y ((f, v) :: l) = (f, y) :: l := if_pos rfl
def fR (wl : Addr) (a e : Nat) (lv bd : Addr) : List (Str × V) := [("words", .ref wl), ("at", .int (a : Nat)), ("end", .int (e : Nat)), ("levels", .ref lv), ("bound", .ref bd)]
section
variable {wl lv bd : Addr} {a e : Nat}
theorem fR_words : (fR wl a e lv bd).lookup ("words" : Str) = some (.ref wl) := lk0
theorem fR_at : (fR wl a e lv bd).lookup ("at" : Str) = some (.int (a : Nat)) := by
  unfold fR
  rw [lk1 (by decide +kernel), lk0]
theorem fR_end : (fR wl a e lv bd).lookup ("end" : Str) = some (.int (e : Nat)) := by
  unfold fR
  rw [lk1 (by decide +kernel), lk1 (by decide +kernel), lk0]
theorem fR_lev : (fR wl a e lv bd).lookup ("levels" : Str) = some (.ref lv) := by
  unfold fR
  rw [lk1 (by decide +kernel), lk1 (by decide +kernel), lk1 (by decide +kernel), lk0]
theorem fR_bd : (fR wl a e lv bd).lookup ("bound" : Str) = some (.ref bd) := by
  unfold fR
  rw [lk1 (by decide +kernel), lk1 (by decide +kernel), lk1 (by decide +kernel), lk1 (by decide +kernel), lk0]
theorem fR_no {m : Str} (h : (m == "words") = false ∧ (m == "at") = false ∧ (m == "end") = false ∧ (m == "levels") = false ∧ (m == "bound") = false) : (fR wl a e lv bd).lookup m = none := by
  unfold fR
  rw [lk1 h.1, lk1 h.2.1, lk1 h.2.2.1, lk1 h.2.2.2.1, lk1 h.2.2.2.2]
  rfl
theorem fR_put (b : Nat) : putF "at" (.int (b : Nat)) (fR wl a e lv bd) = fR wl b e lv bd := by
  unfold fR
  rw [pf1 (by decide +kernel), pf0]
theorem fR_next : putF "at" (.int (((a : Nat) : Int) + 1)) (fR wl a e lv bd) = fR wl (a + 1) e lv bd := by
  rw [nat_add1, fR_put]
end
/-- the reader's class -/
structure RCls (K : PySem.W.Frag) (CR : Addr) : Prop where
  cl : Cls K CR
  nW : NoAttr K CR "words"
  nA : NoAttr K CR "at"
  nE : NoAttr K CR "end"
  nL : NoAttr K CR "levels"
  nB : NoAttr K CR "bound"
/-- all but the reader stands as it was -/
def KeepX (p : Addr) (H H' : Hp) : Prop := ∀ b o, H b = some o → b ≠ p → H' b = some o
theorem KeepX.refl (p : Addr) (H : Hp) : KeepX p H H := fun _ _ e _ => e
theorem KeepX.trans {p : Addr} {H H1 H2 : Hp} (a : KeepX p H H1) (b : KeepX p H1 H2) : KeepX p H H2 := fun c o e n => b c o (a c o e n) n
theorem KeepX.of {p : Addr} {H H1 : Hp} (a : Same H H1) : KeepX p H H1 := fun c o e _ => a c o e
theorem KeepX.upd {p : Addr} {H : Hp} {o : HO} : KeepX p H (upd H p o) := fun c x e n => by
  rw [upd_ne n]
  exact e
theorem KeepX.same {p : Addr} {H0 H H1 : Hp} (s : Same H0 H) (n : H0 p = none) (k : KeepX p H H1) : Same H0 H1 := fun b o e => k b o (s b o e) (ne_of_none e n)
theorem WordsAt.keep {p C dx : Addr} {fs : List (Str × V)} {H H1 : Hp} {a : Addr} {ts : Tk} (hp : H p = some (.ins C dx fs)) (k : KeepX p H H1) (h : WordsAt H a ts) : WordsAt H1 a ts := by
  obtain ⟨ps, h1, h2, h3⟩ := h
  exact ⟨ps, k _ _ h1 (ne_of h1 hp (by intro z; cases z)), h2, fun i q t x y => k _ _ (h3 i q t x y) (ne_of (h3 i q t x y) hp (by intro z; cases z))⟩
/-- the reader at p: its words, those ahead and those left -/
structure RdO (CR : Addr) (H : Hp) (p dx wl lv bd : Addr) (fin : Nat) (pr r : Tk) : Prop where
  ob : H p = some (.ins CR dx (fR wl pr.length fin lv bd))
  ws : WordsAt H wl (pr ++ r)
  ok : ∀ t ∈ r, TokOk 1000000 t
  few : (pr ++ r).length ≤ 1000000
theorem RdO.next {CR : Addr} {H H1 : Hp} {p dx wl lv bd : Addr} {fin : Nat} {pr r pr2 r2 : Tk} (h : RdO CR H p dx wl lv bd fin pr r) (k : KeepX p H H1) (e : pr ++ r = pr2 ++ r2) (hr : ∀ t ∈ r2, t ∈ r) (o : H1 p = some (.ins CR dx (fR wl pr2.length fin lv bd))) : RdO CR H1 p dx wl lv bd fin pr2 r2 :=
  ⟨o, e ▸ h.ws.keep h.ob k, fun t ht => h.ok t (hr t ht), e ▸ h.few⟩
theorem dec_mk (a b : Cs) : decide (V.str (mkS a) = V.str (mkS b)) = decide (a = b) := decide_eq_decide.mpr ⟨fun h => mkS_inj (V.str.inj h), fun h => by rw [h]⟩
theorem mk_nil : ("" : Str) = mkS [] := by decide +kernel
theorem mk_minus : ("-" : Str) = mkS [45] := by decide +kernel
theorem mk_plus : ("+" : Str) = mkS [43] := by decide +kernel
theorem mk_zero : ("0" : Str) = mkS [48] := by decide +kernel
theorem kdS_inj (a b : Kd) : decide (V.str (kdS a) = V.str (kdS b)) = decide (a = b) := by
  cases a <;> cases b <;> decide +kernel
section
variable {P : Program} {w : World} {K : PySem.W.Frag} {mg : Str → Option Value} {base : Heap}
/-! ### word -/
def spWord (CR : Addr) : Sp := fun vs H Q _ => ∃ (p dx wl lv bd : Addr) (fin : Nat) (pr r : Tk), vs = [.ref p] ∧ RdO CR H p dx wl lv bd fin pr r ∧ Q (.str (mkS (wd r))) H
theorem scWord : FnScope ["self"] ["self"] (defScope sWord) := ⟨rfl, rfl, rfl, by decide +kernel, rfl, by decide +kernel, by decide +kernel⟩
theorem len_sz {n : Nat} (h : n ≤ 1000000) : n ≤ sizeLine := Nat.le_trans h (by decide)
theorem ok_word {f CR : Addr} {fd : FuncData} (F : Fun K "word" "FormulaReader.word" sWord f fd) (T : Blt mg) (X : RCls K CR) : FnOk P w K mg base CX0 1 f fd ["self"] (spWord CR) := by
  refine F.ok scWord (fun vs H Q E h => ?_) (fun cdv A outer s H vs Q E hr h => ?_)
  · obtain ⟨p, _, _, _, _, _, _, _, rfl, _⟩ := h
    rfl
  · obtain ⟨p, dx, wl, lv, bd, fin, pr, r, rfl, D, q⟩ := h
    refine ⟨_, pss_cons (ps_if (pt_cmpR op_lt (pe_fld (pv 0) rfl) (pe_callB call_len_seq (by rfl) T.len PySem.boot_len (pa_cons (pe_fld (pv 0) rfl) pa_nil)) (nomark _))
        (pss_one (ps_ret (pe_ix ix_tup (pe_ix ix_list (pe_fld (pv 0) rfl) (pe_fld (pv 0) rfl) (fun _ _ => rfl)) pe_int (fun _ _ => rfl)))) pss_nil)
      (pss_one (ps_ret pe_str)), ?_⟩
    obtain ⟨ps, w1, w2, w3⟩ := D.ws
    refine ⟨_, rfl, p, CR, dx, _, _, rfl, D.ob, X.cl, X.nA, fR_at, ?_⟩
    refine ⟨_, rfl, p, CR, dx, _, _, rfl, D.ob, X.cl, X.nW, fR_words, wl, _, rfl, .inl (SqL.of w1), _, _, rfl, rfl, _, rfl, ?_⟩
    have el : (ps.map V.ref).length = pr.length + r.length := by rw [List.length_map, w2, List.length_append]
    cases r with
    | nil =>
      rw [decide_eq_false (by rw [el]; simp)]
      refine iteF ?_
      rw [show wd [] = [] from rfl, ← mk_nil] at q
      exact q
    | cons t r =>
      rw [decide_eq_true (by rw [el, List.length_cons]; omega)]
      have hl : pr.length < ps.length := by rw [w2, List.length_append, List.length_cons]; omega
      have ht : (pr ++ t :: r)[pr.length]? = some t := by rw [List.getElem?_append_right (Nat.le_refl _), Nat.sub_self]; rfl
      have hq := w3 pr.length ps[pr.length] t (List.getElem?_eq_getElem hl) ht
      refine iteT ⟨_, rfl, p, CR, dx, _, _, rfl, D.ob, X.cl, X.nW, fR_words, _, rfl, p, CR, dx, _, _, rfl, D.ob, X.cl, X.nA, fR_at, wl, _, _, .ref ps[pr.length], rfl, rfl, SqL.of w1, ?_, ?_⟩
      · exact atI_nat (by rw [List.getElem?_map, List.getElem?_eq_getElem hl]; rfl)
      · exact ⟨ps[pr.length], _, 0, _, rfl, rfl, SqT.of hq, atI_nat (j := 0) rfl, q⟩
/-! ### is_kind -/
def spIsKind (CR : Addr) : Sp := fun vs H Q _ => ∃ (p dx wl lv bd : Addr) (fin : Nat) (pr r : Tk) (k : Kd), vs = [.ref p, .str (kdS k)] ∧ RdO CR H p dx wl lv bd fin pr r ∧ Q (.bl (isK k r)) H
theorem scIsKind : FnScope ["self", "kind"] ["self", "kind"] (defScope sIsKind) := ⟨rfl, rfl, rfl, by decide +kernel, rfl, by decide +kernel, by decide +kernel⟩
theorem ok_iskind {f CR : Addr} {fd : FuncData} (F : Fun K "is_kind" "FormulaReader.is_kind" sIsKind f fd) (T : Blt mg) (X : RCls K CR) : FnOk P w K mg base CX0 1 f fd ["self", "kind"] (spIsKind CR) := by
  refine F.ok scIsKind (fun vs H Q E h => ?_) (fun cdv A outer s H vs Q E hr h => ?_)
  · obtain ⟨p, _, _, _, _, _, _, _, _, rfl, _⟩ := h
    rfl
  · obtain ⟨p, dx, wl, lv, bd, fin, pr, r, k, rfl, D, q⟩ := h
    refine ⟨_, pss_one (ps_ret (pe_and (pe_cmpR op_lt (pe_fld (pv 0) rfl) (pe_callB call_len_seq (by rfl) T.len PySem.boot_len (pa_cons (pe_fld (pv 0) rfl) pa_nil)) (nomark _))
        (pe_one (pe_cmpR op_eq (pe_ix ix_tup (pe_ix ix_list (pe_fld (pv 0) rfl) (pe_fld (pv 0) rfl) (fun _ _ => rfl)) pe_int (fun _ _ => rfl)) (pv 1) (nomark _))))), ?_⟩
    obtain ⟨ps, w1, w2, w3⟩ := D.ws
    refine ⟨_, rfl, p, CR, dx, _, _, rfl, D.ob, X.cl, X.nA, fR_at, ?_⟩
    refine ⟨_, rfl, p, CR, dx, _, _, rfl, D.ob, X.cl, X.nW, fR_words, wl, _, rfl, .inl (SqL.of w1), _, _, rfl, rfl, _, rfl, ?_⟩
    have el : (ps.map V.ref).length = pr.length + r.length := by rw [List.length_map, w2, List.length_append]
    cases r with
    | nil =>
      rw [decide_eq_false (by rw [el]; simp)]
      exact iteF q
    | cons t r =>
      rw [decide_eq_true (by rw [el, List.length_cons]; omega)]
      have hl : pr.length < ps.length := by rw [w2, List.length_append, List.length_cons]; omega
      have ht : (pr ++ t :: r)[pr.length]? = some t := by rw [List.getElem?_append_right (Nat.le_refl _), Nat.sub_self]; rfl
      have hq := w3 pr.length ps[pr.length] t (List.getElem?_eq_getElem hl) ht
      refine iteT ⟨_, rfl, p, CR, dx, _, _, rfl, D.ob, X.cl, X.nW, fR_words, _, rfl, p, CR, dx, _, _, rfl, D.ob, X.cl, X.nA, fR_at, wl, _, _, .ref ps[pr.length], rfl, rfl, SqL.of w1, ?_, ?_⟩
      · exact atI_nat (by rw [List.getElem?_map, List.getElem?_eq_getElem hl]; rfl)
      · refine ⟨ps[pr.length], _, 1, _, rfl, rfl, SqT.of hq, atI_nat (j := 1) rfl, _, rfl, rfl, ?_⟩
        rw [kdS_inj]
        exact q
/-! ### check -/
def spCheck (CR CB : Addr) : Sp := fun vs H Q E => ∃ (p dx wl lv bd : Addr) (fin : Nat) (pr r : Tk) (b : Bool) (H0 : Hp), vs = [.ref p, .bl b] ∧ RdO CR H p dx wl lv bd fin pr r ∧ Same H0 H ∧ (b = true → Q .non H) ∧
  (b = false → ∀ H' d, Same H0 H' → H0 d = none → H' d = some (.xd (btF (colT fin r))) → E (.ref CB) (some d) H')
abbrev nCheck : List Str := ["self", "fits", "column"]
theorem scCheck : FnScope nCheck ["self", "fits"] (defScope sCheck) := ⟨rfl, rfl, rfl, by decide +kernel, rfl, by decide +kernel, by decide +kernel⟩
theorem ok_check {f CR CB fB : Addr} {fd fdB : FuncData} (F : Fun K "check" "FormulaReader.check" sCheck f fd) (T : Blt mg) (X : RCls K CR) (B : BTxt K mg CB fB)
    (GB : FnOk P w K mg base CX0 1 fB fdB ["self", "line", "column"] (spBTInit K)) (bB : Binds K fdB ["self", "line", "column"] []) : FnOk P w K mg base (L2.CX P w) 3 f fd ["self", "fits"] (spCheck CR CB) := by
  refine F.okX scCheck (fun vs H Q E h => ?_) (fun cdv A outer s H vs Q E hr h => ?_)
  · obtain ⟨p, _, _, _, _, _, _, _, _, _, rfl, _⟩ := h
    rfl
  · obtain ⟨p, dx, wl, lv, bd, fin, pr, r, b, H0, rfl, D, s0, q, qx⟩ := h
    have nd := scCheck.nd
    refine ⟨_, pss_one (ps_if (pt_not (pt_val (pv 1)))
      (pss_cons (ps_set (i := 2) nd rfl (.inl rfl) (pe_ifExp (pt_cmpR op_lt (pe_fld (pv 0) rfl) (pe_callB call_len_seq (by rfl) T.len PySem.boot_len (pa_cons (pe_fld (pv 0) rfl) pa_nil)) (nomark _))
          (pe_ix ix_tup (pe_ix ix_list (pe_fld (pv 0) rfl) (pe_fld (pv 0) rfl) (fun _ _ => rfl)) pe_int (fun _ _ => rfl)) (pe_fld (pv 0) rfl)))
        (pss_one (ps_raise rfl (takes_of rfl rfl rfl rfl) (pmk_oex B.ox B.iC B.tI GB hr bB .nil pass0 (by rfl) B.mg (pa_cons pe_int (pa_cons (pv 2) pa_nil)))))) pss_nil), ?_⟩
    refine ⟨_, rfl, b, rfl, ?_⟩
    cases b with
    | true => exact iteF (q rfl)
    | false =>
      refine iteT ?_
      obtain ⟨ps, w1, w2, w3⟩ := D.ws
      refine ⟨_, rfl, p, CR, dx, _, _, rfl, D.ob, X.cl, X.nA, fR_at, ?_⟩
      refine ⟨_, rfl, p, CR, dx, _, _, rfl, D.ob, X.cl, X.nW, fR_words, wl, _, rfl, .inl (SqL.of w1), _, _, rfl, rfl, _, rfl, ?_⟩
      have el : (ps.map V.ref).length = pr.length + r.length := by rw [List.length_map, w2, List.length_append]
      cases r with
      | nil =>
        rw [decide_eq_false (by rw [el]; simp)]
        refine iteF ⟨_, rfl, p, CR, dx, _, _, rfl, D.ob, X.cl, X.nE, fR_end, _, rfl, by show 2 ≤ 1000; decide, fun a na => ?_⟩
        exact bt_out s0 B.ox B.nL B.nC (qx rfl) a na
      | cons t r =>
        rw [decide_eq_true (by rw [el, List.length_cons]; omega)]
        have hl : pr.length < ps.length := by rw [w2, List.length_append, List.length_cons]; omega
        have ht : (pr ++ t :: r)[pr.length]? = some t := by rw [List.getElem?_append_right (Nat.le_refl _), Nat.sub_self]; rfl
        have hq := w3 pr.length ps[pr.length] t (List.getElem?_eq_getElem hl) ht
        refine iteT ⟨_, rfl, p, CR, dx, _, _, rfl, D.ob, X.cl, X.nW, fR_words, _, rfl, p, CR, dx, _, _, rfl, D.ob, X.cl, X.nA, fR_at, wl, _, _, .ref ps[pr.length], rfl, rfl, SqL.of w1, ?_, ?_⟩
        · exact atI_nat (by rw [List.getElem?_map, List.getElem?_eq_getElem hl]; rfl)
        · refine ⟨ps[pr.length], _, 2, _, rfl, rfl, SqT.of hq, atI_nat (j := 2) rfl, _, rfl, by show 2 ≤ 1000; decide, fun a na => ?_⟩
          exact bt_out s0 B.ox B.nL B.nC (qx rfl) a na
end
end Lo
namespace Lo
open PySem L2 Fx
/-! ### formulas as objects -/
mutual
def FAt (H : Hp) : Fm → V → Prop
  | .cmp op n1 k1 n2 k2, v => ∃ p a b : Addr, v = .ref p ∧ H p = some (.tup [.str ("compare" : Str), .str (mkS op), .ref a, .ref b]) ∧ H a = some (.tup [.str (mkS n1), .int k1]) ∧ H b = some (.tup [.str (mkS n2), .int k2])
  | .neg f, v => ∃ (p : Addr) (u : V), v = .ref p ∧ H p = some (.tup [.str ("not" : Str), u]) ∧ FAt H f u
  | .row w fs, v => ∃ (p q : Addr) (us : List V), v = .ref p ∧ H p = some (.tup [.str (mkS w), .ref q]) ∧ H q = some (.tup us) ∧ FAts H fs us
  | .qu w n f, v => ∃ (p : Addr) (u : V), v = .ref p ∧ H p = some (.tup [.str (mkS w), .str (mkS n), u]) ∧ FAt H f u
def FAts (H : Hp) : List Fm → List V → Prop
  | [], vs => vs = []
  | f :: fs, vs => ∃ (u : V) (us : List V), vs = u :: us ∧ FAt H f u ∧ FAts H fs us
end
def KeepT (H H' : Hp) : Prop := ∀ b xs, H b = some (.tup xs) → H' b = some (.tup xs)
theorem KeepT.of {H H' : Hp} (s : Same H H') : KeepT H H' := fun b xs e => s _ _ e
theorem KeepT.trans {H H1 H2 : Hp} (a : KeepT H H1) (b : KeepT H1 H2) : KeepT H H2 := fun c xs e => b _ _ (a _ _ e)
theorem KeepT.refl (H : Hp) : KeepT H H := fun _ _ e => e
theorem KeepT.upd {H : Hp} {a : Addr} {o x : HO} (h : H a = some x) (n : ∀ xs, x ≠ .tup xs) : KeepT H (upd H a o) := fun b xs e => by
  rw [upd_ne (ne_of e h (fun z => n xs z.symm))]
  exact e
mutual
theorem FAt.keep {H H' : Hp} (k : KeepT H H') : ∀ (f : Fm) (v : V), FAt H f v → FAt H' f v
  | .cmp op n1 k1 n2 k2, v, h => by
    obtain ⟨p, a, b, e, h1, h2, h3⟩ := h
    exact ⟨p, a, b, e, k _ _ h1, k _ _ h2, k _ _ h3⟩
  | .neg f, v, h => by
    obtain ⟨p, u, e, h1, h2⟩ := h
    exact ⟨p, u, e, k _ _ h1, FAt.keep k f u h2⟩
  | .row w fs, v, h => by
    obtain ⟨p, q, us, e, h1, h2, h3⟩ := h
    exact ⟨p, q, us, e, k _ _ h1, k _ _ h2, FAts.keep k fs us h3⟩
  | .qu w n f, v, h => by
    obtain ⟨p, u, e, h1, h2⟩ := h
    exact ⟨p, u, e, k _ _ h1, FAt.keep k f u h2⟩
theorem FAts.keep {H H' : Hp} (k : KeepT H H') : ∀ (fs : List Fm) (vs : List V), FAts H fs vs → FAts H' fs vs
  | [], vs, h => h
  | f :: fs, vs, h => by
    obtain ⟨u, us, e, h1, h2⟩ := h
    exact ⟨u, us, e, FAt.keep k f u h1, FAts.keep k fs us h2⟩
end
theorem FAts.snoc {H : Hp} {f : Fm} {u : V} (hu : FAt H f u) : ∀ (fs : List Fm) (us : List V), FAts H fs us → FAts H (fs ++ [f]) (us ++ [u])
  | [], us, h => by
    cases h
    exact ⟨u, [], rfl, hu, rfl⟩
  | g :: fs, us, h => by
    obtain ⟨x, xs, rfl, h1, h2⟩ := h
    exact ⟨x, xs ++ [u], rfl, h1, FAts.snoc hu fs xs h2⟩
theorem FAts.len {H : Hp} : ∀ (fs : List Fm) (us : List V), FAts H fs us → us.length = fs.length
  | [], us, h => by
    cases h
    rfl
  | g :: fs, us, h => by
    obtain ⟨x, xs, rfl, h1, h2⟩ := h
    rw [List.length_cons, List.length_cons, FAts.len fs xs h2]
section
variable {P : Program} {w : World} {K : PySem.W.Frag} {mg : Str → Option Value} {base : Heap}
/-! ### taken -/
def spTaken (CR CB : Addr) : Sp := fun vs H Q E => ∃ (p dx wl lv bd : Addr) (fin : Nat) (pr r : Tk) (b : Bool) (H0 : Hp), vs = [.ref p, .bl b] ∧ RdO CR H p dx wl lv bd fin pr r ∧ Same H0 H ∧
  (b = true → ∃ t r2, r = t :: r2 ∧ ∀ H', KeepX p H H' → RdO CR H' p dx wl lv bd fin (pr ++ [t]) r2 → Q (.str (mkS t.w)) H') ∧
  (b = false → ∀ H' d, Same H0 H' → H0 d = none → H' d = some (.xd (btF (colT fin r))) → E (.ref CB) (some d) H')
abbrev nTaken : List Str := ["self", "fits", "found"]
theorem scTaken : FnScope nTaken ["self", "fits"] (defScope sTaken) := ⟨rfl, rfl, rfl, by decide +kernel, rfl, by decide +kernel, by decide +kernel⟩
theorem no_m {m : Str} (h : (m == "words") = false ∧ (m == "at") = false ∧ (m == "end") = false ∧ (m == "levels") = false ∧ (m == "bound") = false) {wl lv bd : Addr} {a e : Nat} : (fR wl a e lv bd).lookup m = none := fR_no h
theorem RdO.step {CR : Addr} {H H1 : Hp} {p dx wl lv bd : Addr} {fin : Nat} {pr r : Tk} {t : Fx.Tok} (h : RdO CR H p dx wl lv bd fin pr (t :: r)) (k : KeepX p H H1) (o : H1 p = some (.ins CR dx (fR wl (pr.length + 1) fin lv bd))) : RdO CR H1 p dx wl lv bd fin (pr ++ [t]) r :=
  h.next k (by simp) (fun x hx => List.mem_cons_of_mem _ hx) (by rw [List.length_append]; exact o)
theorem ok_taken {f fC fW CR CB : Addr} {fd fdC fdW : FuncData} (F : Fun K "taken" "FormulaReader.taken" sTaken f fd) (X : RCls K CR)
    (GC : FnOk P w K mg base (L2.CX P w) 3 fC fdC ["self", "fits"] (spCheck CR CB)) (bC : Binds K fdC ["self", "fits"] []) (mC : Meth K CR "check" fC)
    (GW : FnOk P w K mg base CX0 1 fW fdW ["self"] (spWord CR)) (bW : Binds K fdW ["self"] []) (mW : Meth K CR "word" fW) : FnOk P w K mg base (L2.CX P w) 4 f fd ["self", "fits"] (spTaken CR CB) := by
  refine F.okX scTaken (fun vs H Q E h => ?_) (fun cdv A outer s H vs Q E hr h => ?_)
  · obtain ⟨p, _, _, _, _, _, _, _, _, _, rfl, _⟩ := h
    rfl
  · obtain ⟨p, dx, wl, lv, bd, fin, pr, r, b, H0, rfl, D, s0, q, qx⟩ := h
    have nd := scTaken.nd
    refine ⟨_, pss_cons (ps_expr (pe_meth (pv 0) X.cl mC GC hr bC .nil (passes_call (takes_of rfl rfl rfl rfl) fun _ _ _ _ h => h) (pa_cons (pv 1) pa_nil)))
      (pss_cons (ps_set (i := 2) nd rfl (.inl rfl) (pe_meth0 (pv 0) X.cl mW GW (hr.mono (by decide)) bW .nil pass0))
      (pss_cons (ps_fld (pv 0) (pe_op op_add (pe_fld (pv 0) rfl) pe_int) rfl)
      (pss_one (ps_ret (pv 2))))), ?_⟩
    refine ⟨_, rfl, p, dx, _, rfl, D.ob, no_m (by decide +kernel), _, rfl, p, dx, wl, lv, bd, fin, pr, r, b, H0, rfl, D, s0, fun hb => ?_, qx⟩
    obtain ⟨t, r2, er, q2⟩ := q hb
    subst er
    refine ⟨_, rfl, p, dx, _, rfl, D.ob, no_m (by decide +kernel), p, dx, wl, lv, bd, fin, pr, t :: r2, rfl, D, ?_⟩
    refine ⟨_, rfl, p, CR, dx, _, _, rfl, D.ob, X.cl, X.nA, fR_at, _, _, rfl, rfl, _, rfl, p, CR, dx, _, rfl, D.ob, X.cl, X.nA, by show 5 < 1000; decide, _, rfl, ?_⟩
    refine q2 _ KeepX.upd (D.step KeepX.upd ?_)
    rw [upd_same]
    exact congrArg (fun l => some (HO.ins CR dx l)) fR_next
/-! ### number -/
def spNumber (CR CB : Addr) : Sp := fun vs H Q E => ∃ (p dx wl lv bd : Addr) (fin : Nat) (pr r : Tk) (H0 : Hp), vs = [.ref p] ∧ RdO CR H p dx wl lv bd fin pr r ∧ Same H0 H ∧
  (∀ n r2, num fin r = .ok (n, r2) → ∀ H' pr2, KeepX p H H' → pr ++ r = pr2 ++ r2 → RdO CR H' p dx wl lv bd fin pr2 r2 → Q (.int n) H') ∧
  (∀ c, num fin r = .error c → ∀ H' d, Same H0 H' → H0 d = none → H' d = some (.xd (btF c)) → E (.ref CB) (some d) H')
abbrev nNumber : List Str := ["self", "word", "fits"]
theorem scNumber : FnScope nNumber ["self"] (defScope sNumber) := ⟨rfl, rfl, rfl, by decide +kernel, rfl, by decide +kernel, by decide +kernel⟩
theorem ok_number {f fT fW fK CR CB aO aR aK : Addr} {fd fdT fdW fdK : FuncData} (F : Fun K "number" "FormulaReader.number" sNumber f fd) (T : Blt mg) (C : Cst K mg aO aR aK) (X : RCls K CR)
    (GT : FnOk P w K mg base (L2.CX P w) 4 fT fdT ["self", "fits"] (spTaken CR CB)) (bT : Binds K fdT ["self", "fits"] []) (mT : Meth K CR "taken" fT)
    (GW : FnOk P w K mg base CX0 1 fW fdW ["self"] (spWord CR)) (bW : Binds K fdW ["self"] []) (mW : Meth K CR "word" fW)
    (GK : FnOk P w K mg base CX0 1 fK fdK ["self", "kind"] (spIsKind CR)) (bK : Binds K fdK ["self", "kind"] []) (mK : Meth K CR "is_kind" fK) : FnOk P w K mg base (L2.CX P w) 5 f fd ["self"] (spNumber CR CB) := by
  refine F.okX scNumber (fun vs H Q E h => ?_) (fun cdv A outer s H vs Q E hr h => ?_)
  · obtain ⟨p, _, _, _, _, _, _, _, _, rfl, _⟩ := h
    rfl
  · obtain ⟨p, dx, wl, lv, bd, fin, pr, r, H0, rfl, D, s0, q, qx⟩ := h
    have nd := scNumber.nd
    obtain ⟨tN, gN⟩ := C.number
    have r1 := hr.mono (show 1 ≤ 4 by decide)
    refine ⟨_, pss_cons (ps_set (i := 1) nd rfl (.inl rfl) (pe_meth0 (pv 0) X.cl mW GW r1 bW .nil pass0))
      (C8.pss_cut (ps_set (i := 2) nd rfl (.inl rfl) (pe_and (pe_meth (pv 0) X.cl mK GK r1 bK .nil pass0 (pa_cons (pe_glob (v := .str ("number" : Str)) (by rfl) gN ⟨_, rfl⟩) pa_nil))
        (pe_and (pe_cmpR op_le (pe_callB call_len_str (by rfl) T.len PySem.boot_len (pa_cons (pv 1) pa_nil)) pe_int (nomark _))
          (pe_one (pe_or (pe_cmpR op_eq (pv 1) pe_str (nomark _)) (pe_one (pe_cmpR op_ne (pe_item_str (pv 1) pe_int (fun _ _ => rfl)) pe_str (nomark _))))))))
      (pss_one (ps_ret (pe_callTy call_int_str (by rfl) T.int PyProof.Rows.boot_int (pa_cons (pe_meth (pv 0) X.cl mT GT hr bT .nil (passes_call (takes_of rfl rfl rfl rfl) fun _ _ _ _ h => h) (pa_cons (pv 2) pa_nil)) pa_nil))))), ?_⟩
    refine ⟨_, rfl, p, dx, _, rfl, D.ob, no_m (by decide +kernel), p, dx, wl, lv, bd, fin, pr, r, rfl, D, ?_⟩
    refine ⟨fun σ' H' => σ' = [some (.ref p), some (.str (mkS (wd r))), some (.bl (fitsN r))] ∧ H' = H, ?_, ?_⟩
    · refine ⟨_, rfl, p, dx, _, rfl, D.ob, no_m (by decide +kernel), p, dx, wl, lv, bd, fin, pr, r, .number, rfl, D, _, rfl, ?_⟩
      unfold fitsN
      cases hk : isK .number r with
      | false => exact iteF ⟨rfl, rfl⟩
      | true =>
        rw [Bool.true_and]
        obtain ⟨t, r2, rfl⟩ : ∃ t r2, r = t :: r2 := by
          cases r with
          | nil => cases hk
          | cons t r2 => exact ⟨t, r2, rfl⟩
        have ok := D.ok t List.mem_cons_self
        have ew : wd (t :: r2) = t.w := rfl
        rw [ew]
        refine iteT ⟨_, rfl, _, rfl, by rw [mkS_len]; exact len_sz ok.1, _, _, rfl, rfl, _, rfl, ?_⟩
        have e1 : decide ((((mkS t.w).length : Nat) : Int) ≤ 4) = decide (t.w.length ≤ 4) := by
          rw [mkS_len]
          exact decide_eq_decide.mpr (by omega)
        rw [e1]
        cases h4 : decide (t.w.length ≤ 4) with
        | false => exact iteF ⟨rfl, rfl⟩
        | true =>
          rw [Bool.true_and]
          refine iteT ⟨_, rfl, rfl, _, rfl, ?_⟩
          rw [mk_zero, dec_mk]
          cases h0 : decide (t.w = [48]) with
          | true => exact iteT ⟨rfl, rfl⟩
          | false =>
            rw [Bool.false_or]
            obtain ⟨c, w', ec⟩ : ∃ c w', t.w = c :: w' := by
              cases e : t.w with
              | nil => exact absurd e ok.2.1
              | cons c w' => exact ⟨c, w', rfl⟩
            refine iteF ⟨_, rfl, mkS t.w, 0, c, rfl, rfl, by decide, by decide, ?_, ?_, rfl, ?_⟩
            · rw [mkS_len, ec, List.length_cons]
              omega
            · show (mkS t.w).cps[0]? = some c
              rw [ec]
              rfl
            · have e2 : decide (V.str (⟨#[c]⟩ : Str) = V.str (mkS [48])) = decide (t.w.head? = some 48) := by
                rw [ec]
                refine decide_eq_decide.mpr ⟨fun z => ?_, fun z => ?_⟩
                · have := str1.mp (V.str.inj z)
                  rw [this]
                  rfl
                · have : c = 48 := Option.some.inj z
                  rw [this]
                  rfl
              rw [e2]
              exact ⟨rfl, rfl⟩
    · rintro σ' H' ⟨rfl, rfl⟩
      refine ⟨_, rfl, p, dx, _, rfl, D.ob, no_m (by decide +kernel), _, rfl, p, dx, wl, lv, bd, fin, pr, r, fitsN r, H0, rfl, D, s0, fun hb => ?_, fun hb H' d s' nd' hx => qx (colT fin r) ?_ H' d s' nd' hx⟩
      · obtain ⟨t, r2, rfl⟩ : ∃ t r2, r = t :: r2 := by
          cases r with
          | nil => cases hb
          | cons t r2 => exact ⟨t, r2, rfl⟩
        have ok := D.ok t List.mem_cons_self
        refine ⟨t, r2, rfl, fun H2 kx D2 => ?_⟩
        have hb' := hb
        unfold fitsN at hb'
        rw [Bool.and_eq_true, Bool.and_eq_true] at hb'
        have hk : t.k = .number := of_decide_eq_true hb'.1
        have h4 : t.w.length ≤ 4 := of_decide_eq_true hb'.2.1
        refine ⟨_, _, rfl, num_text (ok.2.2 hk) ok.2.1 h4, by rw [mkS_len]; omega, ?_⟩
        refine q _ r2 ?_ H2 (pr ++ [t]) kx (by simp) D2
        unfold num
        rw [if_pos hb]
        rfl
      · unfold num
        rw [hb, if_neg Bool.false_ne_true]
/-! ### term -/
def spTerm (CR CB : Addr) : Sp := fun vs H Q E => ∃ (p dx wl lv bd : Addr) (fin : Nat) (pr r : Tk) (H0 : Hp), vs = [.ref p] ∧ RdO CR H p dx wl lv bd fin pr r ∧ Same H0 H ∧ H0 p = none ∧
  (∀ n k r2, term fin r = .ok (n, k, r2) → ∀ H' pr2 t, KeepX p H H' → pr ++ r = pr2 ++ r2 → RdO CR H' p dx wl lv bd fin pr2 r2 → H' t = some (.tup [.str (mkS n), .int k]) → Q (.ref t) H') ∧
  (∀ c, term fin r = .error c → ∀ H' d, Same H0 H' → H0 d = none → H' d = some (.xd (btF c)) → E (.ref CB) (some d) H')
abbrev nTerm : List Str := ["self", "name"]
theorem scTerm : FnScope nTerm ["self"] (defScope sTerm) := ⟨rfl, rfl, rfl, by decide +kernel, rfl, by decide +kernel, by decide +kernel⟩
theorem wd_cons {r : Tk} {c : Nat} {l : Cs} (h : wd r = c :: l) : ∃ t r2, r = t :: r2 ∧ t.w = c :: l := by
  cases r with
  | nil => cases h
  | cons t r2 => exact ⟨t, r2, rfl, h⟩
theorem RdO.tup {CR : Addr} {H : Hp} {p dx wl lv bd t : Addr} {fin : Nat} {pr r : Tk} {o : HO} (h : RdO CR H p dx wl lv bd fin pr r) (nt : H t = none) : RdO CR (upd H t o) p dx wl lv bd fin pr r :=
  h.next (KeepX.of (same_upd nt)) rfl (fun _ h => h) (same_upd nt _ _ h.ob)
theorem ok_term {f fN fT fW fK fI CR CB aO aR aK : Addr} {fd fdN fdT fdW fdK fdI : FuncData} (F : Fun K "term" "FormulaReader.term" sTerm f fd) (C : Cst K mg aO aR aK) (X : RCls K CR)
    (GN : FnOk P w K mg base (L2.CX P w) 5 fN fdN ["self"] (spNumber CR CB)) (bN : Binds K fdN ["self"] []) (mN : Meth K CR "number" fN)
    (GT : FnOk P w K mg base (L2.CX P w) 4 fT fdT ["self", "fits"] (spTaken CR CB)) (bT : Binds K fdT ["self", "fits"] []) (mT : Meth K CR "taken" fT)
    (GW : FnOk P w K mg base CX0 1 fW fdW ["self"] (spWord CR)) (bW : Binds K fdW ["self"] []) (mW : Meth K CR "word" fW)
    (GK : FnOk P w K mg base CX0 1 fK fdK ["self", "kind"] (spIsKind CR)) (bK : Binds K fdK ["self", "kind"] []) (mK : Meth K CR "is_kind" fK)
    (GI : FnOk P w K mg base CX0 1 fI fdI ["word"] spIsWN) (kI : PySem.W.keepIn K (.ref fI) = true) (bI : Binds K fdI ["word"] []) (gI : mg "is_word_name" = some (.ref fI)) : FnOk P w K mg base (L2.CX P w) 6 f fd ["self"] (spTerm CR CB) := by
  refine F.okX scTerm (fun vs H Q E h => ?_) (fun cdv A outer s H vs Q E hr h => ?_)
  · obtain ⟨p, _, _, _, _, _, _, _, _, rfl, _⟩ := h
    rfl
  · obtain ⟨p, dx, wl, lv, bd, fin, pr, r, H0, rfl, D, s0, np0, q, qx⟩ := h
    have nd := scTerm.nd
    obtain ⟨tN, gN⟩ := C.number
    obtain ⟨tW, gW⟩ := C.word
    have r1 := hr.mono (show 1 ≤ 5 by decide)
    have r4 := hr.mono (show 4 ≤ 5 by decide)
    have nm : ∀ {wl lv bd : Addr} {a e : Nat}, (fR wl a e lv bd).lookup ("number" : Str) = none := no_m (by decide +kernel)
    have wm : ∀ {wl lv bd : Addr} {a e : Nat}, (fR wl a e lv bd).lookup ("word" : Str) = none := no_m (by decide +kernel)
    refine ⟨_, pss_cons (ps_if (pt_cmpR op_eq (pe_meth0 (pv 0) X.cl mW GW r1 bW .nil pass0) pe_str (nomark _))
        (pss_cons (ps_fld (pv 0) (pe_op op_add (pe_fld (pv 0) rfl) pe_int) rfl)
        (pss_one (ps_ret (pe_tup (pa_cons pe_str (pa_cons (pe_un un_neg (pe_meth0 (pv 0) X.cl mN GN hr bN .nil (passes_call (takes_of rfl rfl rfl rfl) fun _ _ _ _ h => h))) pa_nil)))))) pss_nil)
      (pss_cons (ps_if (pt_val (pe_meth (pv 0) X.cl mK GK r1 bK .nil pass0 (pa_cons (pe_glob (v := .str ("number" : Str)) (by rfl) gN ⟨_, rfl⟩) pa_nil)))
        (pss_one (ps_ret (pe_tup (pa_cons pe_str (pa_cons (pe_meth0 (pv 0) X.cl mN GN hr bN .nil (passes_call (takes_of rfl rfl rfl rfl) fun _ _ _ _ h => h)) pa_nil))))) pss_nil)
      (C8.pss_cut (ps_set (i := 1) nd rfl (.inl rfl) (pe_meth (pv 0) X.cl mT GT r4 bT .nil (passes_call (takes_of rfl rfl rfl rfl) fun _ _ _ _ h => h)
          (pa_cons (pe_and (pe_meth (pv 0) X.cl mK GK r1 bK .nil pass0 (pa_cons (pe_glob (v := .str ("word" : Str)) (by rfl) gW ⟨_, rfl⟩) pa_nil))
            (pe_one (pe_call GI r1 (by rfl) gI kI bI .nil pass0 (pa_cons (pe_meth0 (pv 0) X.cl mW GW r1 bW .nil pass0) pa_nil)))) pa_nil)))
      (pss_cons (ps_if (pt_cmpR op_eq (pe_meth0 (pv 0) X.cl mW GW r1 bW .nil pass0) pe_str (nomark _))
        (pss_cons (ps_fld (pv 0) (pe_op op_add (pe_fld (pv 0) rfl) pe_int) rfl)
        (pss_one (ps_ret (pe_tup (pa_cons (pv 1) (pa_cons (pe_meth0 (pv 0) X.cl mN GN hr bN .nil (passes_call (takes_of rfl rfl rfl rfl) fun _ _ _ _ h => h)) pa_nil)))))) pss_nil)
      (pss_cons (ps_if (pt_cmpR op_eq (pe_meth0 (pv 0) X.cl mW GW r1 bW .nil pass0) pe_str (nomark _))
        (pss_cons (ps_fld (pv 0) (pe_op op_add (pe_fld (pv 0) rfl) pe_int) rfl)
        (pss_one (ps_ret (pe_tup (pa_cons (pv 1) (pa_cons (pe_un un_neg (pe_meth0 (pv 0) X.cl mN GN hr bN .nil (passes_call (takes_of rfl rfl rfl rfl) fun _ _ _ _ h => h))) pa_nil)))))) pss_nil)
      (pss_one (ps_ret (pe_tup (pa_cons (pv 1) (pa_cons pe_int pa_nil))))))))), ?_⟩
    refine ⟨_, rfl, p, dx, _, rfl, D.ob, wm, p, dx, wl, lv, bd, fin, pr, r, rfl, D, rfl, _, rfl, ?_⟩
    rw [mk_minus, dec_mk]
    unfold term at q qx
    by_cases h1 : wd r = [45]
    · rw [if_pos h1] at q qx
      rw [decide_eq_true h1]
      obtain ⟨t, r2, rfl, _⟩ := wd_cons h1
      refine iteT ⟨_, rfl, p, CR, dx, _, _, rfl, D.ob, X.cl, X.nA, fR_at, _, _, rfl, rfl, _, rfl, p, CR, dx, _, rfl, D.ob, X.cl, X.nA, by show 5 < 1000; decide, ?_⟩
      have D1 : RdO CR (upd H p (.ins CR dx (putF "at" (.int ((pr.length : Nat) + 1 : Int)) (fR wl pr.length fin lv bd)))) p dx wl lv bd fin (pr ++ [t]) r2 := D.step KeepX.upd (by rw [upd_same, nat_add1, fR_put])
      refine ⟨_, rfl, p, dx, _, rfl, D1.ob, nm, p, dx, wl, lv, bd, fin, pr ++ [t], r2, H0, rfl, D1, KeepX.same s0 np0 KeepX.upd, fun n r3 hn H2 pr2 kx e2 D2 => ?_, fun c hc H' d s' nd' hx => ?_⟩
      · refine ⟨n, rfl, by show 2 ≤ sizeLine; decide, fun a na => ?_⟩
        have hn' : num fin (t :: r2).tail = .ok (n, r3) := hn
        rw [hn'] at q
        exact q w0 (-n) r3 rfl _ pr2 a ((KeepX.upd.trans kx).trans (KeepX.of (same_upd na))) (by rw [← e2]; simp) (D2.tup na) (by rw [upd_same, mk_zero])
      · have hc' : num fin (t :: r2).tail = .error c := hc
        rw [hc'] at qx
        exact qx c rfl H' d s' nd' hx
    rw [if_neg h1] at q qx
    rw [decide_eq_false h1]
    refine iteF ⟨_, rfl, p, dx, _, rfl, D.ob, no_m (by decide +kernel), p, dx, wl, lv, bd, fin, pr, r, .number, rfl, D, _, rfl, ?_⟩
    cases h2 : isK .number r with
    | true =>
      rw [if_pos h2] at q qx
      refine iteT ⟨_, rfl, p, dx, _, rfl, D.ob, nm, p, dx, wl, lv, bd, fin, pr, r, H0, rfl, D, s0, fun n r3 hn H2 pr2 kx e2 D2 => ?_, fun c hc H' d s' nd' hx => ?_⟩
      · refine ⟨by show 2 ≤ sizeLine; decide, fun a na => ?_⟩
        rw [hn] at q
        exact q w0 n r3 rfl _ pr2 a (kx.trans (KeepX.of (same_upd na))) e2 (D2.tup na) (by rw [upd_same, mk_zero])
      · rw [hc] at qx
        exact qx c rfl H' d s' nd' hx
    | false =>
      rw [if_neg (by rw [h2]; exact Bool.false_ne_true)] at q qx
      refine iteF ?_
      generalize hTK : taken fin (isK .word r && isName (wd r)) r = TK at q qx
      refine ⟨fun σ' H' => ∃ n r2 pr2, TK = .ok (n, r2) ∧ σ' = [some (.ref p), some (.str (mkS n))] ∧ KeepX p H H' ∧ pr ++ r = pr2 ++ r2 ∧ RdO CR H' p dx wl lv bd fin pr2 r2, ?_, ?_⟩
      · have take : ∀ b : Bool, b = (isK .word r && isName (wd r)) → spTaken CR CB [.ref p, .bl b] H (fun v H' => ∃ n r2 pr2, TK = .ok (n, r2) ∧ [some (V.ref p), some v] = [some (V.ref p), some (.str (mkS n))] ∧ KeepX p H H' ∧ pr ++ r = pr2 ++ r2 ∧ RdO CR H' p dx wl lv bd fin pr2 r2) E := by
          intro b hb
          refine ⟨p, dx, wl, lv, bd, fin, pr, r, b, H0, rfl, D, s0, fun hT => ?_, fun hF H' d s' nd' hx => ?_⟩
          · rw [hT] at hb
            obtain ⟨t, r2, rfl⟩ : ∃ t r2, r = t :: r2 := by
              cases r with
              | nil => cases hb
              | cons t r2 => exact ⟨t, r2, rfl⟩
            refine ⟨t, r2, rfl, fun H' kx D' => ⟨t.w, r2, pr ++ [t], ?_, rfl, kx, by simp, D'⟩⟩
            rw [← hTK]
            unfold taken
            rw [← hb, if_pos rfl]
            rfl
          · rw [hF] at hb
            rw [← hTK] at qx
            unfold taken at qx
            rw [← hb, if_neg Bool.false_ne_true] at qx
            exact qx _ rfl H' d s' nd' hx
        refine ⟨_, rfl, p, dx, _, rfl, D.ob, no_m (by decide +kernel), ?_⟩
        refine ⟨_, rfl, p, dx, _, rfl, D.ob, no_m (by decide +kernel), p, dx, wl, lv, bd, fin, pr, r, .word, rfl, D, _, rfl, ?_⟩
        cases hk : isK .word r with
        | false =>
          refine iteF ?_
          exact take false (by rw [hk]; rfl)
        | true =>
          obtain ⟨t, r2, rfl⟩ : ∃ t r2, r = t :: r2 := by
            cases r with
            | nil => cases hk
            | cons t r2 => exact ⟨t, r2, rfl⟩
          refine iteT ⟨_, rfl, p, dx, _, rfl, D.ob, wm, p, dx, wl, lv, bd, fin, pr, t :: r2, rfl, D, ?_⟩
          refine ⟨wd (t :: r2), rfl, len_sz (D.ok t List.mem_cons_self).1, ?_⟩
          exact take _ (by rw [hk, Bool.true_and])
      · rintro σ' H1 ⟨n, r1', pr1, ht, rfl, k1, e1, D1⟩
        rw [ht] at q qx
        dsimp only at q qx
        have s1 := k1.same s0 np0
        refine ⟨_, rfl, p, dx, _, rfl, D1.ob, wm, p, dx, wl, lv, bd, fin, pr1, r1', rfl, D1, rfl, _, rfl, ?_⟩
        rw [mk_plus, dec_mk]
        by_cases h3 : wd r1' = [43]
        · rw [if_pos h3] at q qx
          rw [decide_eq_true h3]
          obtain ⟨t, r2, rfl, _⟩ := wd_cons h3
          refine iteT ⟨_, rfl, p, CR, dx, _, _, rfl, D1.ob, X.cl, X.nA, fR_at, _, _, rfl, rfl, _, rfl, p, CR, dx, _, rfl, D1.ob, X.cl, X.nA, by show 5 < 1000; decide, ?_⟩
          have D2 : RdO CR (upd H1 p (.ins CR dx (putF "at" (.int ((pr1.length : Nat) + 1 : Int)) (fR wl pr1.length fin lv bd)))) p dx wl lv bd fin (pr1 ++ [t]) r2 := D1.step KeepX.upd (by rw [upd_same, nat_add1, fR_put])
          refine ⟨_, rfl, _, rfl, p, dx, _, rfl, D2.ob, nm, p, dx, wl, lv, bd, fin, pr1 ++ [t], r2, H0, rfl, D2, KeepX.same s1 np0 KeepX.upd, fun k r3 hn H2 pr2 kx e2 D3 => ?_, fun c hc H' d s' nd' hx => ?_⟩
          · refine ⟨by show 2 ≤ sizeLine; decide, fun a na => ?_⟩
            have hn' : num fin (t :: r2).tail = .ok (k, r3) := hn
            rw [hn'] at q
            exact q n k r3 rfl _ pr2 a (((k1.trans KeepX.upd).trans kx).trans (KeepX.of (same_upd na))) (by rw [e1, ← e2]; simp) (D3.tup na) upd_same
          · have hc' : num fin (t :: r2).tail = .error c := hc
            rw [hc'] at qx
            exact qx c rfl H' d s' nd' hx
        rw [if_neg h3] at q qx
        rw [decide_eq_false h3]
        refine iteF ⟨_, rfl, p, dx, _, rfl, D1.ob, wm, p, dx, wl, lv, bd, fin, pr1, r1', rfl, D1, rfl, _, rfl, ?_⟩
        rw [dec_mk]
        by_cases h4 : wd r1' = [45]
        · rw [if_pos h4] at q qx
          rw [decide_eq_true h4]
          obtain ⟨t, r2, rfl, _⟩ := wd_cons h4
          refine iteT ⟨_, rfl, p, CR, dx, _, _, rfl, D1.ob, X.cl, X.nA, fR_at, _, _, rfl, rfl, _, rfl, p, CR, dx, _, rfl, D1.ob, X.cl, X.nA, by show 5 < 1000; decide, ?_⟩
          have D2 : RdO CR (upd H1 p (.ins CR dx (putF "at" (.int ((pr1.length : Nat) + 1 : Int)) (fR wl pr1.length fin lv bd)))) p dx wl lv bd fin (pr1 ++ [t]) r2 := D1.step KeepX.upd (by rw [upd_same, nat_add1, fR_put])
          refine ⟨_, rfl, _, rfl, p, dx, _, rfl, D2.ob, nm, p, dx, wl, lv, bd, fin, pr1 ++ [t], r2, H0, rfl, D2, KeepX.same s1 np0 KeepX.upd, fun k r3 hn H2 pr2 kx e2 D3 => ?_, fun c hc H' d s' nd' hx => ?_⟩
          · refine ⟨k, rfl, by show 2 ≤ sizeLine; decide, fun a na => ?_⟩
            have hn' : num fin (t :: r2).tail = .ok (k, r3) := hn
            rw [hn'] at q
            exact q n (-k) r3 rfl _ pr2 a (((k1.trans KeepX.upd).trans kx).trans (KeepX.of (same_upd na))) (by rw [e1, ← e2]; simp) (D3.tup na) upd_same
          · have hc' : num fin (t :: r2).tail = .error c := hc
            rw [hc'] at qx
            exact qx c rfl H' d s' nd' hx
        rw [if_neg h4] at q
        rw [decide_eq_false h4]
        refine iteF ⟨_, rfl, by show 2 ≤ sizeLine; decide, fun a na => ?_⟩
        exact q n 0 r1' rfl _ pr1 a (k1.trans (KeepX.of (same_upd na))) e1 (D1.tup na) upd_same
end
end Lo
namespace Lo
open PySem L2 Fx
section
variable {P : Program} {w : World} {K : PySem.W.Frag} {mg : Str → Option Value} {base : Heap}
/-! ### comparison -/
def spCompar (CR CB : Addr) : Sp := fun vs H Q E => ∃ (p dx wl lv bd : Addr) (fin : Nat) (pr r : Tk) (H0 : Hp), vs = [.ref p] ∧ RdO CR H p dx wl lv bd fin pr r ∧ Same H0 H ∧ H0 p = none ∧
  (∀ f r2, cmpr fin r = .ok (f, r2) → ∀ H' v pr2, KeepX p H H' → pr ++ r = pr2 ++ r2 → RdO CR H' p dx wl lv bd fin pr2 r2 → FAt H' f v → Q v H') ∧
  (∀ c, cmpr fin r = .error c → ∀ H' d, Same H0 H' → H0 d = none → H' d = some (.xd (btF c)) → E (.ref CB) (some d) H')
abbrev nCompar : List Str := ["self", "one", "operator"]
theorem scCompar : FnScope nCompar ["self"] (defScope sCompar) := ⟨rfl, rfl, rfl, by decide +kernel, rfl, by decide +kernel, by decide +kernel⟩
theorem ins_tup {p a C dx : Addr} {fs : List (Str × V)} {xs : List V} {H : Hp} (h : H p = some (.ins C dx fs)) (t : H a = some (.tup xs)) : a ≠ p := ne_of t h (by intro z; cases z)
theorem ok_compar {f fM fT fW CR CB aO aR aK : Addr} {fd fdM fdT fdW : FuncData} (F : Fun K "comparison" "FormulaReader.comparison" sCompar f fd) (C : Cst K mg aO aR aK) (X : RCls K CR)
    (GM : FnOk P w K mg base (L2.CX P w) 6 fM fdM ["self"] (spTerm CR CB)) (bM : Binds K fdM ["self"] []) (mM : Meth K CR "term" fM)
    (GT : FnOk P w K mg base (L2.CX P w) 4 fT fdT ["self", "fits"] (spTaken CR CB)) (bT : Binds K fdT ["self", "fits"] []) (mT : Meth K CR "taken" fT)
    (GW : FnOk P w K mg base CX0 1 fW fdW ["self"] (spWord CR)) (bW : Binds K fdW ["self"] []) (mW : Meth K CR "word" fW) : FnOk P w K mg base (L2.CX P w) 7 f fd ["self"] (spCompar CR CB) := by
  refine F.okX scCompar (fun vs H Q E h => ?_) (fun cdv A outer s H vs Q E hr h => ?_)
  · obtain ⟨p, _, _, _, _, _, _, _, _, rfl, _⟩ := h
    rfl
  · obtain ⟨p, dx, wl, lv, bd, fin, pr, r, H0, rfl, D, s0, np0, q, qx⟩ := h
    have nd := scCompar.nd
    refine ⟨_, pss_cons (ps_set (i := 1) nd rfl (.inl rfl) (pe_meth0 (pv 0) X.cl mM GM hr bM .nil (passes_call (takes_of rfl rfl rfl rfl) fun _ _ _ _ h => h)))
      (pss_cons (ps_set (i := 2) nd rfl (.inl rfl) (pe_meth (pv 0) X.cl mT GT (hr.mono (by decide)) bT .nil (passes_call (takes_of rfl rfl rfl rfl) fun _ _ _ _ h => h)
          (pa_cons (pe_cmpR op_in_seq (pe_meth0 (pv 0) X.cl mW GW (hr.mono (by decide)) bW .nil pass0) (pe_glob (v := .ref aO) (by rfl) C.ops rfl) (by rfl)) pa_nil)))
      (pss_one (ps_ret (pe_tup (pa_cons pe_str (pa_cons (pv 2) (pa_cons (pv 1) (pa_cons (pe_meth0 (pv 0) X.cl mM GM hr bM .nil (passes_call (takes_of rfl rfl rfl rfl) fun _ _ _ _ h => h)) pa_nil)))))))), ?_⟩
    unfold cmpr at q qx
    have tm : ∀ {wl lv bd : Addr} {a e : Nat}, (fR wl a e lv bd).lookup ("term" : Str) = none := no_m (by decide +kernel)
    refine ⟨_, rfl, p, dx, _, rfl, D.ob, tm, p, dx, wl, lv, bd, fin, pr, r, H0, rfl, D, s0, np0, fun n1 k1 r1 h1 H1 pr1 t1 kx1 e1 D1 ht1 => ?_, fun c hc H' d s' nd' hx => ?_⟩
    · rw [h1] at q qx
      dsimp only at q qx
      have s1 := kx1.same s0 np0
      refine ⟨_, rfl, p, dx, _, rfl, D1.ob, no_m (by decide +kernel), ?_⟩
      refine ⟨_, rfl, p, dx, _, rfl, D1.ob, no_m (by decide +kernel), p, dx, wl, lv, bd, fin, pr1, r1, rfl, D1, aO, _, rfl, .inr (C.opsT H1), rfl, flat_strs _, ?_⟩
      rw [if_neg Bool.false_ne_true, inV_mk]
      refine ⟨p, dx, wl, lv, bd, fin, pr1, r1, decide (wd r1 ∈ Fx.ops), H0, rfl, D1, s1, fun hb => ?_, fun hb H' d s' nd' hx => ?_⟩
      · obtain ⟨t, r2, rfl⟩ : ∃ t r2, r1 = t :: r2 := by
          cases r1 with
          | nil =>
            have := of_decide_eq_true hb
            unfold Fx.ops at this
            simp [wd] at this
          | cons t r2 => exact ⟨t, r2, rfl⟩
        refine ⟨t, r2, rfl, fun H2 kx2 D2 => ?_⟩
        have s2 := kx2.same s1 np0
        have et : taken fin (decide (wd (t :: r2) ∈ Fx.ops)) (t :: r2) = .ok (t.w, r2) := by
          unfold taken
          rw [if_pos hb]
          rfl
        rw [et] at q qx
        dsimp only at q qx
        refine ⟨_, rfl, _, rfl, _, rfl, p, dx, _, rfl, D2.ob, tm, p, dx, wl, lv, bd, fin, pr1 ++ [t], r2, H0, rfl, D2, s2, np0, fun n2 k2 r3 h2 H3 pr3 t2 kx3 e3 D3 ht2 => ?_, fun c hc H' d s' nd' hx => ?_⟩
        · rw [h2] at q
          refine ⟨by show 4 ≤ sizeLine; decide, fun a na => ?_⟩
          have sa := same_upd (o := HO.tup [.str ("compare" : Str), .str (mkS t.w), .ref t1, .ref t2]) na
          have ht1' := kx3 _ _ (kx2 _ _ ht1 (ins_tup D1.ob ht1)) (ins_tup D2.ob (kx2 _ _ ht1 (ins_tup D1.ob ht1)))
          exact q _ r3 rfl _ (.ref a) pr3 (((kx1.trans kx2).trans kx3).trans (KeepX.of sa)) (by rw [e1, ← e3]; simp) (D3.tup na) ⟨a, t1, t2, rfl, upd_same, sa _ _ ht1', sa _ _ ht2⟩
        · rw [hc] at qx
          exact qx c rfl H' d s' nd' hx
      · have et : taken fin (decide (wd r1 ∈ Fx.ops)) r1 = .error (colT fin r1) := by
          unfold taken
          rw [hb, if_neg Bool.false_ne_true]
        rw [et] at qx
        exact qx _ rfl H' d s' nd' hx
    · rw [hc] at qx
      exact qx c rfl H' d s' nd' hx
/-! ### _row -/
def spRow : Sp := fun vs H Q _ => ∃ (L : Addr) (w' : Cs) (fs : List Fm) (us : List V), vs = [.str (mkS w'), .ref L] ∧ H L = some (.lst us) ∧ FAts H fs us ∧ fs ≠ [] ∧ us.length ≤ 1000000 ∧ ∀ H' v, Same H H' → FAt H' (rowF w' fs) v → Q v H'
theorem scRow : FnScope ["word", "parts"] ["word", "parts"] (defScope sRow) := ⟨rfl, rfl, rfl, by decide +kernel, rfl, by decide +kernel, by decide +kernel⟩
theorem ok_row {f : Addr} {fd : FuncData} (F : Fun K "_row" "_row" sRow f fd) (T : Blt mg) : FnOk P w K mg base CX0 1 f fd ["word", "parts"] spRow := by
  refine F.ok scRow (fun vs H Q E h => ?_) (fun cdv A outer s H vs Q E hr h => ?_)
  · obtain ⟨L, w', fs, us, rfl, _⟩ := h
    rfl
  · obtain ⟨L, w', fs, us, rfl, hL, hf, hn, few, q⟩ := h
    refine ⟨_, pss_cons (ps_if (pt_cmpR op_eq (pe_callB call_len_seq (by rfl) T.len PySem.boot_len (pa_cons (pv 1) pa_nil)) pe_int (nomark _)) (pss_one (ps_ret (pe_ix ix_list (pv 1) pe_int (fun _ _ => rfl)))) pss_nil)
      (pss_one (ps_ret (pe_tup (pa_cons (pv 0) (pa_cons (pe_callTy call_tuple_of (by rfl) T.tuple PyProof.Rows.boot_tuple (pa_cons (pv 1) pa_nil)) pa_nil))))), ?_⟩
    refine ⟨_, rfl, L, _, rfl, .inl (SqL.of hL), rfl, _, rfl, ?_⟩
    have el := FAts.len fs us hf
    by_cases h1 : us.length = 1
    · rw [decide_eq_true (by rw [h1]; rfl)]
      obtain ⟨f0, rfl⟩ : ∃ f0, fs = [f0] := List.length_eq_one_iff.mp (by omega)
      obtain ⟨u, us', rfl, hu, rfl⟩ := hf
      exact iteT ⟨_, rfl, L, _, 0, _, rfl, rfl, SqL.of hL, atI_nat (j := 0) rfl, q H u (Same.refl _) hu⟩
    · rw [decide_eq_false (fun z => h1 (by have := V.int.inj z; omega))]
      refine iteF ⟨_, rfl, _, rfl, L, _, rfl, .inl ⟨SqL.of hL, fun t nt => ⟨by show 2 ≤ sizeLine; decide, fun a na => ?_⟩⟩⟩
      have st := same_upd (o := HO.tup us) nt
      have sa := same_upd (o := HO.tup [.str (mkS w'), .ref t]) na
      have er : rowF w' fs = .row w' fs := by
        have h2 : 2 ≤ fs.length := by
          cases fs with
          | nil => exact absurd rfl hn
          | cons x fs =>
            rw [List.length_cons] at el ⊢
            omega
        exact rowF_two w' h2
      refine q _ (.ref a) (st.trans sa) ?_
      rw [er]
      exact ⟨a, t, us, rfl, upd_same, sa _ _ upd_same, FAts.keep (KeepT.of (st.trans sa)) fs us hf⟩
end
/-! ### levels -/
structure LvA where
  p : Addr
  q : Addr
  c : Addr
  s : Addr
  dx : Addr
def fL (q : Addr) (cl : Bool) (c s : Addr) (d : Nat) : List (Str × V) := [("quantifiers", .ref q), ("closes", .bl cl), ("choices", .ref c), ("parts", .ref s), ("denials", .int (d : Nat))]
section
variable {q c s : Addr} {cl : Bool} {d : Nat}
theorem fL_q : (fL q cl c s d).lookup ("quantifiers" : Str) = some (.ref q) := lk0
theorem fL_cl : (fL q cl c s d).lookup ("closes" : Str) = some (.bl cl) := by
  unfold fL
  rw [lk1 (by decide +kernel), lk0]
theorem fL_c : (fL q cl c s d).lookup ("choices" : Str) = some (.ref c) := by
  unfold fL
  rw [lk1 (by decide +kernel), lk1 (by decide +kernel), lk0]
theorem fL_s : (fL q cl c s d).lookup ("parts" : Str) = some (.ref s) := by
  unfold fL
  rw [lk1 (by decide +kernel), lk1 (by decide +kernel), lk1 (by decide +kernel), lk0]
theorem fL_d : (fL q cl c s d).lookup ("denials" : Str) = some (.int (d : Nat)) := by
  unfold fL
  rw [lk1 (by decide +kernel), lk1 (by decide +kernel), lk1 (by decide +kernel), lk1 (by decide +kernel), lk0]
theorem fL_putd (e : Nat) : putF "denials" (.int (e : Nat)) (fL q cl c s d) = fL q cl c s e := by
  unfold fL
  rw [pf1 (by decide +kernel), pf1 (by decide +kernel), pf1 (by decide +kernel), pf1 (by decide +kernel), pf0]
theorem fL_putd1 : putF "denials" (.int (((d : Nat) : Int) + 1)) (fL q cl c s d) = fL q cl c s (d + 1) := by
  rw [nat_add1, fL_putd]
theorem fL_puts (t : Addr) : putF "parts" (.ref t) (fL q cl c s d) = fL q cl c t d := by
  unfold fL
  rw [pf1 (by decide +kernel), pf1 (by decide +kernel), pf1 (by decide +kernel), pf0]
end
structure LCls (K : PySem.W.Frag) (mg : Str → Option Value) (CL fI : Addr) : Prop where
  cl : Cls K CL
  nQ : NoAttr K CL "quantifiers"
  nC : NoAttr K CL "closes"
  nH : NoAttr K CL "choices"
  nP : NoAttr K CL "parts"
  nD : NoAttr K CL "denials"
  make : Mk K CL fI
  mg : mg "FormulaLevel" = some (.ref CL)
def QsAt (H : Hp) (a : Addr) (qs : List (Cs × Cs)) : Prop := ∃ ps : List Addr, H a = some (.lst (ps.map V.ref)) ∧ ps.length = qs.length ∧ ∀ (i : Nat) (p : Addr) (q : Cs × Cs), ps[i]? = some p → qs[i]? = some q → H p = some (.tup [.str (mkS q.1), .str (mkS q.2)])
structure LvlAt (CL : Addr) (H : Hp) (a : LvA) (l : Lvl) : Prop where
  ob : H a.p = some (.ins CL a.dx (fL a.q l.closes a.c a.s l.dn))
  qs : QsAt H a.q l.qs
  ch : ∃ vs, H a.c = some (.lst vs) ∧ FAts H l.ch vs
  ps : ∃ us, H a.s = some (.lst us) ∧ FAts H l.ps us
/-- all but S stands, tuples stand -/
structure Kp (S : List Addr) (H H' : Hp) : Prop where
  k : ∀ b o, H b = some o → b ∉ S → H' b = some o
  t : KeepT H H'
theorem Kp.refl (S : List Addr) (H : Hp) : Kp S H H := ⟨fun _ _ e _ => e, KeepT.refl H⟩
theorem Kp.trans {S : List Addr} {H H1 H2 : Hp} (a : Kp S H H1) (b : Kp S H1 H2) : Kp S H H2 := ⟨fun c o e n => b.k c o (a.k c o e n) n, a.t.trans b.t⟩
theorem Kp.of {S : List Addr} {H H1 : Hp} (s : Same H H1) : Kp S H H1 := ⟨fun c o e _ => s c o e, KeepT.of s⟩
theorem Kp.weak {S S' : List Addr} {H H1 : Hp} (a : Kp S H H1) (h : ∀ x ∈ S, x ∈ S') : Kp S' H H1 := ⟨fun c o e n => a.k c o e fun z => n (h c z), a.t⟩
theorem Kp.upd {a : Addr} {H : Hp} {o x : HO} (h : H a = some x) (n : ∀ xs, x ≠ .tup xs) : Kp [a] H (upd H a o) := ⟨fun b y e m => by
  rw [upd_ne (fun z => m (by rw [z]; exact List.mem_cons_self))]
  exact e, KeepT.upd h n⟩
theorem KeepX.kp {p C dx : Addr} {fs : List (Str × V)} {H H1 : Hp} (hp : H p = some (.ins C dx fs)) (k : KeepX p H H1) : Kp [p] H H1 :=
  ⟨fun b o e n => k b o e fun z => n (by rw [z]; exact List.mem_cons_self), fun b xs e => k b _ e (ins_tup hp e)⟩
theorem QsAt.kp {S : List Addr} {H H' : Hp} {a : Addr} {qs : List (Cs × Cs)} (k : Kp S H H') (n : a ∉ S) (h : QsAt H a qs) : QsAt H' a qs := by
  obtain ⟨ps, h1, h2, h3⟩ := h
  exact ⟨ps, k.k _ _ h1 n, h2, fun i p q x y => k.t _ _ (h3 i p q x y)⟩
theorem LvlAt.kp {CL : Addr} {S : List Addr} {H H' : Hp} {a : LvA} {l : Lvl} (k : Kp S H H') (h : LvlAt CL H a l) (n : a.p ∉ S ∧ a.q ∉ S ∧ a.c ∉ S ∧ a.s ∉ S) : LvlAt CL H' a l := by
  obtain ⟨vs, c1, c2⟩ := h.ch
  obtain ⟨us, s1, s2⟩ := h.ps
  exact ⟨k.k _ _ h.ob n.1, h.qs.kp k n.2.1, ⟨vs, k.k _ _ c1 n.2.2.1, FAts.keep k.t _ _ c2⟩, us, k.k _ _ s1 n.2.2.2, FAts.keep k.t _ _ s2⟩
def adr : List LvA → List Addr
  | [] => []
  | a :: L => a.p :: a.q :: a.c :: a.s :: adr L
def LvsAt (CL : Addr) (H : Hp) : List LvA → List Lvl → Prop
  | [], ls => ls = []
  | a :: L, ls => ∃ l ls', ls = l :: ls' ∧ LvlAt CL H a l ∧ LvsAt CL H L ls'
theorem LvsAt.kp {CL : Addr} {S : List Addr} {H H' : Hp} (k : Kp S H H') : ∀ (L : List LvA) (ls : List Lvl), LvsAt CL H L ls → (∀ x ∈ adr L, x ∉ S) → LvsAt CL H' L ls
  | [], ls, h, _ => h
  | a :: L, ls, h, n => by
    obtain ⟨l, ls', e, h1, h2⟩ := h
    exact ⟨l, ls', e, h1.kp k ⟨n _ (by simp [adr]), n _ (by simp [adr]), n _ (by simp [adr]), n _ (by simp [adr])⟩, LvsAt.kp k L ls' h2 fun x hx => n x (by simp [adr, hx])⟩
theorem LvsAt.len {CL : Addr} {H : Hp} : ∀ (L : List LvA) (ls : List Lvl), LvsAt CL H L ls → L.length = ls.length
  | [], ls, h => by rw [show ls = [] from h]; rfl
  | a :: L, ls, h => by
    obtain ⟨l, ls', rfl, _, h2⟩ := h
    rw [List.length_cons, List.length_cons, LvsAt.len L ls' h2]
def bdH (bd : List Cs) : HO := .dK (dS (bd.map mkS) fun _ => .bl true)
def wt : List Lvl → Nat
  | [] => 0
  | l :: ls => (1 + l.qs.length + l.ch.length + l.ps.length + l.dn) + wt ls
def bnames : List Lvl → List Cs
  | [] => []
  | l :: ls => bnames ls ++ l.qs.map (·.2)
/-- the reader with its levels -/
structure RdB (CR CL : Addr) (H0 H : Hp) (p dx wl lv bd : Addr) (fin : Nat) (pr : Tk) (s : Ps) (L : List LvA) : Prop where
  o : RdO CR H p dx wl lv bd fin pr s.r
  lvl : H lv = some (.lst ((L.map fun a => V.ref a.p).reverse))
  bnd : H bd = some (bdH s.bd)
  at_ : LvsAt CL H L s.lv
  nd : (p :: wl :: lv :: bd :: adr L).Nodup
  free : ∀ x ∈ p :: wl :: lv :: bd :: adr L, H0 x = none
  same : Same H0 H
structure RdS (CR CL : Addr) (H0 H : Hp) (p dx wl lv bd : Addr) (fin : Nat) (pr : Tk) (s : Ps) (L : List LvA) : Prop where
  b : RdB CR CL H0 H p dx wl lv bd fin pr s L
  bo : s.bd = bnames s.lv ∧ s.bd.Nodup
  few : wt s.lv ≤ pr.length + 1 ∧ s.bd.length ≤ pr.length
theorem wt_mem {l : Lvl} : ∀ {ls : List Lvl}, l ∈ ls → 1 + l.qs.length + l.ch.length + l.ps.length + l.dn ≤ wt ls
  | x :: ls, h => by
    show _ ≤ (1 + x.qs.length + x.ch.length + x.ps.length + x.dn) + wt ls
    rcases List.mem_cons.mp h with rfl | m
    · omega
    · have := wt_mem m
      omega
theorem wt_len : ∀ ls : List Lvl, ls.length ≤ wt ls
  | [] => Nat.le_refl _
  | x :: ls => by
    show ls.length + 1 ≤ (1 + x.qs.length + x.ch.length + x.ps.length + x.dn) + wt ls
    have := wt_len ls
    omega
theorem cmpr_two {fin : Nat} {r r2 : Tk} {f : Fm} (h : cmpr fin r = .ok (f, r2)) : r2.length + 2 ≤ r.length := by
  unfold cmpr at h
  cases e1 : term fin r with
  | error z => rw [e1] at h; cases h
  | ok z =>
    obtain ⟨n1, k1, r1⟩ := z
    rw [e1] at h
    dsimp only at h
    cases e2 : taken fin (decide (wd r1 ∈ Fx.ops)) r1 with
    | error z => rw [e2] at h; cases h
    | ok z =>
      obtain ⟨op, r3⟩ := z
      rw [e2] at h
      dsimp only at h
      cases e3 : term fin r3 with
      | error z => rw [e3] at h; cases h
      | ok z =>
        obtain ⟨n2, k2, r4⟩ := z
        rw [e3] at h
        cases h
        have := term_lt e1
        have := taken_le e2
        have := term_lt e3
        omega
theorem RdB.kp {CR CL : Addr} {H0 H H1 : Hp} {p dx wl lv bd : Addr} {fin : Nat} {pr : Tk} {s : Ps} {L : List LvA} {S : List Addr} (h : RdB CR CL H0 H p dx wl lv bd fin pr s L) (k : Kp S H H1) (n : ∀ x ∈ p :: wl :: lv :: bd :: adr L, x ∉ S) (sm : Same H0 H1) :
    RdB CR CL H0 H1 p dx wl lv bd fin pr s L := by
  obtain ⟨ps, w1, w2, w3⟩ := h.o.ws
  exact ⟨⟨k.k _ _ h.o.ob (n _ (by simp)), ⟨ps, k.k _ _ w1 (n _ (by simp)), w2, fun i q t x y => k.t _ _ (w3 i q t x y)⟩, h.o.ok, h.o.few⟩, k.k _ _ h.lvl (n _ (by simp)), k.k _ _ h.bnd (n _ (by simp)), h.at_.kp k _ _ fun x hx => n x (by simp [hx]), h.nd, h.free, sm⟩
/-- a change of the reader's own object -/
theorem RdB.move {CR CL : Addr} {H0 H H1 : Hp} {p dx wl lv bd : Addr} {fin : Nat} {pr pr2 : Tk} {r2 : Tk} {s : Ps} {L : List LvA} (h : RdB CR CL H0 H p dx wl lv bd fin pr s L) (k : KeepX p H H1) (o : RdO CR H1 p dx wl lv bd fin pr2 r2) :
    RdB CR CL H0 H1 p dx wl lv bd fin pr2 { s with r := r2 } L := by
  have kp := k.kp h.o.ob
  have nd := h.nd
  rw [List.nodup_cons] at nd
  have np : ∀ x ∈ wl :: lv :: bd :: adr L, x ∉ [p] := fun x hx z => by
    rw [List.mem_singleton] at z
    exact nd.1 (z ▸ hx)
  exact ⟨o, kp.k _ _ h.lvl (np _ (by simp)), kp.k _ _ h.bnd (np _ (by simp)), h.at_.kp kp _ _ fun x hx => np x (by simp [hx]), h.nd, h.free, k.same h.same (h.free p List.mem_cons_self)⟩
theorem RdS.move {CR CL : Addr} {H0 H H1 : Hp} {p dx wl lv bd : Addr} {fin : Nat} {pr pr2 : Tk} {r2 : Tk} {s : Ps} {L : List LvA} (h : RdS CR CL H0 H p dx wl lv bd fin pr s L) (k : KeepX p H H1) (o : RdO CR H1 p dx wl lv bd fin pr2 r2) (l : pr.length ≤ pr2.length) :
    RdS CR CL H0 H1 p dx wl lv bd fin pr2 { s with r := r2 } L := ⟨h.b.move k o, h.bo, by have := h.few; exact ⟨by dsimp only; omega, by dsimp only; omega⟩⟩
end Lo
namespace Lo
open PySem L2 Fx
/-- what leaving a level gives: the formula, the words left, the names bound -/
def lf (fin : Nat) (q : List (Cs × Cs)) (c : Bool) (ls : List Lvl) (r : Tk) (bd : List Cs) (g0 : Fm) : R (Fm × Tk × List Cs) :=
  if c = true ∧ wd r ≠ [41] then .error (colT fin r)
  else if c = false ∧ ls = [] ∧ r ≠ [] then .error (colT fin r)
  else .ok (wraps g0 q.reverse, if c then r.tail else r, q.reverse.foldl (fun b q => b.filter (fun x => decide (x ≠ q.2))) bd)
theorem leave_lf (fin : Nat) (q : List (Cs × Cs)) (c : Bool) (ls : List Lvl) (r : Tk) (bd : List Cs) (g0 : Fm) : leave fin q c ls r bd g0 = match lf fin q c ls r bd g0 with
    | .error e => .error e
    | .ok (g, r2, bd2) => if ls = [] then .ok (.inr g) else closedF fin ls r2 bd2 g := by
  unfold leave lf
  by_cases h1 : c = true ∧ wd r ≠ [41]
  · rw [if_pos h1, if_pos h1]
  · rw [if_neg h1, if_neg h1]
    by_cases h2 : c = false ∧ ls = [] ∧ r ≠ []
    · rw [if_pos h2, if_pos h2]
    · rw [if_neg h2, if_neg h2]
theorem unbind2 : ∀ (qs : List (Cs × Cs)) (bd : List Cs), (bd ++ qs.map (·.2)).Nodup → (qs.reverse.foldl (fun b (q : Cs × Cs) => b.filter (fun x => decide (x ≠ q.2))) (bd ++ qs.map (·.2))) = bd
  | [], bd, _ => by simp
  | q :: qs, bd, nd => by
    have e : bd ++ (q :: qs).map (·.2) = (bd ++ [q.2]) ++ qs.map (·.2) := by simp
    rw [List.reverse_cons, List.foldl_append, e, unbind2 qs (bd ++ [q.2]) (e ▸ nd)]
    show ((bd ++ [q.2]).filter fun x => decide (x ≠ q.2)) = bd
    have out : q.2 ∉ bd := fun m => (List.nodup_append.mp nd).2.2 q.2 m q.2 List.mem_cons_self rfl
    rw [List.filter_append]
    have f1 : bd.filter (fun x => decide (x ≠ q.2)) = bd := List.filter_eq_self.mpr fun x hx => decide_eq_true fun z => out (z ▸ hx)
    have f2 : [q.2].filter (fun x => decide (x ≠ q.2)) = [] := by simp
    rw [f1, f2, List.append_nil]
theorem bdH_drop (l : List Cs) (x : Cs) : dropK (dS (l.map mkS) fun _ => V.bl true) (Sum.inr (mkS x) : Key) = dS ((l.filter fun y => decide (y ≠ x)).map mkS) fun _ => .bl true := by
  unfold dropK dS
  rw [List.map_map, List.map_map, List.filter_map]
  congr 1
  refine List.filter_congr fun y _ => ?_
  show decide ((Sum.inr (mkS y) : Key) ≠ Sum.inr (mkS x)) = decide (y ≠ x)
  refine decide_eq_decide.mpr ⟨fun h z => h (by rw [z]), fun h z => h (mkS_inj (Sum.inr.inj z))⟩
theorem bdH_get (l : List Cs) (x : Cs) : valV (dS (l.map mkS) fun _ => V.bl true) (Sum.inr (mkS x) : Key) = if x ∈ l then some (.bl true) else none := by
  rw [dS_val]
  by_cases h : x ∈ l
  · rw [if_pos h, if_pos (List.mem_map.mpr ⟨x, h, rfl⟩)]
  · rw [if_neg h, if_neg]
    intro z
    obtain ⟨y, hy, e⟩ := List.mem_map.mp z
    exact h (mkS_inj e ▸ hy)
theorem QsAt.tup {H : Hp} {a : Addr} {qs : List (Cs × Cs)} (h : QsAt H a qs) : ∃ ps : List Addr, H a = some (.lst (ps.map V.ref)) ∧ ps.length = qs.length ∧ ∀ (i : Nat) (hi : i < qs.length) (hp : i < ps.length), H ps[i] = some (.tup [.str (mkS qs[i].1), .str (mkS qs[i].2)]) := by
  obtain ⟨ps, h1, h2, h3⟩ := h
  exact ⟨ps, h1, h2, fun i hi hp => h3 i _ _ (List.getElem?_eq_getElem hp) (List.getElem?_eq_getElem hi)⟩
theorem nd_out {p wl lv bd : Addr} {l : List Addr} (h : (p :: wl :: lv :: bd :: l).Nodup) : (p ≠ wl ∧ p ≠ lv ∧ p ≠ bd ∧ p ∉ l) ∧ (wl ≠ lv ∧ wl ≠ bd ∧ wl ∉ l) ∧ (lv ≠ bd ∧ lv ∉ l) ∧ bd ∉ l ∧ l.Nodup := by
  simp only [List.nodup_cons, List.mem_cons, not_or] at h
  obtain ⟨⟨a1, a2, a3, a4⟩, ⟨b1, b2, b3⟩, ⟨c1, c2⟩, d1, e⟩ := h
  exact ⟨⟨a1, a2, a3, a4⟩, ⟨b1, b2, b3⟩, ⟨c1, c2⟩, d1, e⟩
theorem wraps_snoc (g0 : Fm) (k n : Cs) : ∀ qs : List (Cs × Cs), wraps g0 (qs ++ [(k, n)]) = .qu k n (wraps g0 qs)
  | [] => rfl
  | q :: qs => by
    show wraps g0 (q :: (qs ++ [(k, n)])) = .qu k n (wraps g0 (q :: qs))
    obtain ⟨a, b⟩ := q
    show wraps (.qu a b g0) (qs ++ [(k, n)]) = .qu k n (wraps (.qu a b g0) qs)
    exact wraps_snoc _ k n qs
/-- other names are bound -/
theorem RdB.setBd {CR CL : Addr} {H0 H : Hp} {p dx wl lv bd : Addr} {fin : Nat} {pr : Tk} {s : Ps} {L : List LvA} (h : RdB CR CL H0 H p dx wl lv bd fin pr s L) (b2 : List Cs) :
    RdB CR CL H0 (upd H bd (bdH b2)) p dx wl lv bd fin pr { s with bd := b2 } L := by
  obtain ⟨nP, nW, nL, nB, nA⟩ := nd_out h.nd
  have k : Kp [bd] H (upd H bd (bdH b2)) := Kp.upd h.bnd (by intro xs z; cases z)
  have out : ∀ {x}, x ≠ bd → x ∉ [bd] := fun h z => h (List.mem_singleton.mp z)
  obtain ⟨ps, w1, w2, w3⟩ := h.o.ws
  exact ⟨⟨k.k _ _ h.o.ob (out nP.2.2.1), ⟨ps, k.k _ _ w1 (out nW.2.1), w2, fun i q t x y => k.t _ _ (w3 i q t x y)⟩, h.o.ok, h.o.few⟩, k.k _ _ h.lvl (out nL.1), upd_same, h.at_.kp k _ _ fun x hx => out fun z => nB (z ▸ hx), h.nd, h.free, h.same.later (h.free bd (by simp))⟩
section
variable {P : Program} {w : World} {K : PySem.W.Frag} {mg : Str → Option Value} {base : Heap}
/-! ### FormulaLevel.__init__ -/
def spLvInit (CL : Addr) : Sp := fun vs H Q _ => ∃ (p dx q : Addr) (cl : Bool), vs = [.ref p, .ref q, .bl cl] ∧ H p = some (.ins CL dx []) ∧
  ∀ (H' : Hp) (c s : Addr), KeepX p H H' → H c = none → H s = none → c ≠ s → H' p = some (.ins CL dx (fL q cl c s 0)) → H' c = some (.lst []) → H' s = some (.lst []) → Q .non H'
theorem scLvInit : FnScope ["self", "quantifiers", "closes"] ["self", "quantifiers", "closes"] (defScope sLvInit) := ⟨rfl, rfl, rfl, by decide +kernel, rfl, by decide +kernel, by decide +kernel⟩
theorem fL_made (q : Addr) (cl : Bool) (c s : Addr) : putF "denials" (.int 0) (putF "parts" (.ref s) (putF "choices" (.ref c) (putF "closes" (.bl cl) (putF "quantifiers" (.ref q) [])))) = fL q cl c s 0 := by
  show putF "denials" (.int 0) (putF "parts" (.ref s) (putF "choices" (.ref c) (putF "closes" (.bl cl) [("quantifiers", .ref q)]))) = _
  rw [pf1 (by decide +kernel)]
  show putF "denials" (.int 0) (putF "parts" (.ref s) (putF "choices" (.ref c) [("quantifiers", .ref q), ("closes", .bl cl)])) = _
  rw [pf1 (by decide +kernel), pf1 (by decide +kernel)]
  show putF "denials" (.int 0) (putF "parts" (.ref s) [("quantifiers", .ref q), ("closes", .bl cl), ("choices", .ref c)]) = _
  rw [pf1 (by decide +kernel), pf1 (by decide +kernel), pf1 (by decide +kernel)]
  show putF "denials" (.int 0) [("quantifiers", .ref q), ("closes", .bl cl), ("choices", .ref c), ("parts", .ref s)] = _
  rw [pf1 (by decide +kernel), pf1 (by decide +kernel), pf1 (by decide +kernel), pf1 (by decide +kernel)]
  rfl
theorem putF_len (f : Str) (y : V) : ∀ l : List (Str × V), (putF f y l).length ≤ l.length + 1
  | [] => Nat.le_refl _
  | (g, v) :: l => by
    show (if g = f then (g, y) :: l else (g, v) :: putF f y l).length ≤ _
    split
    · simp
    · have := putF_len f y l
      simp only [List.length_cons]
      omega
theorem ok_lvinit {f fI CL : Addr} {fd : FuncData} (F : Fun K "__init__" "FormulaLevel.__init__" sLvInit f fd) (X : LCls K mg CL fI) : FnOk P w K mg base CX0 1 f fd ["self", "quantifiers", "closes"] (spLvInit CL) := by
  refine F.ok scLvInit (fun vs H Q E h => ?_) (fun cdv A outer s H vs Q E hr h => ?_)
  · obtain ⟨p, dx, q, cl, rfl, _⟩ := h
    rfl
  · obtain ⟨p, dx, q, cl, rfl, hp, k⟩ := h
    refine ⟨_, pss_cons (ps_fld (pv 0) (pv 1) rfl) (pss_cons (ps_fld (pv 0) (pv 2) rfl) (pss_cons (ps_fld (pv 0) (pe_lst pa_nil) rfl) (pss_cons (ps_fld (pv 0) (pe_lst pa_nil) rfl) (pss_one (ps_fld (pv 0) pe_int rfl))))), ?_⟩
    have l1 := putF_len "quantifiers" (.ref q) []
    have l2 := putF_len "closes" (.bl cl) (putF "quantifiers" (.ref q) [])
    refine ⟨_, rfl, _, rfl, p, CL, dx, [], rfl, hp, X.cl, X.nQ, by decide, ?_⟩
    refine ⟨_, rfl, _, rfl, p, CL, dx, _, rfl, upd_same, X.cl, X.nC, by simp only [List.length_nil] at l1; omega, ?_⟩
    refine ⟨Nat.zero_le _, fun c nc => ?_⟩
    have npc : p ≠ c := fun z => by rw [← z, upd_same] at nc; cases nc
    have nc0 : H c = none := by rw [upd_ne npc.symm, upd_ne npc.symm] at nc; exact nc
    refine ⟨_, rfl, p, CL, dx, _, rfl, by rw [upd_ne npc]; exact upd_same, X.cl, X.nH, by simp only [List.length_nil] at l1; omega, ?_⟩
    refine ⟨Nat.zero_le _, fun s' ns => ?_⟩
    have nps : p ≠ s' := fun z => by rw [← z, upd_same] at ns; cases ns
    have ncs : c ≠ s' := fun z => by rw [← z, upd_ne npc.symm, upd_same] at ns; cases ns
    have ns0 : H s' = none := by rw [upd_ne nps.symm, upd_ne ncs.symm, upd_ne nps.symm, upd_ne nps.symm] at ns; exact ns
    have l3 := putF_len "choices" (.ref c) (putF "closes" (.bl cl) (putF "quantifiers" (.ref q) []))
    have l4 := putF_len "parts" (.ref s') (putF "choices" (.ref c) (putF "closes" (.bl cl) (putF "quantifiers" (.ref q) [])))
    simp only [List.length_nil] at l1
    refine ⟨_, rfl, p, CL, dx, _, rfl, by rw [upd_ne nps]; exact upd_same, X.cl, X.nP, by omega, ?_⟩
    refine ⟨_, rfl, p, CL, dx, _, rfl, upd_same, X.cl, X.nD, by omega, ?_⟩
    refine k _ c s' (fun b o e n => ?_) nc0 ns0 ncs ?_ ?_ ?_
    · rw [upd_ne n, upd_ne n, upd_ne (ne_of_none e ns0), upd_ne n, upd_ne (ne_of_none e nc0), upd_ne n, upd_ne n]
      exact e
    · rw [upd_same, fL_made]
    · rw [upd_ne npc.symm, upd_ne npc.symm, upd_ne ncs, upd_ne npc.symm, upd_same]
    · rw [upd_ne nps.symm, upd_ne nps.symm, upd_same]
/-! ### left -/
def spLeft (CR CL CB : Addr) : Sp := fun vs H Q E => ∃ (p dx wl lv bd : Addr) (fin : Nat) (pr : Tk) (s : Ps) (L : List LvA) (a : LvA) (l : Lvl) (ls : List Lvl) (g0 : Fm) (v : V) (H0 : Hp),
  vs = [.ref p, .ref a.p, v] ∧ RdS CR CL H0 H p dx wl lv bd fin pr s (a :: L) ∧ s.lv = l :: ls ∧ FAt H g0 v ∧
  (∀ g r2 bd2, lf fin l.qs l.closes ls s.r s.bd g0 = .ok (g, r2, bd2) → ∀ H' v' pr2, RdB CR CL H0 H' p dx wl lv bd fin pr2 ⟨r2, ls, bd2⟩ L → bd2 = bnames ls → bd2.Nodup → pr.length ≤ pr2.length → bd2.length ≤ pr2.length → FAt H' g v' → Q v' H') ∧
  (∀ c, lf fin l.qs l.closes ls s.r s.bd g0 = .error c → ∀ H' d, Same H0 H' → H0 d = none → H' d = some (.xd (btF c)) → E (.ref CB) (some d) H')
abbrev nLeft : List Str := ["self", "level", "formula", "found", "kind", "name"]
theorem scLeft : FnScope nLeft ["self", "level", "formula"] (defScope sLeft) := ⟨rfl, rfl, rfl, by decide +kernel, rfl, by decide +kernel, by decide +kernel⟩
theorem mk_close : (")" : Str) = mkS [41] := by decide +kernel
theorem ok_left {f fT fC fW CR CL CB fLI : Addr} {fd fdT fdC fdW : FuncData} (F : Fun K "left" "FormulaReader.left" sLeft f fd) (T : Blt mg) (X : RCls K CR) (Y : LCls K mg CL fLI)
    (GT : FnOk P w K mg base (L2.CX P w) 4 fT fdT ["self", "fits"] (spTaken CR CB)) (bT : Binds K fdT ["self", "fits"] []) (mT : Meth K CR "taken" fT)
    (GC : FnOk P w K mg base (L2.CX P w) 3 fC fdC ["self", "fits"] (spCheck CR CB)) (bC : Binds K fdC ["self", "fits"] []) (mC : Meth K CR "check" fC)
    (GW : FnOk P w K mg base CX0 1 fW fdW ["self"] (spWord CR)) (bW : Binds K fdW ["self"] []) (mW : Meth K CR "word" fW) : FnOk P w K mg base (L2.CX P w) 5 f fd ["self", "level", "formula"] (spLeft CR CL CB) := by
  refine F.okX scLeft (fun vs H Q E h => ?_) (fun cdv A outer s H vs Q E hr h => ?_)
  · obtain ⟨p, _, _, _, _, _, _, _, _, a, _, _, _, _, _, rfl, _⟩ := h
    rfl
  · obtain ⟨p, dx, wl, lv, bd, fin, pr, st, L, a, l, ls, g0, v, H0, rfl, D, elv, hg, q, qx⟩ := h
    have nd := scLeft.nd
    refine ⟨_, pss_cons (ps_set (i := 3) nd rfl (.inl rfl) (pv 2))
      (pss_cons (ps_expr (pe_bm0 PySem.F.plainAttrs_list PySem.F.slot_list_pop PySem.F.type_list_pop mt_pop (pe_fld (pv 0) rfl)))
      (C8.pss_cut (ps_if (pt_val (pe_fld (pv 1) rfl))
          (pss_one (ps_expr (pe_meth (pv 0) X.cl mT GT hr bT .nil (passes_call (takes_of rfl rfl rfl rfl) fun _ _ _ _ h => h) (pa_cons (pe_cmpR op_eq (pe_meth0 (pv 0) X.cl mW GW (hr.mono (by decide)) bW .nil pass0) pe_str (nomark _)) pa_nil))))
          (pss_one (ps_if (pt_not (pt_truth (pe_fld (pv 0) rfl) (by intro _; rfl)))
            (pss_one (ps_expr (pe_meth (pv 0) X.cl mC GC (hr.mono (by decide)) bC .nil (passes_call (takes_of rfl rfl rfl rfl) fun _ _ _ _ h => h) (pa_cons (pe_cmpR op_eq (pe_fld (pv 0) rfl) (pe_callB call_len_seq (by rfl) T.len PySem.boot_len (pa_cons (pe_fld (pv 0) rfl) pa_nil)) (nomark _)) pa_nil)))) pss_nil)))
      (pss_cons (ps_for (passes_of rfl) rfl (pi_list (pe_revL (pe_fld (pv 1) rfl))) (pg_tup rfl (pgs_cons (pg_name (i := 4) nd rfl (.inl rfl)) (pgs_cons (pg_name (i := 5) nd rfl (.inl rfl)) pgs_nil)))
          (pss_cons (ps_ddel (pe_fld (pv 0) rfl) (pv 5)) (pss_one (ps_set (i := 3) nd rfl (.inl rfl) (pe_tup (pa_cons (pv 4) (pa_cons (pv 5) (pa_cons (pv 3) pa_nil))))))))
      (pss_one (ps_ret (pv 3)))))), ?_⟩
    have B := D.b
    obtain ⟨nP, nW, nL, nB, nA⟩ := nd_out B.nd
    have hat := B.at_
    rw [elv] at hat
    obtain ⟨l', ls', e, hl, hls⟩ := hat
    obtain ⟨rfl, rfl⟩ : l = l' ∧ ls = ls' := by
      have := List.cons.inj e
      exact ⟨this.1, this.2⟩
    have hlv : H lv = some (.lst ((L.map fun a => V.ref a.p).reverse ++ [V.ref a.p])) := by
      have := B.lvl
      rw [List.map_cons, List.reverse_cons] at this
      exact this
    refine ⟨_, rfl, _, rfl, p, CR, dx, _, _, rfl, B.o.ob, X.cl, X.nL, fR_lev, .inl ⟨rfl, _, SqL.of hlv⟩, lv, _, .ref a.p, rfl, rfl, hlv, ?_, ?_⟩
    · rw [List.length_append, List.length_singleton, Nat.add_sub_cancel, List.getElem?_append_right (Nat.le_refl _), Nat.sub_self]
      rfl
    rw [List.dropLast_concat]
    have k1 : Kp [lv] H (upd H lv (.lst (L.map fun a => V.ref a.p).reverse)) := Kp.upd hlv (by intro xs z; cases z)
    have hs1 : upd H lv (.lst (L.map fun a => V.ref a.p).reverse) lv = some (.lst (L.map fun a => V.ref a.p).reverse) := upd_same
    have sm1 : Same H0 (upd H lv (.lst (L.map fun a => V.ref a.p).reverse)) := B.same.later (B.free lv (by simp))
    generalize upd H lv (.lst (L.map fun a => V.ref a.p).reverse) = H1 at k1 hs1 sm1 ⊢
    simp only [adr, List.mem_cons, not_or] at nP nW nL nB
    simp only [adr, List.nodup_cons, List.mem_cons, not_or] at nA
    have out1 : ∀ {x}, x ≠ lv → x ∉ [lv] := fun h z => h (List.mem_singleton.mp z)
    have B1 : RdB CR CL H0 H1 p dx wl lv bd fin pr ⟨st.r, ls, st.bd⟩ L := by
      obtain ⟨ps, w1, w2, w3⟩ := B.o.ws
      refine ⟨⟨k1.k _ _ B.o.ob (out1 nP.2.1), ⟨ps, k1.k _ _ w1 (out1 nW.1), w2, fun i q t x y => k1.t _ _ (w3 i q t x y)⟩, B.o.ok, B.o.few⟩, hs1, k1.k _ _ B.bnd (out1 (Ne.symm nL.1)), hls.kp k1 _ _ fun x hx => out1 fun z => nL.2.2.2.2.2 (z ▸ hx), ?_, fun x hx => B.free x ?_, sm1⟩
      · simp only [List.nodup_cons, List.mem_cons, not_or]
        exact ⟨⟨nP.1, nP.2.1, nP.2.2.1, nP.2.2.2.2.2.2.2⟩, ⟨nW.1, nW.2.1, nW.2.2.2.2.2.2⟩, ⟨nL.1, nL.2.2.2.2.2⟩, nB.2.2.2.2, nA.2.2.2.2⟩
      · simp only [adr, List.mem_cons] at hx ⊢
        rcases hx with h | h | h | h | h
        · exact .inl h
        · exact .inr (.inl h)
        · exact .inr (.inr (.inl h))
        · exact .inr (.inr (.inr (.inl h)))
        · exact .inr (.inr (.inr (.inr (.inr (.inr (.inr (.inr h)))))))
    have hl1 : LvlAt CL H1 a l := hl.kp k1 ⟨out1 (Ne.symm nL.2.1), out1 (Ne.symm nL.2.2.1), out1 (Ne.symm nL.2.2.2.1), out1 (Ne.symm nL.2.2.2.2.1)⟩
    have hg1 : FAt H1 g0 v := FAt.keep k1.t _ _ hg
    have p_a : a.p ≠ p := Ne.symm nP.2.2.2.1
    -- what is asked of the words left
    refine ⟨fun σ' H' => ∃ pr2 r2, lf fin l.qs l.closes ls st.r st.bd g0 = .ok (wraps g0 l.qs.reverse, r2, l.qs.reverse.foldl (fun b q => b.filter (fun x => decide (x ≠ q.2))) st.bd) ∧ σ' = [some (.ref p), some (.ref a.p), some v, some v, none, none] ∧ RdB CR CL H0 H' p dx wl lv bd fin pr2 ⟨r2, ls, st.bd⟩ L ∧ LvlAt CL H' a l ∧ FAt H' g0 v ∧ pr.length ≤ pr2.length, ?_, ?_⟩
    · refine ⟨_, rfl, a.p, CL, a.dx, _, _, rfl, hl1.ob, Y.cl, Y.nC, fL_cl, l.closes, rfl, ?_⟩
      have far : ∀ {H2 : Hp}, KeepX p H1 H2 → LvlAt CL H2 a l ∧ FAt H2 g0 v := fun {H2} kx => by
        have kp := kx.kp B1.o.ob
        exact ⟨hl1.kp kp ⟨fun z => p_a (List.mem_singleton.mp z), fun z => nP.2.2.2.2.1 (List.mem_singleton.mp z).symm, fun z => nP.2.2.2.2.2.1 (List.mem_singleton.mp z).symm, fun z => nP.2.2.2.2.2.2.1 (List.mem_singleton.mp z).symm⟩, FAt.keep kp.t _ _ hg1⟩
      cases hc : l.closes with
      | true =>
        rw [hc] at qx q
        refine iteT ⟨_, rfl, p, dx, _, rfl, B1.o.ob, no_m (by decide +kernel), ?_⟩
        refine ⟨_, rfl, p, dx, _, rfl, B1.o.ob, no_m (by decide +kernel), p, dx, wl, lv, bd, fin, pr, st.r, rfl, B1.o, rfl, ?_⟩
        rw [mk_close, dec_mk]
        refine ⟨p, dx, wl, lv, bd, fin, pr, st.r, _, H0, rfl, B1.o, sm1, fun hb => ?_, fun hb H' d s' nd' hx => qx (colT fin st.r) ?_ H' d s' nd' hx⟩
        · have hb' : wd st.r = [41] := of_decide_eq_true hb
          obtain ⟨t, r2, er, _⟩ := wd_cons hb'
          refine ⟨t, r2, er, fun H2 kx D2 => ?_⟩
          obtain ⟨f1, f2⟩ := far kx
          refine ⟨pr ++ [t], r2, ?_, rfl, B1.move kx D2, f1, f2, by simp⟩
          unfold lf
          rw [if_neg (fun z => z.2 hb'), if_neg (fun z => Bool.noConfusion z.1), er]
          rfl
        · unfold lf
          rw [if_pos ⟨rfl, of_decide_eq_false hb⟩]
      | false =>
        rw [hc] at qx q
        refine iteF ⟨_, rfl, p, CR, dx, _, _, rfl, B1.o.ob, X.cl, X.nL, fR_lev, !((L.map fun a => V.ref a.p).reverse).isEmpty, .inl ⟨_, SqL.of hs1, rfl⟩, ?_⟩
        have lenL := hls.len
        by_cases hz : ls = []
        · have eL : L = [] := List.length_eq_zero_iff.mp (by rw [lenL, hz]; rfl)
          have emp : (!((L.map fun a => V.ref a.p).reverse).isEmpty) = false := by rw [eL]; rfl
          rw [emp]
          obtain ⟨ps, w1, w2, w3⟩ := B1.o.ws
          refine iteT ⟨_, rfl, p, dx, _, rfl, B1.o.ob, no_m (by decide +kernel), ?_⟩
          refine ⟨_, rfl, p, CR, dx, _, _, rfl, B1.o.ob, X.cl, X.nA, fR_at, _, rfl, p, CR, dx, _, _, rfl, B1.o.ob, X.cl, X.nW, fR_words, wl, _, rfl, .inl (SqL.of w1), rfl, ?_⟩
          have ed : decide (V.int (pr.length : Nat) = V.int (((ps.map V.ref).length : Nat) : Int)) = decide (st.r = []) := by
            rw [List.length_map, w2, List.length_append]
            refine decide_eq_decide.mpr ⟨fun z => ?_, fun z => ?_⟩
            · have := V.int.inj z
              exact List.length_eq_zero_iff.mp (by dsimp only at this; omega)
            · dsimp only
              rw [z]
              rfl
          rw [ed]
          refine ⟨p, dx, wl, lv, bd, fin, pr, st.r, _, H0, rfl, B1.o, sm1, fun hb => ?_, fun hb H' d s' nd' hx => qx (colT fin st.r) ?_ H' d s' nd' hx⟩
          · have hb' : st.r = [] := of_decide_eq_true hb
            refine ⟨pr, st.r, ?_, rfl, B1, hl1, hg1, Nat.le_refl _⟩
            unfold lf
            rw [if_neg (fun z => Bool.noConfusion z.1), if_neg (fun z => z.2.2 hb')]
            rfl
          · unfold lf
            rw [if_neg (fun z => Bool.noConfusion z.1), if_pos ⟨rfl, hz, of_decide_eq_false hb⟩]
        · have emp : (!((L.map fun a => V.ref a.p).reverse).isEmpty) = true := by
            cases L with
            | nil => exact absurd (List.length_eq_zero_iff.mp lenL.symm) hz
            | cons x L => simp
          rw [emp]
          refine iteF ⟨pr, st.r, ?_, rfl, B1, hl1, hg1, Nat.le_refl _⟩
          unfold lf
          rw [if_neg (fun z => Bool.noConfusion z.1), if_neg (fun z => hz z.2.1)]
          rfl
    · rintro σ2 H2 ⟨pr2, r2, elf, rfl, B2, hl2, hg2, lpr⟩
      obtain ⟨ps, q1, q2, q3⟩ := hl2.qs.tup
      refine ⟨_, rfl, a.p, CL, a.dx, _, _, rfl, hl2.ob, Y.cl, Y.nQ, fL_q, a.q, _, rfl, SqL.of q1, fun rq nrq => ?_⟩
      have sR := same_upd (o := HO.lst (ps.map V.ref).reverse) nrq
      have hrq : upd H2 rq (HO.lst (ps.map V.ref).reverse) rq = some (.lst (ps.reverse.map V.ref)) := by rw [upd_same, List.map_reverse]
      have B3 : RdB CR CL H0 (upd H2 rq (HO.lst (ps.map V.ref).reverse)) p dx wl lv bd fin pr2 ⟨r2, ls, st.bd⟩ L := B2.kp (S := []) (Kp.of sR) (fun _ _ => List.not_mem_nil) (B2.same.trans sR)
      have q3' : ∀ (i : Nat) (hi : i < l.qs.length) (hp : i < ps.length), upd H2 rq (HO.lst (ps.map V.ref).reverse) ps[i] = some (.tup [.str (mkS l.qs[i].1), .str (mkS l.qs[i].2)]) := fun i hi hp => sR _ _ (q3 i hi hp)
      have hg3 := FAt.keep (KeepT.of sR) _ _ hg2
      have nrb : rq ≠ bd := fun z => by
        have := B2.bnd
        rw [← z, nrq] at this
        cases this
      generalize upd H2 rq (HO.lst (ps.map V.ref).reverse) = H3 at *
      have ebo := D.bo.1
      rw [elv] at ebo
      have ndb : (bnames ls ++ l.qs.map (·.2)).Nodup := by
        have := D.bo.2
        rw [ebo] at this
        exact this
      have ebd : st.bd = bnames ls ++ l.qs.map (·.2) := ebo
      refine ⟨rq, rfl, ⟨_, SqL.of hrq⟩, for_list (K := K) (a := rq) (xs := ps.reverse.map V.ref) (fun i σ H' => ∃ (v' : V) (y4 y5 : Option V), σ = [some (.ref p), some (.ref a.p), some v, some v', y4, y5] ∧ RdB CR CL H0 H' p dx wl lv bd fin pr2 ⟨r2, ls, bnames ls ++ (l.qs.take (l.qs.length - i)).map (·.2)⟩ L ∧ FAt H' (wraps g0 (l.qs.reverse.take i)) v' ∧ H' rq = some (.lst (ps.reverse.map V.ref)) ∧ KeepT H3 H')
        ⟨v, none, none, rfl, by rw [Nat.sub_zero, List.take_length, ← ebd]; exact B3, hg3, hrq, KeepT.refl _⟩ (fun i σ H' _ ⟨_, _, _, _, _, _, e, _⟩ => SqL.of e) ?_ ?_⟩
      · rintro i x σ H4 hi ⟨v', y4, y5, rfl, B4, hg4, hrq4, kt⟩
        have hlt : i < l.qs.length := by
          have := (List.getElem?_eq_some_iff.mp hi).1
          rw [List.length_map, List.length_reverse] at this
          omega
        have hj : l.qs.length - 1 - i < l.qs.length := by omega
        have hjp : l.qs.length - 1 - i < ps.length := by omega
        have ex : x = .ref ps[l.qs.length - 1 - i] := by
          rw [List.getElem?_map, List.getElem?_reverse (by omega)] at hi
          have e2 : ps.length - 1 - i = l.qs.length - 1 - i := by omega
          rw [e2, List.getElem?_eq_getElem hjp] at hi
          exact (Option.some.inj hi).symm
        subst ex
        have ht := kt _ _ (q3' _ hj hjp)
        refine ⟨ps[l.qs.length - 1 - i], _, rfl, SqT.of ht, rfl, _, _, rfl, _, _, rfl, rfl, ?_⟩
        have et : l.qs.take (l.qs.length - i) = l.qs.take (l.qs.length - (i + 1)) ++ [l.qs[l.qs.length - 1 - i]] := by
          have e3 : l.qs.length - i = (l.qs.length - 1 - i) + 1 := by omega
          have e4 : l.qs.length - (i + 1) = l.qs.length - 1 - i := by omega
          rw [e3, List.take_add_one, e4, List.getElem?_eq_getElem hj]
          rfl
        have hbnd := B4.bnd
        rw [et, List.map_append, ← List.append_assoc] at hbnd
        have hin : l.qs[l.qs.length - 1 - i].2 ∈ bnames ls ++ (l.qs.take (l.qs.length - (i + 1))).map (·.2) ++ [l.qs[l.qs.length - 1 - i]].map (·.2) := List.mem_append.mpr (.inr (by simp))
        refine ⟨_, rfl, p, CR, dx, _, _, rfl, B4.o.ob, X.cl, X.nB, fR_bd, _, rfl, bd, _, Sum.inr (mkS l.qs[l.qs.length - 1 - i].2), rfl, hbnd, rfl, ?_, ?_⟩
        · rw [bdH_get, if_pos hin]
          rfl
        · rw [bdH_drop]
          have flt : (bnames ls ++ (l.qs.take (l.qs.length - (i + 1))).map (·.2) ++ [l.qs[l.qs.length - 1 - i]].map (·.2)).filter (fun y => decide (y ≠ l.qs[l.qs.length - 1 - i].2)) = bnames ls ++ (l.qs.take (l.qs.length - (i + 1))).map (·.2) := by
            have ndp : (bnames ls ++ (l.qs.take (l.qs.length - (i + 1))).map (·.2) ++ [l.qs[l.qs.length - 1 - i]].map (·.2)).Nodup := by
              have e5 : bnames ls ++ (l.qs.take (l.qs.length - (i + 1))).map (·.2) ++ [l.qs[l.qs.length - 1 - i]].map (·.2) = bnames ls ++ (l.qs.take (l.qs.length - i)).map (·.2) := by rw [et, List.map_append, List.append_assoc]
              rw [e5]
              refine List.Nodup.sublist (List.Sublist.append (List.Sublist.refl _) ((List.take_sublist _ _).map _)) ndb
            have outx : l.qs[l.qs.length - 1 - i].2 ∉ bnames ls ++ (l.qs.take (l.qs.length - (i + 1))).map (·.2) := fun m => (List.nodup_append.mp ndp).2.2 _ m _ (by simp) rfl
            rw [List.filter_append]
            have f1 : (bnames ls ++ (l.qs.take (l.qs.length - (i + 1))).map (·.2)).filter (fun y => decide (y ≠ l.qs[l.qs.length - 1 - i].2)) = bnames ls ++ (l.qs.take (l.qs.length - (i + 1))).map (·.2) := List.filter_eq_self.mpr fun y hy => decide_eq_true fun z => outx (z ▸ hy)
            rw [f1]
            simp
          rw [flt]
          have B5 := B4.setBd (bnames ls ++ (l.qs.take (l.qs.length - (i + 1))).map (·.2))
          have kt5 : KeepT H4 (upd H4 bd (bdH (bnames ls ++ (l.qs.take (l.qs.length - (i + 1))).map (·.2)))) := KeepT.upd hbnd (by intro xs z; cases z)
          have hr5 : upd H4 bd (bdH (bnames ls ++ (l.qs.take (l.qs.length - (i + 1))).map (·.2))) rq = some (.lst (ps.reverse.map V.ref)) := by rw [upd_ne nrb]; exact hrq4
          refine ⟨_, rfl, _, rfl, _, rfl, by show 3 ≤ sizeLine; decide, fun t nt => ?_⟩
          have nt' : upd H4 bd (bdH (bnames ls ++ (l.qs.take (l.qs.length - (i + 1))).map (·.2))) t = none := nt
          have sT := same_upd (o := HO.tup [.str (mkS l.qs[l.qs.length - 1 - i].1), .str (mkS l.qs[l.qs.length - 1 - i].2), v']) nt'
          have er : l.qs.reverse.take (i + 1) = l.qs.reverse.take i ++ [l.qs[l.qs.length - 1 - i]] := by
            rw [List.take_add_one, List.getElem?_reverse (by omega), List.getElem?_eq_getElem (by omega)]
            rfl
          refine ⟨.ref t, _, _, rfl, B5.kp (S := []) (Kp.of sT) (fun _ _ => List.not_mem_nil) (B5.same.trans sT), ?_, sT _ _ hr5, (kt.trans kt5).trans (KeepT.of sT)⟩
          rw [er, wraps_snoc]
          exact ⟨t, v', rfl, upd_same, FAt.keep (kt5.trans (KeepT.of sT)) _ _ hg4⟩
      · rintro σ H4 ⟨v', y4, y5, rfl, B4, hg4, hrq4, kt⟩
        have el : (ps.reverse.map V.ref).length = l.qs.length := by rw [List.length_map, List.length_reverse, q2]
        rw [el, Nat.sub_self, List.take_zero, List.map_nil, List.append_nil] at B4
        rw [el, List.take_of_length_le (by rw [List.length_reverse]; exact Nat.le_refl _)] at hg4
        have e6 : (l.qs.reverse.foldl (fun b (q : Cs × Cs) => b.filter (fun x => decide (x ≠ q.2))) st.bd) = bnames ls := by
          rw [ebd]
          exact unbind2 _ _ ndb
        rw [e6] at elf
        have fb := D.few.2
        rw [ebd, List.length_append] at fb
        exact ⟨_, rfl, q _ r2 _ elf H4 v' pr2 B4 rfl (List.nodup_append.mp ndb).1 lpr (by omega) hg4⟩
end
end Lo
namespace Lo
open PySem L2 Fx
theorem RdB.here {CR CL : Addr} {H0 H : Hp} {p dx wl lv bd : Addr} {fin : Nat} {pr : Tk} {s : Ps} {L : List LvA} (h : RdB CR CL H0 H p dx wl lv bd fin pr s L) {x : Addr} (hx : x ∈ p :: wl :: lv :: bd :: adr L) : ∃ o, H x = some o ∧ ∀ xs, o ≠ .tup xs := by
  have lvs : ∀ (L : List LvA) (ls : List Lvl), LvsAt CL H L ls → ∀ x ∈ adr L, ∃ o, H x = some o ∧ ∀ xs, o ≠ .tup xs := by
    intro L
    induction L with
    | nil => intro ls _ x hx; cases hx
    | cons a L ih =>
      intro ls h x hx
      obtain ⟨l, ls', _, h1, h2⟩ := h
      simp only [adr, List.mem_cons] at hx
      rcases hx with rfl | rfl | rfl | rfl | hx
      · exact ⟨_, h1.ob, by intro xs z; cases z⟩
      · obtain ⟨ps, e, _⟩ := h1.qs
        exact ⟨_, e, by intro xs z; cases z⟩
      · obtain ⟨ps, e, _⟩ := h1.ch
        exact ⟨_, e, by intro xs z; cases z⟩
      · obtain ⟨ps, e, _⟩ := h1.ps
        exact ⟨_, e, by intro xs z; cases z⟩
      · exact ih ls' h2 x hx
  simp only [List.mem_cons] at hx
  rcases hx with rfl | rfl | rfl | rfl | hx
  · exact ⟨_, h.o.ob, by intro xs z; cases z⟩
  · obtain ⟨ps, e, _⟩ := h.o.ws
    exact ⟨_, e, by intro xs z; cases z⟩
  · exact ⟨_, h.lvl, by intro xs z; cases z⟩
  · exact ⟨_, h.bnd, by intro xs z; cases z⟩
  · exact lvs L s.lv h.at_ x hx
/-- the level on top changes -/
theorem RdB.top {CR CL : Addr} {H0 H H1 : Hp} {p dx wl lv bd : Addr} {fin : Nat} {pr : Tk} {s : Ps} {L : List LvA} {a a' : LvA} {l l' : Lvl} {ls : List Lvl} (h : RdB CR CL H0 H p dx wl lv bd fin pr s (a :: L)) (e : s.lv = l :: ls) (k : Kp [a.p, a.s, a.c] H H1) (hl : LvlAt CL H1 a' l')
    (ep : a'.p = a.p) (eq : a'.q = a.q) (ec : a'.c = a.c) (es : a'.s = a.s ∨ H a'.s = none) (sm : Same H0 H1) : RdB CR CL H0 H1 p dx wl lv bd fin pr { s with lv := l' :: ls } (a' :: L) := by
  have sN : ∀ {x}, H a'.s = none → x ∈ p :: wl :: lv :: bd :: adr (a :: L) → a'.s ≠ x := fun {x} hn hx z => by
    obtain ⟨o, e1, _⟩ := h.here hx
    rw [← z, hn] at e1
    cases e1
  obtain ⟨nP, nW, nL, nB, nA⟩ := nd_out h.nd
  have hat := h.at_
  rw [e] at hat
  obtain ⟨l0, ls0, e0, _, hls⟩ := hat
  obtain rfl : ls = ls0 := (List.cons.inj e0).2
  simp only [adr, List.mem_cons, not_or] at nP nW nL nB
  simp only [adr, List.nodup_cons, List.mem_cons, not_or] at nA
  obtain ⟨⟨a1, a2, a3, a4⟩, ⟨a5, a6, a7⟩, ⟨a8, a9⟩, a10, a11⟩ := nA
  have out : ∀ {x}, x ≠ a.p → x ≠ a.s → x ≠ a.c → x ∉ [a.p, a.s, a.c] := fun h1 h2 h3 z => by
    simp only [List.mem_cons, List.not_mem_nil, or_false] at z
    rcases z with z | z | z
    · exact h1 z
    · exact h2 z
    · exact h3 z
  obtain ⟨ps, w1, w2, w3⟩ := h.o.ws
  have sne : ∀ {x}, x ≠ a.s → x ∈ p :: wl :: lv :: bd :: adr (a :: L) → x ≠ a'.s := fun {x} hx hm z => by
    rcases es with e1 | e1
    · exact hx (z.trans e1)
    · exact sN e1 hm z.symm
  refine ⟨⟨k.k _ _ h.o.ob (out nP.2.2.2.1 nP.2.2.2.2.2.2.1 nP.2.2.2.2.2.1), ⟨ps, k.k _ _ w1 (out nW.2.2.1 nW.2.2.2.2.2.1 nW.2.2.2.2.1), w2, fun i q t x y => k.t _ _ (w3 i q t x y)⟩, h.o.ok, h.o.few⟩,
    ?_, k.k _ _ h.bnd (out nB.1 nB.2.2.2.1 nB.2.2.1), ⟨l', ls, rfl, hl, hls.kp k _ _ fun x hx => out (fun z => a4 (z ▸ hx)) (fun z => a10 (z ▸ hx)) (fun z => a9 (z ▸ hx))⟩, ?_, fun x hx => ?_, sm⟩
  · rw [List.map_cons, ep]
    have := k.k _ _ h.lvl (out nL.2.1 nL.2.2.2.2.1 nL.2.2.2.1)
    rw [List.map_cons] at this
    exact this
  · simp only [adr, List.nodup_cons, List.mem_cons, not_or, ep, eq, ec]
    exact ⟨⟨nP.1, nP.2.1, nP.2.2.1, nP.2.2.2.1, nP.2.2.2.2.1, nP.2.2.2.2.2.1, sne nP.2.2.2.2.2.2.1 (by simp), nP.2.2.2.2.2.2.2⟩, ⟨nW.1, nW.2.1, nW.2.2.1, nW.2.2.2.1, nW.2.2.2.2.1, sne nW.2.2.2.2.2.1 (by simp), nW.2.2.2.2.2.2⟩,
      ⟨nL.1, nL.2.1, nL.2.2.1, nL.2.2.2.1, sne nL.2.2.2.2.1 (by simp), nL.2.2.2.2.2⟩, ⟨nB.1, nB.2.1, nB.2.2.1, sne nB.2.2.2.1 (by simp), nB.2.2.2.2⟩, ⟨a1, a2, sne a3 (by simp [adr]), a4⟩, ⟨a5, sne a6 (by simp [adr]), a7⟩, ⟨sne a8 (by simp [adr]), a9⟩,
      fun z => (es.elim (fun e1 => a10 (e1 ▸ z)) fun e1 => sN e1 (by simp [adr, z]) rfl), a11⟩
  · simp only [adr, List.mem_cons, ep, eq, ec] at hx
    rcases hx with rfl | rfl | rfl | rfl | rfl | rfl | rfl | rfl | hx
    · exact h.free _ (by simp)
    · exact h.free _ (by simp)
    · exact h.free _ (by simp)
    · exact h.free _ (by simp)
    · exact h.free _ (by simp [adr])
    · exact h.free _ (by simp [adr])
    · exact h.free _ (by simp [adr])
    · rcases es with e1 | e1
      · rw [e1]
        exact h.free _ (by simp [adr])
      · exact h.same.free e1
    · exact h.free _ (by simp [adr, hx])
theorem neg_negs : ∀ (n : Nat) (f : Fm), Fm.neg (negs n f) = negs (n + 1) f
  | 0, f => rfl
  | n + 1, f => neg_negs n (.neg f)
section
variable {P : Program} {w : World} {K : PySem.W.Frag} {mg : Str → Option Value} {base : Heap}
/-! ### closed -/
def spClosed (CR CL CB : Addr) : Sp := fun vs H Q E => ∃ (p dx wl lv bd : Addr) (fin : Nat) (pr : Tk) (s : Ps) (L : List LvA) (f : Fm) (v : V) (H0 : Hp),
  vs = [.ref p, v] ∧ RdS CR CL H0 H p dx wl lv bd fin pr s L ∧ wt s.lv + 2 ≤ pr.length + 1 ∧ s.lv ≠ [] ∧ FAt H f v ∧
  (∀ s3, closedF fin s.lv s.r s.bd f = .ok (.inl s3) → ∀ H' L' pr', RdS CR CL H0 H' p dx wl lv bd fin pr' s3 L' → Q .non H') ∧
  (∀ g, closedF fin s.lv s.r s.bd f = .ok (.inr g) → ∀ H' v', Same H0 H' → FAt H' g v' → Q v' H') ∧
  (∀ c, closedF fin s.lv s.r s.bd f = .error c → ∀ H' d, Same H0 H' → H0 d = none → H' d = some (.xd (btF c)) → E (.ref CB) (some d) H')
abbrev nClosed : List Str := ["self", "formula", "found", "level", "_"]
theorem scClosed : FnScope nClosed ["self", "formula"] (defScope sClosed) := ⟨rfl, rfl, rfl, by decide +kernel, rfl, by decide +kernel, by decide +kernel⟩
theorem mk_and : ("and" : Str) = mkS wAnd := by decide +kernel
theorem mk_or : ("or" : Str) = mkS wOr := by decide +kernel
theorem mk_not : ("not" : Str) = mkS wNot := by decide +kernel
theorem fat_ref {H : Hp} : ∀ {f : Fm} {v : V}, FAt H f v → ∃ q, v = .ref q
  | .cmp .., _, ⟨p, _, _, e, _⟩ => ⟨p, e⟩
  | .neg _, _, ⟨p, _, e, _⟩ => ⟨p, e⟩
  | .row .., _, ⟨p, _, _, e, _⟩ => ⟨p, e⟩
  | .qu .., _, ⟨p, _, e, _⟩ => ⟨p, e⟩
theorem ok_closed {f fT fW fR fF CR CL CB fLI : Addr} {fd fdT fdW fdR fdF : FuncData} (F : Fun K "closed" "FormulaReader.closed" sClosed f fd) (T : Blt mg) (X : RCls K CR) (Y : LCls K mg CL fLI)
    (GT : FnOk P w K mg base (L2.CX P w) 4 fT fdT ["self", "fits"] (spTaken CR CB)) (bT : Binds K fdT ["self", "fits"] []) (mT : Meth K CR "taken" fT)
    (GW : FnOk P w K mg base CX0 1 fW fdW ["self"] (spWord CR)) (bW : Binds K fdW ["self"] []) (mW : Meth K CR "word" fW)
    (GR : FnOk P w K mg base CX0 1 fR fdR ["word", "parts"] spRow) (kR : PySem.W.keepIn K (.ref fR) = true) (bR : Binds K fdR ["word", "parts"] []) (gR : mg "_row" = some (.ref fR))
    (GF : FnOk P w K mg base (L2.CX P w) 5 fF fdF ["self", "level", "formula"] (spLeft CR CL CB)) (bF : Binds K fdF ["self", "level", "formula"] []) (mF : Meth K CR "left" fF) : FnOk P w K mg base (L2.CX P w) 6 f fd ["self", "formula"] (spClosed CR CL CB) := by
  refine F.okX scClosed (fun vs H Q E h => ?_) (fun cdv A outer s H vs Q E hr h => ?_)
  · obtain ⟨p, _, _, _, _, _, _, _, _, _, _, _, rfl, _⟩ := h
    rfl
  · obtain ⟨p, dx, wl, lv, bd, fin, pr, st, L, f0, v0, H0, rfl, D, hwt, hne, hf, qi, qd, qx⟩ := h
    have nd := scClosed.nd
    have r1 := hr.mono (show 1 ≤ 5 by decide)
    refine ⟨_, pss_cons (ps_set (i := 2) nd rfl (.inl rfl) (pv 1))
      (pss_one (ps_while (passes_of rfl) (pt_val pe_bl)
        (pss_cons (ps_set (i := 3) nd rfl (.inl rfl) (pe_ix ix_list (pe_fld (pv 0) rfl) (pe_un un_neg pe_int) (fun _ _ => rfl)))
        (C8.pss_cut (ps_for (passes_of rfl) rfl (pi_range1 (by rfl) T.range (pa_cons (pe_fld (pv 3) rfl) pa_nil)) (pg_name (i := 4) nd rfl (.inl rfl)) (pss_one (ps_set (i := 2) nd rfl (.inl rfl) (pe_tup (pa_cons pe_str (pa_cons (pv 2) pa_nil))))))
        (pss_cons (ps_fld (pv 3) pe_int rfl)
        (C8.pss_cut (ps_expr (pe_bm PySem.F.plainAttrs_list PySem.F.slot_list_append PySem.F.type_list_append mt_append (pe_fld (pv 3) rfl) (pa_cons (pv 2) pa_nil)))
        (pss_cons (ps_if (pt_cmpR op_in_seq (pe_meth0 (pv 0) X.cl mW GW r1 bW .nil pass0) (pe_tup (pa_cons pe_str (pa_cons pe_str pa_nil))) (by rfl))
            (pss_cons (ps_if (pt_cmpR op_eq (pe_meth (pv 0) X.cl mT GT (hr.mono (by decide)) bT .nil (passes_call (takes_of rfl rfl rfl rfl) fun _ _ _ _ h => h) (pa_cons pe_bl pa_nil)) pe_str (nomark _))
                (pss_cons (ps_expr (pe_bm PySem.F.plainAttrs_list PySem.F.slot_list_append PySem.F.type_list_append mt_append (pe_fld (pv 3) rfl) (pa_cons (pe_call GR r1 (by rfl) gR kR bR .nil pass0 (pa_cons pe_str (pa_cons (pe_fld (pv 3) rfl) pa_nil))) pa_nil)))
                (pss_one (ps_fld (pv 3) (pe_lst pa_nil) rfl))) pss_nil)
            (pss_one (ps_ret pe_non))) pss_nil)
        (pss_cons (ps_expr (pe_bm PySem.F.plainAttrs_list PySem.F.slot_list_append PySem.F.type_list_append mt_append (pe_fld (pv 3) rfl) (pa_cons (pe_call GR r1 (by rfl) gR kR bR .nil pass0 (pa_cons pe_str (pa_cons (pe_fld (pv 3) rfl) pa_nil))) pa_nil)))
        (pss_cons (ps_set (i := 2) nd rfl (.inl rfl) (pe_meth (pv 0) X.cl mF GF hr bF .nil (passes_call (takes_of rfl rfl rfl rfl) fun _ _ _ _ h => h) (pa_cons (pv 3) (pa_cons (pe_call GR r1 (by rfl) gR kR bR .nil pass0 (pa_cons pe_str (pa_cons (pe_fld (pv 3) rfl) pa_nil))) pa_nil))))
        (pss_one (ps_if (pt_not (pt_truth (pe_fld (pv 0) rfl) (by intro _; rfl))) (pss_one (ps_ret (pv 2))) pss_nil))))))))))), ?_⟩
    refine ⟨_, rfl, fun m σ H' => ∃ (s' : Ps) (L' : List LvA) (f' : Fm) (v' : V) (pr' : Tk) (y3 y4 : Option V), m = s'.lv.length ∧ σ = [some (.ref p), some v0, some v', y3, y4] ∧ RdS CR CL H0 H' p dx wl lv bd fin pr' s' L' ∧ wt s'.lv + 2 ≤ pr'.length + 1 ∧ s'.lv ≠ [] ∧ FAt H' f' v' ∧ closedF fin s'.lv s'.r s'.bd f' = closedF fin st.lv st.r st.bd f0,
      ⟨_, st, L, f0, v0, pr, none, none, rfl, rfl, D, hwt, hne, hf, rfl⟩, ?_⟩
    generalize closedF fin st.lv st.r st.bd f0 = RES at qi qd qx
    clear D hwt hne hf
    rintro m σ H1 ⟨s1, L1, f1, v1, pr1, y3, y4, rfl, rfl, D, hwt, hne, hf, hres⟩
    obtain ⟨l, ls, elv⟩ : ∃ l ls, s1.lv = l :: ls := by
      cases e : s1.lv with
      | nil => exact absurd e hne
      | cons l ls => exact ⟨l, ls, rfl⟩
    have B := D.b
    have hat := B.at_
    rw [elv] at hat
    obtain ⟨a, L2, rfl⟩ : ∃ a L2, L1 = a :: L2 := by
      cases L1 with
      | nil => cases hat
      | cons a L2 => exact ⟨a, L2, rfl⟩
    have hat' := hat
    obtain ⟨l', ls', e, hl, hls⟩ := hat'
    obtain ⟨rfl, rfl⟩ : l = l' ∧ ls = ls' := by
      have := List.cons.inj e
      exact ⟨this.1, this.2⟩
    clear e hat
    have hlv : H1 lv = some (.lst ((L2.map fun a => V.ref a.p).reverse ++ [V.ref a.p])) := by
      have := B.lvl
      rw [List.map_cons, List.reverse_cons] at this
      exact this
    rw [elv] at hwt hres
    have hwt' : (1 + l.qs.length + l.ch.length + l.ps.length + l.dn) + wt ls + 2 ≤ pr1.length + 1 := hwt
    have hpr : pr1.length ≤ 1000000 := by
      have := B.o.few
      rw [List.length_append] at this
      omega
    refine ⟨true, rfl, iteT ⟨fun σ' H' => ∃ m', m' < s1.lv.length ∧ ∃ (s' : Ps) (L' : List LvA) (f' : Fm) (v' : V) (pr' : Tk) (y3 y4 : Option V), m' = s'.lv.length ∧ σ' = [some (.ref p), some v0, some v', y3, y4] ∧ RdS CR CL H0 H' p dx wl lv bd fin pr' s' L' ∧ wt s'.lv + 2 ≤ pr'.length + 1 ∧ s'.lv ≠ [] ∧ FAt H' f' v' ∧ closedF fin s'.lv s'.r s'.bd f' = RES, fun _ _ h => h, ?_⟩⟩
    refine ⟨_, rfl, p, CR, dx, _, _, rfl, B.o.ob, X.cl, X.nL, fR_lev, 1, rfl, lv, _, -1, .ref a.p, rfl, rfl, SqL.of hlv, atI_last _ _, ?_⟩
    -- the denials
    refine ⟨fun σ' H' => ∃ (v' : V) (y4 : Option V), σ' = [some (.ref p), some v0, some v', some (.ref a.p), y4] ∧ Same H1 H' ∧ FAt H' (negs l.dn f1) v', ?_, ?_⟩
    · refine ⟨_, rfl, a.p, CL, a.dx, _, _, rfl, hl.ob, Y.cl, Y.nD, fL_d, (l.dn : Nat), rfl, by omega, by omega, ?_⟩
      refine for_range (lo := 0) (n := l.dn) (fun i σ H' => ∃ (v' : V) (y4 : Option V), σ = [some (.ref p), some v0, some v', some (.ref a.p), y4] ∧ Same H1 H' ∧ FAt H' (negs i f1) v') ⟨v1, y4, rfl, Same.refl _, hf⟩ ?_ ?_
      · rintro i σ H2 hi ⟨v', y4, rfl, sm, hv⟩
        refine ⟨_, rfl, by show 2 ≤ sizeLine; decide, fun t nt => ?_⟩
        have sT := same_upd (o := HO.tup [.str ("not" : Str), v']) nt
        refine ⟨.ref t, _, rfl, sm.trans sT, ?_⟩
        rw [← neg_negs]
        exact ⟨t, v', rfl, upd_same, FAt.keep (KeepT.of sT) _ _ hv⟩
      · rintro σ H2 ⟨v', y4, rfl, sm, hv⟩
        exact ⟨v', y4, rfl, sm, hv⟩
    rintro σ2 H2 ⟨v2, y4', rfl, sm2, hv2⟩
    have B2 : RdB CR CL H0 H2 p dx wl lv bd fin pr1 s1 (a :: L2) := B.kp (S := []) (Kp.of sm2) (fun _ _ => List.not_mem_nil) (B.same.trans sm2)
    have hl2 := hl.kp (S := []) (Kp.of sm2) ⟨List.not_mem_nil, List.not_mem_nil, List.not_mem_nil, List.not_mem_nil⟩
    obtain ⟨nP, nW, nL, nB, nA⟩ := nd_out B2.nd
    simp only [adr, List.nodup_cons, List.mem_cons, not_or] at nA
    obtain ⟨⟨a1, a2, a3, a4⟩, ⟨a5, a6, a7⟩, ⟨a8, a9⟩, a10, a11⟩ := nA
    -- level.denials = 0
    refine ⟨_, rfl, a.p, CL, a.dx, _, rfl, hl2.ob, Y.cl, Y.nD, by show 5 < 1000; decide, ?_⟩
    have e0 : putF "denials" (V.int 0) (fL a.q l.closes a.c a.s l.dn) = fL a.q l.closes a.c a.s 0 := fL_putd 0
    rw [e0]
    obtain ⟨us, u1, u2⟩ := hl2.ps
    have k3 : Kp [a.p] H2 (upd H2 a.p (.ins CL a.dx (fL a.q l.closes a.c a.s 0))) := Kp.upd hl2.ob (by intro xs z; cases z)
    have hp3 : upd H2 a.p (.ins CL a.dx (fL a.q l.closes a.c a.s 0)) a.p = some (.ins CL a.dx (fL a.q l.closes a.c a.s 0)) := upd_same
    have sm3 : Same H0 (upd H2 a.p (.ins CL a.dx (fL a.q l.closes a.c a.s 0))) := B2.same.later (B2.free a.p (by simp [adr]))
    generalize upd H2 a.p (.ins CL a.dx (fL a.q l.closes a.c a.s 0)) = H3 at k3 hp3 sm3 ⊢
    have one : ∀ {x y : Addr}, x ≠ y → x ∉ [y] := fun h z => h (List.mem_singleton.mp z)
    have hs3 := k3.k _ _ u1 (one (Ne.symm a3))
    have lus := FAts.len _ _ u2
    -- level.parts.append(found)
    refine ⟨fun σ' H' => σ' = [some (.ref p), some v0, some v2, some (.ref a.p), y4'] ∧ RdB CR CL H0 H' p dx wl lv bd fin pr1 { s1 with lv := { l with dn := 0, ps := l.ps ++ [negs l.dn f1] } :: ls } (a :: L2) ∧ LvlAt CL H' a { l with dn := 0, ps := l.ps ++ [negs l.dn f1] }, ?_, ?_⟩
    · refine ⟨_, rfl, a.p, CL, a.dx, _, _, rfl, hp3, Y.cl, Y.nP, fL_s, .inl ⟨rfl, _, SqL.of hs3⟩, _, rfl, a.s, us, _, rfl, rfl, hs3, ?_, ?_⟩
      · exact Nat.lt_of_le_of_lt (show us.length ≤ 1000000 by omega) (by decide)
      · have k4 : Kp [a.s] H3 (upd H3 a.s (.lst (us ++ [v2]))) := Kp.upd hs3 (by intro xs z; cases z)
        have k34 : Kp [a.p, a.s, a.c] H2 (upd H3 a.s (.lst (us ++ [v2]))) := (k3.weak (by intro x hx; simp at hx; simp [hx])).trans (k4.weak (by intro x hx; simp at hx; simp [hx]))
        have sm4 : Same H0 (upd H3 a.s (.lst (us ++ [v2]))) := sm3.later (B2.free a.s (by simp [adr]))
        obtain ⟨vs, c1, c2⟩ := hl2.ch
        have lv4 : LvlAt CL (upd H3 a.s (.lst (us ++ [v2]))) a { l with dn := 0, ps := l.ps ++ [negs l.dn f1] } :=
          ⟨k4.k _ _ hp3 (one a3), (hl2.qs.kp k3 (one (Ne.symm a1))).kp k4 (one a6), ⟨vs, k4.k _ _ (k3.k _ _ c1 (one (Ne.symm a2))) (one a8), FAts.keep (k3.t.trans k4.t) _ _ c2⟩,
            us ++ [v2], upd_same, FAts.snoc (FAt.keep (k3.t.trans k4.t) _ _ hv2) _ _ (FAts.keep (k3.t.trans k4.t) _ _ u2)⟩
        exact ⟨rfl, B2.top elv k34 lv4 rfl rfl rfl (.inl rfl) sm4, lv4⟩
    rintro σ5 H5 ⟨rfl, B5, hl5⟩
    have hclose : closedF fin (l :: ls) s1.r s1.bd f1 = RES := hres
    -- self.word() in ('and', 'or')
    refine ⟨_, rfl, p, dx, _, rfl, B5.o.ob, no_m (by decide +kernel), p, dx, wl, lv, bd, fin, pr1, s1.r, rfl, B5.o, by show 2 ≤ sizeLine; decide, fun t nt => ?_⟩
    rw [mk_and, mk_or] at *
    have sT := same_upd (o := HO.tup [.str (mkS wAnd), .str (mkS wOr)]) nt
    refine ⟨t, [.str (mkS wAnd), .str (mkS wOr)], rfl, .inr (SqT.of upd_same), rfl, rfl, ?_⟩
    have ein : inV (.str (mkS (wd s1.r))) [.str (mkS wAnd), .str (mkS wOr)] = decide (wd s1.r ∈ [wAnd, wOr]) := inV_mk _ [wAnd, wOr]
    rw [if_neg Bool.false_ne_true, ein]
    have B6 : RdB CR CL H0 (upd H5 t (.tup [.str (mkS wAnd), .str (mkS wOr)])) p dx wl lv bd fin pr1 { s1 with lv := { l with dn := 0, ps := l.ps ++ [negs l.dn f1] } :: ls } (a :: L2) := B5.kp (S := []) (Kp.of sT) (fun _ _ => List.not_mem_nil) (B5.same.trans sT)
    have hl6 := hl5.kp (S := []) (Kp.of sT) ⟨List.not_mem_nil, List.not_mem_nil, List.not_mem_nil, List.not_mem_nil⟩
    generalize upd H5 t (.tup [.str (mkS wAnd), .str (mkS wOr)]) = H6 at B6 hl6 ⊢
    have g1def : ∀ H' v', FAt H' (rowF wAnd (l.ps ++ [negs l.dn f1])) v' → FAt H' (rowF wAnd (l.ps ++ [negs l.dn f1])) v' := fun _ _ h => h
    have lps : (l.ps ++ [negs l.dn f1]).length ≤ 1000000 := by rw [List.length_append, List.length_singleton]; omega
    have nep : l.ps ++ [negs l.dn f1] ≠ [] := by simp
    by_cases hin : wd s1.r ∈ [wAnd, wOr]
    · rw [decide_eq_true hin]
      obtain ⟨t1, r2, er⟩ : ∃ t1 r2, s1.r = t1 :: r2 := by
        cases e : s1.r with
        | nil => rw [e] at hin; simp [wd] at hin
        | cons t1 r2 => exact ⟨t1, r2, rfl⟩
      refine ⟨_, rfl, ?_⟩
      refine iteT ⟨_, rfl, p, dx, _, rfl, B6.o.ob, no_m (by decide +kernel), p, dx, wl, lv, bd, fin, pr1, s1.r, true, H0, rfl, B6.o, B6.same, fun _ => ⟨t1, r2, er, fun H7 kx D7 => ?_⟩, (fun hb => nomatch hb)⟩
      have B7 : RdB CR CL H0 H7 p dx wl lv bd fin (pr1 ++ [t1]) ⟨r2, { l with dn := 0, ps := l.ps ++ [negs l.dn f1] } :: ls, s1.bd⟩ (a :: L2) := B6.move kx D7
      obtain ⟨mP, mW, mL, mB, mA⟩ := nd_out B7.nd
      simp only [adr, List.mem_cons, not_or] at mP
      have hl7 : LvlAt CL H7 a { l with dn := 0, ps := l.ps ++ [negs l.dn f1] } := hl6.kp (kx.kp B6.o.ob) ⟨one (Ne.symm mP.2.2.2.1), one (Ne.symm mP.2.2.2.2.1), one (Ne.symm mP.2.2.2.2.2.1), one (Ne.symm mP.2.2.2.2.2.2.1)⟩
      have ew : wd s1.r = t1.w := by rw [er]; rfl
      have etl : s1.r.tail = r2 := by rw [er]; rfl
      refine ⟨rfl, _, rfl, ?_⟩
      rw [dec_mk]
      by_cases hor : t1.w = wOr
      · rw [decide_eq_true hor]
        obtain ⟨us7, u1, u2⟩ := hl7.ps
        obtain ⟨vs7, c1, c2⟩ := hl7.ch
        have lus7 := FAts.len _ _ u2
        have lvs7 := FAts.len _ _ c2
        refine iteT ⟨_, rfl, a.p, CL, a.dx, _, _, rfl, hl7.ob, Y.cl, Y.nH, fL_c, .inl ⟨rfl, _, SqL.of c1⟩, ?_⟩
        refine ⟨_, rfl, a.p, CL, a.dx, _, _, rfl, hl7.ob, Y.cl, Y.nP, fL_s, a.s, wAnd, _, us7, rfl, u1, u2, nep, by rw [lus7]; exact lps, fun H8 v8 s8 hv8 => ?_⟩
        have c8 := s8 _ _ c1
        refine ⟨a.c, vs7, _, rfl, rfl, c8, ?_, ?_⟩
        · exact Nat.lt_of_le_of_lt (show vs7.length ≤ 1000000 by dsimp only at lvs7; omega) (by decide)
        have k9 : Kp [a.c] H8 (upd H8 a.c (.lst (vs7 ++ [v8]))) := Kp.upd c8 (by intro xs z; cases z)
        have hc9 : upd H8 a.c (.lst (vs7 ++ [v8])) a.c = some (.lst (vs7 ++ [v8])) := upd_same
        have sm9 : Same H0 (upd H8 a.c (.lst (vs7 ++ [v8]))) := (B7.same.trans s8).later (B7.free a.c (by simp [adr]))
        generalize upd H8 a.c (.lst (vs7 ++ [v8])) = H9 at k9 hc9 sm9 ⊢
        refine ⟨Nat.zero_le _, fun s' ns' => ?_⟩
        have sE := same_upd (o := HO.lst []) ns'
        have k79 : Kp [a.c] H7 (upd H9 s' (.lst [])) := ((Kp.of s8).trans k9).trans (Kp.of sE)
        have hob := k79.k _ _ hl7.ob (one a2)
        refine ⟨_, rfl, a.p, CL, a.dx, _, rfl, hob, Y.cl, Y.nP, by show 5 < 1000; decide, ?_⟩
        rw [fL_puts]
        have ns9 : H9 s' = none := ns'
        have ns7 : H7 s' = none := by
          cases e : H7 s' with
          | none => rfl
          | some o =>
            by_cases z : s' = a.c
            · rw [z, hc9] at ns9
              cases ns9
            · rw [k9.k _ _ (s8 _ _ e) (one z)] at ns9
              cases ns9
        have nsp : s' ≠ a.p := fun z => by
          rw [z, hl7.ob] at ns7
          cases ns7
        have nsc : s' ≠ a.c := fun z => by
          rw [z, c1] at ns7
          cases ns7
        have nsq : s' ≠ a.q := fun z => by
          obtain ⟨ps, e, _⟩ := hl7.qs
          rw [z, e] at ns7
          cases ns7
        have k10 : Kp [a.p] (upd H9 s' (.lst [])) (upd (upd H9 s' (.lst [])) a.p (.ins CL a.dx (fL a.q l.closes a.c s' 0))) := Kp.upd hob (by intro xs z; cases z)
        have kall : Kp [a.p, a.s, a.c] H7 (upd (upd H9 s' (.lst [])) a.p (.ins CL a.dx (fL a.q l.closes a.c s' 0))) := (k79.weak (by intro x hx; simp at hx; simp [hx])).trans (k10.weak (by intro x hx; simp at hx; simp [hx]))
        have sm10 : Same H0 (upd (upd H9 s' (.lst [])) a.p (.ins CL a.dx (fL a.q l.closes a.c s' 0))) := (sm9.trans sE).later (B7.free a.p (by simp [adr]))
        have lv10 : LvlAt CL (upd (upd H9 s' (.lst [])) a.p (.ins CL a.dx (fL a.q l.closes a.c s' 0))) { a with s := s' } { l with dn := 0, ps := [], ch := l.ch ++ [rowF wAnd (l.ps ++ [negs l.dn f1])] } := by
          refine ⟨upd_same, ((hl7.qs.kp k79 (one a5)).kp k10 (one (Ne.symm a1))), ⟨vs7 ++ [v8], ?_, ?_⟩, [], ?_, rfl⟩
          · rw [upd_ne (Ne.symm a2), upd_ne (Ne.symm nsc)]
            exact hc9
          · exact FAts.snoc (FAt.keep ((k9.t.trans (KeepT.of sE)).trans k10.t) _ _ hv8) _ _ (FAts.keep (k79.t.trans k10.t) _ _ c2)
          · rw [upd_ne nsp, upd_same]
        have B10 := B7.top rfl kall lv10 rfl rfl rfl (.inr ns7) sm10
        refine qi ⟨r2, { l with dn := 0, ps := [], ch := l.ch ++ [rowF wAnd (l.ps ++ [negs l.dn f1])] } :: ls, s1.bd⟩ ?_ _ _ _ ⟨B10, ?_, ?_⟩
        · rw [← hclose]
          show (if wd s1.r = wAnd then _ else if wd s1.r = wOr then _ else _) = _
          rw [if_neg (by rw [ew, hor]; decide), if_pos (by rw [ew, hor]), etl]
        · have := D.bo
          rw [elv] at this
          exact this
        · have f2 := D.few.2
          refine ⟨?_, by rw [List.length_append]; exact Nat.le_trans f2 (Nat.le_add_right _ _)⟩
          show (1 + l.qs.length + (l.ch ++ [rowF wAnd (l.ps ++ [negs l.dn f1])]).length + 0 + 0) + wt ls ≤ _
          rw [List.length_append, List.length_append, List.length_singleton, List.length_singleton]
          omega
      · rw [decide_eq_false hor]
        have hand : t1.w = wAnd := by
          rw [ew] at hin
          simp only [List.mem_cons, List.not_mem_nil, or_false] at hin
          exact hin.resolve_right hor
        refine iteF ?_
        refine qi ⟨r2, { l with dn := 0, ps := l.ps ++ [negs l.dn f1] } :: ls, s1.bd⟩ ?_ _ _ _ ⟨B7, ?_, ?_⟩
        · rw [← hclose]
          show (if wd s1.r = wAnd then _ else _) = _
          rw [if_pos (by rw [ew, hand]), etl]
        · have := D.bo
          rw [elv] at this
          exact this
        · have f2 := D.few.2
          refine ⟨?_, by rw [List.length_append]; exact Nat.le_trans f2 (Nat.le_add_right _ _)⟩
          show (1 + l.qs.length + l.ch.length + (l.ps ++ [negs l.dn f1]).length + 0) + wt ls ≤ _
          rw [List.length_append, List.length_append, List.length_singleton, List.length_singleton]
          omega
    · rw [decide_eq_false hin]
      have nao : wd s1.r ≠ wAnd ∧ wd s1.r ≠ wOr := by
        simp only [List.mem_cons, List.not_mem_nil, or_false, not_or] at hin
        exact hin
      refine ⟨_, rfl, ?_⟩
      refine iteF ?_
      obtain ⟨us6, u1, u2⟩ := hl6.ps
      obtain ⟨vs6, c1, c2⟩ := hl6.ch
      have lus6 := FAts.len _ _ u2
      have lvs6 := FAts.len _ _ c2
      refine ⟨_, rfl, a.p, CL, a.dx, _, _, rfl, hl6.ob, Y.cl, Y.nH, fL_c, .inl ⟨rfl, _, SqL.of c1⟩, ?_⟩
      refine ⟨_, rfl, a.p, CL, a.dx, _, _, rfl, hl6.ob, Y.cl, Y.nP, fL_s, a.s, wAnd, _, us6, rfl, u1, u2, nep, by rw [lus6]; exact lps, fun H8 v8 s8 hv8 => ?_⟩
      have c8 := s8 _ _ c1
      refine ⟨a.c, vs6, _, rfl, rfl, c8, ?_, ?_⟩
      · exact Nat.lt_of_le_of_lt (show vs6.length ≤ 1000000 by dsimp only at lvs6; omega) (by decide)
      have k9 : Kp [a.c] H8 (upd H8 a.c (.lst (vs6 ++ [v8]))) := Kp.upd c8 (by intro xs z; cases z)
      have hc9 : upd H8 a.c (.lst (vs6 ++ [v8])) a.c = some (.lst (vs6 ++ [v8])) := upd_same
      have sm9 : Same H0 (upd H8 a.c (.lst (vs6 ++ [v8]))) := (B6.same.trans s8).later (B6.free a.c (by simp [adr]))
      generalize upd H8 a.c (.lst (vs6 ++ [v8])) = H9 at k9 hc9 sm9 ⊢
      have k69 : Kp [a.c] H6 H9 := (Kp.of s8).trans k9
      have lv9 : LvlAt CL H9 a { l with dn := 0, ps := l.ps ++ [negs l.dn f1], ch := l.ch ++ [rowF wAnd (l.ps ++ [negs l.dn f1])] } :=
        ⟨k69.k _ _ hl6.ob (one a2), hl6.qs.kp k69 (one a5), ⟨vs6 ++ [v8], hc9, FAts.snoc (FAt.keep k9.t _ _ hv8) _ _ (FAts.keep k69.t _ _ c2)⟩, us6, k69.k _ _ u1 (one (Ne.symm a8)), FAts.keep k69.t _ _ u2⟩
      have B9 := B6.top rfl (k69.weak (by intro x hx; simp at hx; simp [hx])) lv9 rfl rfl rfl (.inl rfl) sm9
      -- found = self.left(level, _row('or', level.choices))
      refine ⟨_, rfl, p, dx, _, rfl, B9.o.ob, no_m (by decide +kernel), _, rfl, ?_⟩
      refine ⟨_, rfl, a.p, CL, a.dx, _, _, rfl, lv9.ob, Y.cl, Y.nH, fL_c, a.c, wOr, _, vs6 ++ [v8], rfl, hc9, FAts.snoc (FAt.keep k9.t _ _ hv8) _ _ (FAts.keep k69.t _ _ c2), by simp, by rw [List.length_append, List.length_singleton]; dsimp only at lvs6; omega, fun H10 v10 s10 hv10 => ?_⟩
      have B10 := B9.kp (S := []) (Kp.of s10) (fun _ _ => List.not_mem_nil) (B9.same.trans s10)
      have hl' : leave fin l.qs l.closes ls s1.r s1.bd (rowF wOr (l.ch ++ [rowF wAnd (l.ps ++ [negs l.dn f1])])) = RES := by
        rw [← hclose, closed_leave _ _ _ _ _ _ nao]
      rw [leave_lf] at hl'
      refine ⟨p, dx, wl, lv, bd, fin, pr1, _, L2, a, _, ls, _, v10, H0, rfl, ⟨B10, ?_, ?_⟩, rfl, hv10, fun g r2 bd2 hlf H11 v11 pr2 B11 eb ndb lpr lbd hv11 => ?_, fun c hc H' d s' nd' hx => ?_⟩
      · have := D.bo
        rw [elv] at this
        exact this
      · have f2 := D.few.2
        refine ⟨?_, f2⟩
        show (1 + l.qs.length + (l.ch ++ [rowF wAnd (l.ps ++ [negs l.dn f1])]).length + (l.ps ++ [negs l.dn f1]).length + 0) + wt ls ≤ _
        rw [List.length_append, List.length_append, List.length_singleton, List.length_singleton]
        omega
      · have hlf' : lf fin l.qs l.closes ls s1.r s1.bd (rowF wOr (l.ch ++ [rowF wAnd (l.ps ++ [negs l.dn f1])])) = .ok (g, r2, bd2) := hlf
        rw [hlf'] at hl'
        dsimp only at hl'
        have lenL := hls.len
        refine ⟨_, rfl, p, CR, dx, _, _, rfl, B11.o.ob, X.cl, X.nL, fR_lev, !((L2.map fun a => V.ref a.p).reverse).isEmpty, .inl ⟨_, SqL.of B11.lvl, rfl⟩, ?_⟩
        by_cases hz : ls = []
        · rw [if_pos hz] at hl'
          have eL : L2 = [] := List.length_eq_zero_iff.mp (by rw [lenL, hz]; rfl)
          have emp : (!((L2.map fun a => V.ref a.p).reverse).isEmpty) = false := by rw [eL]; rfl
          rw [emp]
          exact iteT ⟨_, rfl, qd g hl'.symm H11 v11 B11.same hv11⟩
        · rw [if_neg hz] at hl'
          have emp : (!((L2.map fun a => V.ref a.p).reverse).isEmpty) = true := by
            cases L2 with
            | nil => exact absurd (List.length_eq_zero_iff.mp lenL.symm) hz
            | cons x L => simp
          rw [emp]
          refine iteF ⟨ls.length, by rw [elv]; exact Nat.lt_succ_self _, ⟨r2, ls, bd2⟩, L2, g, v11, pr2, _, _, rfl, rfl, ⟨B11, ⟨eb, ndb⟩, by dsimp only; omega, lbd⟩, by dsimp only; omega, hz, hv11, hl'⟩
      · have hc' : lf fin l.qs l.closes ls s1.r s1.bd (rowF wOr (l.ch ++ [rowF wAnd (l.ps ++ [negs l.dn f1])])) = .error c := hc
        rw [hc'] at hl'
        exact qx c hl'.symm H' d s' nd' hx
end
end Lo
namespace Lo
open PySem L2 Fx
theorem or_val {t u : TT} {σ : L2.St} {H : Hp} {b1 b2 : Bool} {Q : Bool → Hp → Prop} (ht : ∀ Q : Bool → Hp → Prop, Q b1 H → t σ H Q) (hu : ∀ Q : Bool → Hp → Prop, Q b2 H → u σ H Q) (h : Q (b1 || b2) H) : tOr t u σ H Q := ht _ (by
  cases b1 with
  | true => exact iteT h
  | false => exact iteF (hu _ h))
theorem mk_colon : (":" : Str) = mkS [58] := by decide +kernel
theorem mk_open : ("(" : Str) = mkS [40] := by decide +kernel
theorem bdH_put {l : List Cs} {x : Cs} (h : x ∉ l) : putK (dS (l.map mkS) fun _ => V.bl true) (Sum.inr (mkS x) : Key) (.bl true) = dS ((l ++ [x]).map mkS) fun _ => .bl true := by
  rw [dS_put]
  have e : addN (l.map mkS) (mkS x) = (l ++ [x]).map mkS := by
    unfold addN
    rw [if_neg, List.map_append]
    · rfl
    · intro z
      obtain ⟨y, hy, e⟩ := List.mem_map.mp z
      exact h (mkS_inj e ▸ hy)
  rw [e]
  refine dS_congr fun y _ => ?_
  by_cases z : y = mkS x
  · rw [z, put_at]
  · rw [put_off z]
theorem QsAt.snoc {H : Hp} {a t : Addr} {ps : List Addr} {qs : List (Cs × Cs)} {k n : Cs} (h1 : H a = some (.lst (ps.map V.ref ++ [V.ref t]))) (h2 : ps.length = qs.length) (h3 : ∀ (i : Nat) (p : Addr) (q : Cs × Cs), ps[i]? = some p → qs[i]? = some q → H p = some (.tup [.str (mkS q.1), .str (mkS q.2)]))
    (ht : H t = some (.tup [.str (mkS k), .str (mkS n)])) : QsAt H a (qs ++ [(k, n)]) := by
  refine ⟨ps ++ [t], by rw [h1, List.map_append]; rfl, by rw [List.length_append, List.length_append, h2]; rfl, fun j q' t' x y => ?_⟩
  by_cases hjl : j < ps.length
  · rw [List.getElem?_append_left hjl] at x
    rw [List.getElem?_append_left (by omega)] at y
    exact h3 j q' t' x y
  · rw [List.getElem?_append_right (by omega)] at x
    rw [List.getElem?_append_right (by omega)] at y
    have hj0 : j - ps.length = 0 := by
      have := (List.getElem?_eq_some_iff.mp x).1
      simp at this
      omega
    rw [hj0] at x
    rw [← h2, hj0] at y
    obtain rfl := Option.some.inj x
    obtain rfl := Option.some.inj y
    exact ht
section
variable {P : Program} {w : World} {K : PySem.W.Frag} {mg : Str → Option Value} {base : Heap}
/-! ### read_quantifiers -/
def spReadQ (CR CL CB : Addr) : Sp := fun vs H Q E => ∃ (p dx wl lv bd : Addr) (fin : Nat) (pr : Tk) (s : Ps) (L : List LvA) (H0 : Hp),
  vs = [.ref p] ∧ RdS CR CL H0 H p dx wl lv bd fin pr s L ∧ s.r ≠ [] ∧
  (∀ q r2 bd2, qloop fin (wd s.r) s.r.tail s.bd [] = .ok (q, r2, bd2) → ∀ H' pr2 qa, RdB CR CL H0 H' p dx wl lv bd fin pr2 ⟨r2, s.lv, bd2⟩ L → H0 qa = none → qa ∉ p :: wl :: lv :: bd :: adr L → QsAt H' qa q → bd2 = s.bd ++ q.map (·.2) → bd2.Nodup → pr.length + q.length + 2 ≤ pr2.length → bd2.length ≤ pr2.length → Q (.ref qa) H') ∧
  (∀ c, qloop fin (wd s.r) s.r.tail s.bd [] = .error c → ∀ H' d, Same H0 H' → H0 d = none → H' d = some (.xd (btF c)) → E (.ref CB) (some d) H')
abbrev nReadQ : List Str := ["self", "kind", "found", "name"]
theorem scReadQ : FnScope nReadQ ["self"] (defScope sReadQ) := ⟨rfl, rfl, rfl, by decide +kernel, rfl, by decide +kernel, by decide +kernel⟩
theorem ok_readq {f fT fW fK fI CR CL CB aO aR aK : Addr} {fd fdT fdW fdK fdI : FuncData} (F : Fun K "read_quantifiers" "FormulaReader.read_quantifiers" sReadQ f fd) (C : Cst K mg aO aR aK) (X : RCls K CR)
    (GT : FnOk P w K mg base (L2.CX P w) 4 fT fdT ["self", "fits"] (spTaken CR CB)) (bT : Binds K fdT ["self", "fits"] []) (mT : Meth K CR "taken" fT)
    (GW : FnOk P w K mg base CX0 1 fW fdW ["self"] (spWord CR)) (bW : Binds K fdW ["self"] []) (mW : Meth K CR "word" fW)
    (GK : FnOk P w K mg base CX0 1 fK fdK ["self", "kind"] (spIsKind CR)) (bK : Binds K fdK ["self", "kind"] []) (mK : Meth K CR "is_kind" fK)
    (GI : FnOk P w K mg base CX0 1 fI fdI ["word"] spIsWN) (kI : PySem.W.keepIn K (.ref fI) = true) (bI : Binds K fdI ["word"] []) (gI : mg "is_word_name" = some (.ref fI)) : FnOk P w K mg base (L2.CX P w) 5 f fd ["self"] (spReadQ CR CL CB) := by
  refine F.okX scReadQ (fun vs H Q E h => ?_) (fun cdv A outer s H vs Q E hr h => ?_)
  · obtain ⟨p, _, _, _, _, _, _, _, _, _, rfl, _⟩ := h
    rfl
  · obtain ⟨p, dx, wl, lv, bd, fin, pr, st, L, H0, rfl, D, hne, q, qx⟩ := h
    have nd := scReadQ.nd
    have hu := hu_of hr
    obtain ⟨tW, gW⟩ := C.word
    have r1 := hr.mono (show 1 ≤ 4 by decide)
    refine ⟨_, pss_cons (ps_set (i := 1) nd rfl (.inl rfl) (pe_meth (pv 0) X.cl mT GT hr bT .nil (passes_call (takes_of rfl rfl rfl rfl) fun _ _ _ _ h => h) (pa_cons pe_bl pa_nil)))
      (pss_cons (ps_set (i := 2) nd rfl (.inl rfl) (pe_lst pa_nil))
      (pss_cons (ps_while (passes_of rfl) (PW.pt (pw_or (pt_not (pt_truth (pv 2) (by intro _; rfl))) (pw_or1 (pt_cmpR op_ne (pe_meth0 (pv 0) X.cl mW GW r1 bW .nil pass0) pe_str (nomark _)))))
        (pss_cons (ps_set (i := 3) nd rfl (.inl rfl) (pe_meth0 (pv 0) X.cl mW GW r1 bW .nil pass0))
        (C8.pss_cut (ps_expr (pe_meth (pv 0) X.cl mT GT hr bT .nil (passes_call (takes_of rfl rfl rfl rfl) fun _ _ _ _ h => h) (pa_cons (pe_and (pe_meth (pv 0) X.cl mK GK r1 bK .nil pass0 (pa_cons (pe_glob (v := .str ("word" : Str)) (by rfl) gW ⟨_, rfl⟩) pa_nil))
            (pe_and (pe_call GI r1 (by rfl) gI kI bI .nil pass0 (pa_cons (pv 3) pa_nil)) (pe_one (pe_cmp (pc_dnotin hu (pv 3) (pe_fld (pv 0) rfl)) rfl)))) pa_nil)))
        (pss_cons (ps_dput hu (pe_fld (pv 0) rfl) (pv 3) pe_bl rfl)
        (pss_one (ps_expr (pe_bm PySem.F.plainAttrs_list PySem.F.slot_list_append PySem.F.type_list_append mt_append (pv 2) (pa_cons (pe_tup (pa_cons (pv 1) (pa_cons (pv 3) pa_nil))) pa_nil))))))))
      (pss_cons (ps_fld (pv 0) (pe_op op_add (pe_fld (pv 0) rfl) pe_int) rfl)
      (pss_one (ps_ret (pv 2)))))), ?_⟩
    have B := D.b
    obtain ⟨t0, r0, er0⟩ : ∃ t0 r0, st.r = t0 :: r0 := by
      cases e : st.r with
      | nil => exact absurd e hne
      | cons t0 r0 => exact ⟨t0, r0, rfl⟩
    have ew : wd st.r = t0.w := by rw [er0]; rfl
    have etl : st.r.tail = r0 := by rw [er0]; rfl
    rw [ew, etl] at q qx
    refine ⟨_, rfl, p, dx, _, rfl, B.o.ob, no_m (by decide +kernel), p, dx, wl, lv, bd, fin, pr, st.r, true, H0, rfl, B.o, B.same, fun _ => ⟨t0, r0, er0, fun H1 kx1 D1 => ?_⟩, (fun hb => nomatch hb)⟩
    have B1 := B.move kx1 D1
    refine ⟨Nat.zero_le _, fun qa nqa => ?_⟩
    have sQ := same_upd (o := HO.lst []) nqa
    have B2 := B1.kp (S := []) (Kp.of sQ) (fun _ _ => List.not_mem_nil) (B1.same.trans sQ)
    have qout : qa ∉ p :: wl :: lv :: bd :: adr L := fun z => by
      obtain ⟨o, e, _⟩ := B1.here z
      rw [nqa] at e
      cases e
    have q0 : H0 qa = none := B1.same.free nqa
    have hq2 : QsAt (upd H1 qa (.lst [])) qa [] := ⟨[], upd_same, rfl, fun i p q e => nomatch e⟩
    generalize upd H1 qa (.lst []) = H2 at B2 hq2 ⊢
    refine ⟨fun m σ H' => ∃ (pr' r' : Tk) (b' : List Cs) (fo : List (Cs × Cs)) (y3 : Option V), m = r'.length ∧ σ = [some (.ref p), some (.str (mkS t0.w)), some (.ref qa), y3] ∧ RdB CR CL H0 H' p dx wl lv bd fin pr' ⟨r', st.lv, b'⟩ L ∧ QsAt H' qa fo ∧ b' = st.bd ++ fo.map (·.2) ∧ b'.Nodup ∧ pr.length + fo.length + 1 ≤ pr'.length ∧ b'.length ≤ pr'.length ∧ qloop fin t0.w r' b' fo = qloop fin t0.w r0 st.bd [],
      ⟨_, pr ++ [t0], r0, st.bd, [], none, rfl, rfl, B2, hq2, by simp, D.bo.2, by simp, by rw [List.length_append]; exact Nat.le_trans D.few.2 (Nat.le_add_right _ _), rfl⟩, ?_⟩
    generalize qloop fin t0.w r0 st.bd [] = RES at q qx
    rintro m σ H3 ⟨pr', r', b', fo, y3, rfl, rfl, B3, hq3, eb, ndb, lpr, lbd, hres⟩
    obtain ⟨ps, h1, h2, h3⟩ := hq3
    have fo_emp : (!(ps.map V.ref).isEmpty) = !decide (fo = []) := by
      cases ps with
      | nil =>
        have : fo = [] := List.length_eq_zero_iff.mp h2.symm
        rw [this]
        rfl
      | cons a ps =>
        have : fo ≠ [] := fun z => by rw [z] at h2; cases h2
        rw [decide_eq_false this]
        rfl
    refine or_val (b1 := decide (fo = [])) (b2 := !decide (wd r' = [58])) (fun Q hQ => ⟨_, rfl, !decide (fo = []), .inl ⟨_, SqL.of h1, fo_emp.symm⟩, by show Q (!(!decide (fo = []))) H3; rw [Bool.not_not]; exact hQ⟩)
      (fun Q hQ => ⟨_, rfl, p, dx, _, rfl, B3.o.ob, no_m (by decide +kernel), p, dx, wl, lv, bd, fin, pr', r', rfl, B3.o, rfl, _, rfl, by rw [mk_colon, dec_mk]; exact hQ⟩) ?_
    by_cases hgo : fo ≠ [] ∧ wd r' = [58]
    · obtain ⟨t1, r2, rfl, ht1⟩ := wd_cons hgo.2
      have eb1 : (decide (fo = []) || !decide (wd (t1 :: r2) = [58])) = false := by rw [decide_eq_false hgo.1, decide_eq_true hgo.2]; rfl
      rw [eb1]
      have er : qloop fin t0.w (t1 :: r2) b' fo = .ok (fo, r2, b') := by
        unfold qloop
        rw [if_pos ⟨hgo.1, ht1⟩]
      rw [er] at hres
      refine iteF ⟨_, rfl, p, CR, dx, _, _, rfl, B3.o.ob, X.cl, X.nA, fR_at, _, _, rfl, rfl, _, rfl, p, CR, dx, _, rfl, B3.o.ob, X.cl, X.nA, by show 5 < 1000; decide, ?_⟩
      have D4 : RdO CR (upd H3 p (.ins CR dx (putF "at" (.int ((pr'.length : Nat) + 1 : Int)) (fR wl pr'.length fin lv bd)))) p dx wl lv bd fin (pr' ++ [t1]) r2 := B3.o.step KeepX.upd (by rw [upd_same]; exact congrArg (fun l => some (HO.ins CR dx l)) fR_next)
      have B4 := B3.move KeepX.upd D4
      have kp4 : Kp [p] H3 (upd H3 p (.ins CR dx (putF "at" (.int ((pr'.length : Nat) + 1 : Int)) (fR wl pr'.length fin lv bd)))) := KeepX.upd.kp B3.o.ob
      have hq4 : QsAt H3 qa fo := ⟨ps, h1, h2, h3⟩
      refine ⟨_, rfl, q fo r2 b' hres.symm _ (pr' ++ [t1]) qa B4 q0 qout (hq4.kp kp4 fun z => qout (by rw [List.mem_singleton.mp z]; exact List.mem_cons_self)) eb ndb ?_ ?_⟩
      · rw [List.length_append, List.length_singleton]
        omega
      · rw [List.length_append]
        omega
    · have eb1 : (decide (fo = []) || !decide (wd r' = [58])) = true := by
        by_cases hz : fo = []
        · rw [decide_eq_true hz]
          rfl
        · rw [decide_eq_false (fun z => hgo ⟨hz, z⟩)]
          simp
      rw [eb1]
      refine iteT ⟨fun σ' H' => ∃ m', m' < r'.length ∧ ∃ (pr' r' : Tk) (b' : List Cs) (fo : List (Cs × Cs)) (y3 : Option V), m' = r'.length ∧ σ' = [some (.ref p), some (.str (mkS t0.w)), some (.ref qa), y3] ∧ RdB CR CL H0 H' p dx wl lv bd fin pr' ⟨r', st.lv, b'⟩ L ∧ QsAt H' qa fo ∧ b' = st.bd ++ fo.map (·.2) ∧ b'.Nodup ∧ pr.length + fo.length + 1 ≤ pr'.length ∧ b'.length ≤ pr'.length ∧ qloop fin t0.w r' b' fo = RES, fun _ _ h => h, ?_⟩
      refine ⟨_, rfl, p, dx, _, rfl, B3.o.ob, no_m (by decide +kernel), p, dx, wl, lv, bd, fin, pr', r', rfl, B3.o, ?_⟩
      -- self.taken(..)
      have bad : ∀ (hb : ¬ (isK .word r' = true ∧ isName (wd r') = true ∧ wd r' ∉ b')), RES = .error (colT fin r') := fun hb => by
        rw [← hres]
        cases r' with
        | nil => rfl
        | cons t1 r2 =>
          unfold qloop
          have hgo' : ¬ (fo ≠ [] ∧ t1.w = [58]) := hgo
          rw [if_neg hgo', if_neg]
          · rfl
          · rintro ⟨x1, x2, x3⟩
            exact hb ⟨decide_eq_true x1, x2, x3⟩
      have take : ∀ b : Bool, (b = true ↔ (isK .word r' = true ∧ isName (wd r') = true ∧ wd r' ∉ b')) → spTaken CR CB [.ref p, .bl b] H3 (fun _ H' => ∃ t1 r2, r' = t1 :: r2 ∧ isK .word r' = true ∧ isName (wd r') = true ∧ wd r' ∉ b' ∧ KeepX p H3 H' ∧ RdO CR H' p dx wl lv bd fin (pr' ++ [t1]) r2) E := fun b hb => by
        refine ⟨p, dx, wl, lv, bd, fin, pr', r', b, H0, rfl, B3.o, B3.same, fun hT => ?_, fun hF H' d s' nd' hx => qx (colT fin r') (bad fun z => by rw [hb.mpr z] at hF; cases hF) H' d s' nd' hx⟩
        obtain ⟨x1, x2, x3⟩ := hb.mp hT
        obtain ⟨t1, r2, rfl⟩ : ∃ t1 r2, r' = t1 :: r2 := by
          cases r' with
          | nil => cases x1
          | cons t1 r2 => exact ⟨t1, r2, rfl⟩
        exact ⟨t1, r2, rfl, fun H' kx D' => ⟨t1, r2, rfl, x1, x2, x3, kx, D'⟩⟩
      refine ⟨fun σ' H' => σ' = [some (.ref p), some (.str (mkS t0.w)), some (.ref qa), some (.str (mkS (wd r')))] ∧ ∃ t1 r2, r' = t1 :: r2 ∧ isK .word r' = true ∧ isName (wd r') = true ∧ wd r' ∉ b' ∧ KeepX p H3 H' ∧ RdO CR H' p dx wl lv bd fin (pr' ++ [t1]) r2, ?_, ?_⟩
      · have take2 : ∀ b : Bool, (b = true ↔ (isK .word r' = true ∧ isName (wd r') = true ∧ wd r' ∉ b')) → spTaken CR CB [.ref p, .bl b] H3 (fun _ H' => [some (V.ref p), some (.str (mkS t0.w)), some (.ref qa), some (.str (mkS (wd r')))] = [some (V.ref p), some (.str (mkS t0.w)), some (.ref qa), some (.str (mkS (wd r')))] ∧ ∃ t1 r2, r' = t1 :: r2 ∧ isK .word r' = true ∧ isName (wd r') = true ∧ wd r' ∉ b' ∧ KeepX p H3 H' ∧ RdO CR H' p dx wl lv bd fin (pr' ++ [t1]) r2) E := fun b hb => by
          obtain ⟨p1, dx1, wl1, lv1, bd1, fin1, pr1, rr1, b1, H01, e1, e2, e3, e4, e5⟩ := take b hb
          exact ⟨p1, dx1, wl1, lv1, bd1, fin1, pr1, rr1, b1, H01, e1, e2, e3, fun h => (e4 h).elim fun t h => h.elim fun r h => ⟨t, r, h.1, fun H' a b => ⟨rfl, h.2 H' a b⟩⟩, e5⟩
        refine ⟨_, rfl, p, dx, _, rfl, B3.o.ob, no_m (by decide +kernel), ?_⟩
        refine ⟨_, rfl, p, dx, _, rfl, B3.o.ob, no_m (by decide +kernel), p, dx, wl, lv, bd, fin, pr', r', .word, rfl, B3.o, _, rfl, ?_⟩
        by_cases hk : isK .word r' = true
        · rw [if_pos hk]
          have szw : (wd r').length ≤ sizeLine := by
            cases r' with
            | nil => exact Nat.zero_le _
            | cons t1 r2 => exact len_sz (B3.o.ok t1 List.mem_cons_self).1
          refine ⟨_, rfl, wd r', rfl, szw, _, rfl, ?_⟩
          by_cases hn : isName (wd r') = true
          · rw [if_pos hn]
            refine ⟨_, rfl, _, rfl, p, CR, dx, _, _, rfl, B3.o.ob, X.cl, X.nB, fR_bd, bd, _, rfl, DGet.k (k := Sum.inr (mkS (wd r'))) B3.bnd, ?_⟩
            rw [bdH_get]
            refine take2 _ ⟨fun z => ⟨hk, hn, fun m => ?_⟩, fun z => ?_⟩
            · rw [if_pos m] at z
              cases z
            · rw [if_neg z.2.2]
              rfl
          · rw [if_neg hn]
            exact take2 false ⟨(fun z => Bool.noConfusion z), fun z => absurd z.2.1 hn⟩
        · rw [if_neg hk]
          exact take2 false ⟨(fun z => Bool.noConfusion z), fun z => absurd z.1 hk⟩
      · rintro σ4 H4 ⟨rfl, t1, r2, er', hk, hn, hnb, kx4, D4⟩
        have B4 : RdB CR CL H0 H4 p dx wl lv bd fin (pr' ++ [t1]) ⟨r2, st.lv, b'⟩ L := B3.move kx4 D4
        have kp4 := kx4.kp B3.o.ob
        have nqp : qa ∉ [p] := fun z => qout (by rw [List.mem_singleton.mp z]; exact List.mem_cons_self)
        have nqb : qa ≠ bd := fun z => qout (by rw [z]; simp)
        refine ⟨_, rfl, p, CR, dx, _, _, rfl, B4.o.ob, X.cl, X.nB, fR_bd, _, rfl, bd, _, rfl, DPut.k (k := Sum.inr (mkS (wd r'))) B4.bnd ?_, ?_⟩
        · rw [dS_len, List.length_map]
          have := B4.o.few
          rw [List.length_append, List.length_append] at this
          exact Nat.lt_of_le_of_lt (show b'.length ≤ 1000000 by omega) (by decide)
        · rw [bdH_put hnb]
          have B5 := B4.setBd (b' ++ [wd r'])
          have kp5 : Kp [bd] H4 (upd H4 bd (bdH (b' ++ [wd r']))) := Kp.upd B4.bnd (by intro xs z; cases z)
          show (∃ _, _)
          have h1' : upd H4 bd (bdH (b' ++ [wd r'])) qa = some (.lst (ps.map V.ref)) := by
            rw [upd_ne nqb]
            exact kp4.k _ _ h1 nqp
          have h3' : ∀ (i : Nat) (p : Addr) (q : Cs × Cs), ps[i]? = some p → fo[i]? = some q → upd H4 bd (bdH (b' ++ [wd r'])) p = some (.tup [.str (mkS q.1), .str (mkS q.2)]) := fun i p q x y => kp5.t _ _ (kp4.t _ _ (h3 i p q x y))
          refine ⟨_, rfl, .inl ⟨rfl, _, SqL.of h1'⟩, _, rfl, _, rfl, by show 2 ≤ sizeLine; decide, fun t nt => ?_⟩
          have nt' : upd H4 bd (bdH (b' ++ [wd r'])) t = none := nt
          have sT := same_upd (o := HO.tup [.str (mkS t0.w), .str (mkS (wd r'))]) nt'
          have B6 := B5.kp (S := []) (Kp.of sT) (fun _ _ => List.not_mem_nil) (B5.same.trans sT)
          have h1'' := sT _ _ h1'
          have h3'' : ∀ (i : Nat) (p : Addr) (q : Cs × Cs), ps[i]? = some p → fo[i]? = some q → upd (upd H4 bd (bdH (b' ++ [wd r']))) t (HO.tup [.str (mkS t0.w), .str (mkS (wd r'))]) p = some (.tup [.str (mkS q.1), .str (mkS q.2)]) := fun i p q x y => sT _ _ (h3' i p q x y)
          have ht'' : upd (upd H4 bd (bdH (b' ++ [wd r']))) t (HO.tup [.str (mkS t0.w), .str (mkS (wd r'))]) t = some (.tup [.str (mkS t0.w), .str (mkS (wd r'))]) := upd_same
          refine ⟨qa, _, _, rfl, rfl, h1'', ?_, ?_⟩
          · rw [List.length_map, h2]
            have := B4.o.few
            rw [List.length_append, List.length_append] at this
            exact Nat.lt_of_le_of_lt (show fo.length ≤ 1000000 by omega) (by decide)
          · change ∃ m', m' < r'.length ∧ _
            have k7 : Kp [qa] (upd (upd H4 bd (bdH (b' ++ [wd r']))) t (HO.tup [.str (mkS t0.w), .str (mkS (wd r'))])) (upd (upd (upd H4 bd (bdH (b' ++ [wd r']))) t (HO.tup [.str (mkS t0.w), .str (mkS (wd r'))])) qa (.lst (ps.map V.ref ++ [V.ref t]))) := Kp.upd h1'' (by intro xs z; cases z)
            refine ⟨r2.length, by rw [er']; exact Nat.lt_succ_self _, pr' ++ [t1], r2, b' ++ [wd r'], fo ++ [(t0.w, wd r')], _, rfl, rfl, B6.kp k7 (fun x hx z => qout (by rw [← List.mem_singleton.mp z]; exact hx)) (B6.same.later q0), ?_, ?_, ?_, ?_, ?_, ?_⟩
            · exact QsAt.snoc upd_same h2 (fun i p q x y => k7.t _ _ (h3'' i p q x y)) (k7.t _ _ ht'')
            · rw [eb, List.map_append, List.append_assoc]
              rfl
            · exact List.nodup_append.mpr ⟨ndb, by simp, fun x hx y hy e => by
                rw [List.mem_singleton] at hy
                subst hy
                exact hnb (e ▸ hx)⟩
            · rw [List.length_append, List.length_append, List.length_singleton, List.length_singleton]
              omega
            · rw [List.length_append, List.length_append, List.length_singleton, List.length_singleton]
              omega
            · rw [← hres, er']
              conv => rhs; unfold qloop
              rw [er'] at hgo hk hn hnb
              have hgo' : ¬ (fo ≠ [] ∧ t1.w = [58]) := hgo
              have hk' : t1.k = .word := of_decide_eq_true hk
              have hn' : isName t1.w = true := hn
              have hnb' : t1.w ∉ b' := hnb
              rw [if_neg hgo', if_pos ⟨hk', hn', hnb'⟩]
              rfl
end
end Lo
namespace Lo
open PySem L2 Fx
/-- one level more -/
theorem RdB.push {CR CL : Addr} {H0 H H1 : Hp} {p dx wl lv bd : Addr} {fin : Nat} {pr : Tk} {s : Ps} {L : List LvA} {a' : LvA} {l' : Lvl} (h : RdB CR CL H0 H p dx wl lv bd fin pr s L) (sm : Same H H1) (hl : LvlAt CL H1 a' l')
    (n : ∀ x ∈ [a'.p, a'.q, a'.c, a'.s], x ∉ p :: wl :: lv :: bd :: adr L ∧ H0 x = none) (nd : [a'.p, a'.q, a'.c, a'.s].Nodup) :
    RdB CR CL H0 (upd H1 lv (.lst ((L.map fun a => V.ref a.p).reverse ++ [V.ref a'.p]))) p dx wl lv bd fin pr { s with lv := l' :: s.lv } (a' :: L) := by
  have B := h.kp (S := []) (Kp.of sm) (fun _ _ => List.not_mem_nil) (h.same.trans sm)
  obtain ⟨nP, nW, nL, nB, nA⟩ := nd_out B.nd
  have k : Kp [lv] H1 (upd H1 lv (.lst ((L.map fun a => V.ref a.p).reverse ++ [V.ref a'.p]))) := Kp.upd B.lvl (by intro xs z; cases z)
  have out : ∀ {x}, x ≠ lv → x ∉ [lv] := fun h z => h (List.mem_singleton.mp z)
  have np := n a'.p (by simp)
  have nq := n a'.q (by simp)
  have nc := n a'.c (by simp)
  have ns := n a'.s (by simp)
  simp only [List.mem_cons, not_or] at np nq nc ns
  obtain ⟨ps, w1, w2, w3⟩ := B.o.ws
  refine ⟨⟨k.k _ _ B.o.ob (out nP.2.1), ⟨ps, k.k _ _ w1 (out nW.1), w2, fun i q t x y => k.t _ _ (w3 i q t x y)⟩, B.o.ok, B.o.few⟩, by rw [upd_same, List.map_cons, List.reverse_cons], k.k _ _ B.bnd (out (Ne.symm nL.1)), ⟨l', s.lv, rfl, hl.kp k ⟨out np.1.2.2.1, out nq.1.2.2.1, out nc.1.2.2.1, out ns.1.2.2.1⟩, B.at_.kp k _ _ fun x hx => out fun z => nL.2 (z ▸ hx)⟩, ?_, fun x hx => ?_, B.same.later (B.free lv (by simp))⟩
  · simp only [List.nodup_cons, List.mem_cons, not_or, List.not_mem_nil, not_false_eq_true, and_true] at nd
    simp only [adr, List.nodup_cons, List.mem_cons, not_or]
    exact ⟨⟨nP.1, nP.2.1, nP.2.2.1, Ne.symm np.1.1, Ne.symm nq.1.1, Ne.symm nc.1.1, Ne.symm ns.1.1, nP.2.2.2⟩, ⟨nW.1, nW.2.1, Ne.symm np.1.2.1, Ne.symm nq.1.2.1, Ne.symm nc.1.2.1, Ne.symm ns.1.2.1, nW.2.2⟩,
      ⟨nL.1, Ne.symm np.1.2.2.1, Ne.symm nq.1.2.2.1, Ne.symm nc.1.2.2.1, Ne.symm ns.1.2.2.1, nL.2⟩, ⟨Ne.symm np.1.2.2.2.1, Ne.symm nq.1.2.2.2.1, Ne.symm nc.1.2.2.2.1, Ne.symm ns.1.2.2.2.1, nB⟩,
      ⟨nd.1.1, nd.1.2.1, nd.1.2.2, np.1.2.2.2.2⟩, ⟨nd.2.1.1, nd.2.1.2, nq.1.2.2.2.2⟩, ⟨nd.2.2.1, nc.1.2.2.2.2⟩, ns.1.2.2.2.2, nA⟩
  · simp only [adr, List.mem_cons] at hx
    rcases hx with rfl | rfl | rfl | rfl | rfl | rfl | rfl | rfl | hx
    · exact h.free _ (by simp)
    · exact h.free _ (by simp)
    · exact h.free _ (by simp)
    · exact h.free _ (by simp)
    · exact np.2
    · exact nq.2
    · exact nc.2
    · exact ns.2
    · exact h.free _ (by simp [hx])
theorem bnames_bump : ∀ ls : List Lvl, bnames (bump ls) = bnames ls
  | [] => rfl
  | _ :: _ => rfl
section
variable {P : Program} {w : World} {K : PySem.W.Frag} {mg : Str → Option Value} {base : Heap}
/-! ### open_levels -/
def spOpenL (CR CL CB : Addr) : Sp := fun vs H Q E => ∃ (p dx wl lv bd : Addr) (fin : Nat) (pr : Tk) (s : Ps) (L : List LvA) (H0 : Hp),
  vs = [.ref p] ∧ RdS CR CL H0 H p dx wl lv bd fin pr s L ∧ s.lv ≠ [] ∧
  (∀ s2, openL fin s = .ok s2 → ∀ H' pr2 L2, RdS CR CL H0 H' p dx wl lv bd fin pr2 s2 L2 → s2.lv ≠ [] → Q .non H') ∧
  (∀ c, openL fin s = .error c → ∀ H' d, Same H0 H' → H0 d = none → H' d = some (.xd (btF c)) → E (.ref CB) (some d) H')
abbrev nOpenL : List Str := ["self", "word"]
theorem scOpenL : FnScope nOpenL ["self"] (defScope sOpenL) := ⟨rfl, rfl, rfl, by decide +kernel, rfl, by decide +kernel, by decide +kernel⟩
/-- a level that is made anew -/
theorem made_level {CR CL : Addr} {H0 H H1 H2 : Hp} {p dx wl lv bd : Addr} {fin : Nat} {pr : Tk} {s : Ps} {L : List LvA} (B : RdB CR CL H0 H p dx wl lv bd fin pr s L) {x dxl q c s' : Addr} {cl : Bool} {qs : List (Cs × Cs)} (sm : Same H H1) (hq : QsAt H1 q qs) (nq : q ∉ p :: wl :: lv :: bd :: adr L) (nq0 : H0 q = none)
    (nx : H1 x = none) (ndx : H1 dxl = none) (nex : dxl ≠ x) (kx : KeepX x (upd (upd H1 dxl (.own x)) x (.ins CL dxl [])) H2) (nc : upd (upd H1 dxl (.own x)) x (.ins CL dxl []) c = none) (ns : upd (upd H1 dxl (.own x)) x (.ins CL dxl []) s' = none) (ncs : c ≠ s')
    (ob : H2 x = some (.ins CL dxl (fL q cl c s' 0))) (hc : H2 c = some (.lst [])) (hs : H2 s' = some (.lst [])) :
    Same H H2 ∧ LvlAt CL H2 ⟨x, q, c, s', dxl⟩ (newL qs cl) ∧ (∀ y ∈ [x, q, c, s'], y ∉ p :: wl :: lv :: bd :: adr L ∧ H0 y = none) ∧ [x, q, c, s'].Nodup := by
  have sD := same_upd (o := HO.own x) ndx
  have nx2 : upd H1 dxl (.own x) x = none := by rw [upd_ne nex.symm]; exact nx
  have sX := same_upd (o := HO.ins CL dxl []) nx2
  have s12 : Same H1 H2 := fun b o e => kx b o (sX _ _ (sD _ _ e)) (ne_of_none e nx)
  have B1 := B.kp (S := []) (Kp.of sm) (fun _ _ => List.not_mem_nil) (B.same.trans sm)
  have sT := sD.trans sX
  have fresh : ∀ {y : Addr}, H1 y = none → y ∉ p :: wl :: lv :: bd :: adr L ∧ H0 y = none := fun {y} e => ⟨(fun z => by
    obtain ⟨o, e1, _⟩ := B1.here z
    rw [e] at e1
    cases e1), B1.same.free e⟩
  have nc1 : H1 c = none := sT.free nc
  have ns1 : H1 s' = none := sT.free ns
  have ncx : c ≠ x := fun z => by
    rw [z, upd_same] at nc
    cases nc
  have nsx : s' ≠ x := fun z => by
    rw [z, upd_same] at ns
    cases ns
  have qne : ∀ {y : Addr}, H1 y = none → q ≠ y := fun {y} e z => by
    obtain ⟨ps, h1, _⟩ := hq
    rw [z, e] at h1
    cases h1
  have hq2 : QsAt H2 q qs := hq.kp (S := []) (Kp.of s12) List.not_mem_nil
  refine ⟨sm.trans s12, ⟨ob, hq2, ⟨[], hc, rfl⟩, [], hs, rfl⟩, fun y hy => ?_, ?_⟩
  · simp only [List.mem_cons, List.not_mem_nil, or_false] at hy
    rcases hy with rfl | rfl | rfl | rfl
    · exact fresh nx
    · exact ⟨nq, nq0⟩
    · exact fresh nc1
    · exact fresh ns1
  · simp only [List.nodup_cons, List.mem_cons, List.not_mem_nil, or_false, not_or, not_false_eq_true, and_true]
    exact ⟨⟨Ne.symm (qne nx), Ne.symm ncx, Ne.symm nsx⟩, ⟨qne nc1, qne ns1⟩, ncs, trivial, List.nodup_nil⟩
theorem ok_openl {f fQ fW fLI CR CL CB aO aR aK : Addr} {fd fdQ fdW fdL : FuncData} (F : Fun K "open_levels" "FormulaReader.open_levels" sOpenL f fd) (C : Cst K mg aO aR aK) (X : RCls K CR) (Y : LCls K mg CL fLI)
    (GL : FnOk P w K mg base CX0 1 fLI fdL ["self", "quantifiers", "closes"] (spLvInit CL)) (bL : Binds K fdL ["self", "quantifiers", "closes"] [])
    (GQ : FnOk P w K mg base (L2.CX P w) 5 fQ fdQ ["self"] (spReadQ CR CL CB)) (bQ : Binds K fdQ ["self"] []) (mQ : Meth K CR "read_quantifiers" fQ)
    (GW : FnOk P w K mg base CX0 1 fW fdW ["self"] (spWord CR)) (bW : Binds K fdW ["self"] []) (mW : Meth K CR "word" fW) : FnOk P w K mg base (L2.CX P w) 6 f fd ["self"] (spOpenL CR CL CB) := by
  refine F.okX scOpenL (fun vs H Q E h => ?_) (fun cdv A outer s H vs Q E hr h => ?_)
  · obtain ⟨p, _, _, _, _, _, _, _, _, _, rfl, _⟩ := h
    rfl
  · obtain ⟨p, dx, wl, lv, bd, fin, pr, st, L, H0, rfl, D, hne, q, qx⟩ := h
    have nd := scOpenL.nd
    have r1 := hr.mono (show 1 ≤ 5 by decide)
    refine ⟨_, pss_one (ps_while (passes_of rfl) (pt_val pe_bl)
      (pss_cons (ps_set (i := 1) nd rfl (.inl rfl) (pe_meth0 (pv 0) X.cl mW GW r1 bW .nil pass0))
      (pss_one (ps_if (pt_cmpR op_eq (pv 1) pe_str (nomark _))
        (pss_cons (ps_fld (pv 0) (pe_op op_add (pe_fld (pv 0) rfl) pe_int) rfl)
        (pss_one (ps_fld (pe_ix ix_list (pe_fld (pv 0) rfl) (pe_un un_neg pe_int) (fun _ _ => rfl)) (pe_op op_add (pe_fld (pe_ix ix_list (pe_fld (pv 0) rfl) (pe_un un_neg pe_int) (fun _ _ => rfl)) rfl) pe_int) rfl)))
        (pss_one (ps_if (pt_cmpR op_eq (pv 1) pe_str (nomark _))
          (pss_cons (ps_fld (pv 0) (pe_op op_add (pe_fld (pv 0) rfl) pe_int) rfl)
          (pss_one (ps_expr (pe_bm PySem.F.plainAttrs_list PySem.F.slot_list_append PySem.F.type_list_append mt_append (pe_fld (pv 0) rfl) (pa_cons (pe_make Y.make GL (hr.mono (by decide)) (by rfl) Y.mg bL .nil pass0 (pa_cons (pe_lst pa_nil) (pa_cons pe_bl pa_nil))) pa_nil)))))
          (pss_one (ps_if (pt_cmpR op_in_seq (pv 1) (pe_glob (v := .ref aK) (by rfl) C.kinds rfl) (by rfl))
            (pss_one (ps_expr (pe_bm PySem.F.plainAttrs_list PySem.F.slot_list_append PySem.F.type_list_append mt_append (pe_fld (pv 0) rfl) (pa_cons (pe_make Y.make GL (hr.mono (by decide)) (by rfl) Y.mg bL .nil pass0
              (pa_cons (pe_meth0 (pv 0) X.cl mQ GQ hr bQ .nil (passes_call (takes_of rfl rfl rfl rfl) fun _ _ _ _ h => h)) (pa_cons pe_bl pa_nil))) pa_nil))))
            (pss_one ps_retN))))))))), ?_⟩
    refine ⟨fun m σ H' => ∃ (s' : Ps) (L' : List LvA) (pr' : Tk) (y1 : Option V), m = s'.r.length ∧ σ = [some (.ref p), y1] ∧ RdS CR CL H0 H' p dx wl lv bd fin pr' s' L' ∧ s'.lv ≠ [] ∧ openL fin s' = openL fin st,
      ⟨_, st, L, pr, none, rfl, rfl, D, hne, rfl⟩, ?_⟩
    generalize openL fin st = RES at q qx
    clear D hne
    rintro m σ H1 ⟨s1, L1, pr1, y1, rfl, rfl, D, hne, hres⟩
    have B := D.b
    rw [openL_eq] at hres
    refine ⟨true, rfl, iteT ⟨fun σ' H' => ∃ m', m' < s1.r.length ∧ ∃ (s' : Ps) (L' : List LvA) (pr' : Tk) (y1 : Option V), m' = s'.r.length ∧ σ' = [some (.ref p), y1] ∧ RdS CR CL H0 H' p dx wl lv bd fin pr' s' L' ∧ s'.lv ≠ [] ∧ openL fin s' = RES, fun _ _ h => h, ?_⟩⟩
    refine ⟨_, rfl, p, dx, _, rfl, B.o.ob, no_m (by decide +kernel), p, dx, wl, lv, bd, fin, pr1, s1.r, rfl, B.o, ?_⟩
    refine ⟨_, rfl, rfl, _, rfl, ?_⟩
    rw [mk_not, mk_open, dec_mk]
    have fewpr : pr1.length ≤ 1000000 := by
      have := B.o.few
      rw [List.length_append] at this
      omega
    have fewlv : ∀ {n : Nat}, n ≤ wt s1.lv → n < sizeLine := fun {n} h => Nat.lt_of_le_of_lt (show n ≤ 1000001 by have := D.few.1; omega) (by decide)
    by_cases h1 : wd s1.r = Fx.wNot
    · rw [if_pos h1] at hres
      rw [decide_eq_true h1]
      obtain ⟨t1, r2, er, _⟩ := wd_cons h1
      obtain ⟨l, ls, elv⟩ : ∃ l ls, s1.lv = l :: ls := by
        cases e : s1.lv with
        | nil => exact absurd e hne
        | cons l ls => exact ⟨l, ls, rfl⟩
      refine iteT ⟨_, rfl, p, CR, dx, _, _, rfl, B.o.ob, X.cl, X.nA, fR_at, _, _, rfl, rfl, _, rfl, p, CR, dx, _, rfl, B.o.ob, X.cl, X.nA, by show 5 < 1000; decide, ?_⟩
      have D1 : RdO CR (upd H1 p (.ins CR dx (putF "at" (.int ((pr1.length : Nat) + 1 : Int)) (fR wl pr1.length fin lv bd)))) p dx wl lv bd fin (pr1 ++ [t1]) r2 := (er ▸ B.o).step KeepX.upd (by rw [upd_same]; exact congrArg (fun l => some (HO.ins CR dx l)) fR_next)
      have B1 := B.move KeepX.upd D1
      generalize upd H1 p (.ins CR dx (putF "at" (.int ((pr1.length : Nat) + 1 : Int)) (fR wl pr1.length fin lv bd))) = H2 at B1 ⊢
      have hat := B1.at_
      rw [show (Ps.mk r2 s1.lv s1.bd).lv = l :: ls from elv] at hat
      obtain ⟨a, L2, rfl⟩ : ∃ a L2, L1 = a :: L2 := by
        cases L1 with
        | nil => cases hat
        | cons a L2 => exact ⟨a, L2, rfl⟩
      obtain ⟨l', ls', e, hl, hls⟩ := hat
      obtain ⟨rfl, rfl⟩ : l = l' ∧ ls = ls' := by
        have := List.cons.inj e
        exact ⟨this.1, this.2⟩
      have hlv : H2 lv = some (.lst ((L2.map fun a => V.ref a.p).reverse ++ [V.ref a.p])) := by
        have := B1.lvl
        rw [List.map_cons, List.reverse_cons] at this
        exact this
      refine ⟨_, rfl, p, CR, dx, _, _, rfl, B1.o.ob, X.cl, X.nL, fR_lev, 1, rfl, lv, _, -1, .ref a.p, rfl, rfl, SqL.of hlv, atI_last _ _, ?_⟩
      refine ⟨a.p, CL, a.dx, _, _, rfl, hl.ob, Y.cl, Y.nD, fL_d, _, _, rfl, rfl, ?_⟩
      refine ⟨_, rfl, p, CR, dx, _, _, rfl, B1.o.ob, X.cl, X.nL, fR_lev, 1, rfl, lv, _, -1, .ref a.p, rfl, rfl, SqL.of hlv, atI_last _ _, ?_⟩
      refine ⟨a.p, CL, a.dx, _, rfl, hl.ob, Y.cl, Y.nD, by show 5 < 1000; decide, ?_⟩
      have e1 : putF "denials" (V.int (((l.dn : Nat) : Int) + 1)) (fL a.q l.closes a.c a.s l.dn) = fL a.q l.closes a.c a.s (l.dn + 1) := fL_putd1
      show ∃ m', m' < s1.r.length ∧ _
      have k3 : Kp [a.p] H2 (upd H2 a.p (.ins CL a.dx (putF "denials" (V.int (((l.dn : Nat) : Int) + 1)) (fL a.q l.closes a.c a.s l.dn)))) := Kp.upd hl.ob (by intro xs z; cases z)
      obtain ⟨nP, nW, nL, nB, nA⟩ := nd_out B1.nd
      simp only [adr, List.nodup_cons, List.mem_cons, not_or] at nA
      obtain ⟨⟨a1, a2, a3, a4⟩, _⟩ := nA
      have one : ∀ {x y : Addr}, x ≠ y → x ∉ [y] := fun h z => h (List.mem_singleton.mp z)
      obtain ⟨vs, c1, c2⟩ := hl.ch
      obtain ⟨us, u1, u2⟩ := hl.ps
      have lv3 : LvlAt CL (upd H2 a.p (.ins CL a.dx (putF "denials" (V.int (((l.dn : Nat) : Int) + 1)) (fL a.q l.closes a.c a.s l.dn)))) a { l with dn := l.dn + 1 } :=
        ⟨by rw [upd_same, e1], hl.qs.kp k3 (one (Ne.symm a1)), ⟨vs, k3.k _ _ c1 (one (Ne.symm a2)), FAts.keep k3.t _ _ c2⟩, us, k3.k _ _ u1 (one (Ne.symm a3)), FAts.keep k3.t _ _ u2⟩
      have B3 := B1.top (s := ⟨r2, s1.lv, s1.bd⟩) elv (k3.weak (by intro x hx; simp at hx; simp [hx])) lv3 rfl rfl rfl (.inl rfl) (B1.same.later (B1.free a.p (by simp [adr])))
      refine ⟨r2.length, by rw [er]; exact Nat.lt_succ_self _, ⟨r2, { l with dn := l.dn + 1 } :: ls, s1.bd⟩, a :: L2, pr1 ++ [t1], _, rfl, rfl, ⟨B3, ?_, ?_⟩, List.cons_ne_nil _ _, ?_⟩
      · have := D.bo
        rw [elv] at this
        exact this
      · have f2 := D.few
        rw [elv] at f2
        have f1 : (1 + l.qs.length + l.ch.length + l.ps.length + l.dn) + wt ls ≤ pr1.length + 1 := f2.1
        refine ⟨?_, by rw [List.length_append]; exact Nat.le_trans f2.2 (Nat.le_add_right _ _)⟩
        show (1 + l.qs.length + l.ch.length + l.ps.length + (l.dn + 1)) + wt ls ≤ _
        rw [List.length_append, List.length_singleton]
        omega
      · rw [← hres, er, elv]
        rfl
    rw [if_neg h1] at hres
    rw [decide_eq_false h1]
    refine iteF ⟨_, rfl, rfl, _, rfl, ?_⟩
    rw [dec_mk]
    by_cases h2 : wd s1.r = [40]
    · rw [if_pos h2] at hres
      rw [decide_eq_true h2]
      obtain ⟨t1, r2, er, _⟩ := wd_cons h2
      refine iteT ⟨_, rfl, p, CR, dx, _, _, rfl, B.o.ob, X.cl, X.nA, fR_at, _, _, rfl, rfl, _, rfl, p, CR, dx, _, rfl, B.o.ob, X.cl, X.nA, by show 5 < 1000; decide, ?_⟩
      have D1 : RdO CR (upd H1 p (.ins CR dx (putF "at" (.int ((pr1.length : Nat) + 1 : Int)) (fR wl pr1.length fin lv bd)))) p dx wl lv bd fin (pr1 ++ [t1]) r2 := (er ▸ B.o).step KeepX.upd (by rw [upd_same]; exact congrArg (fun l => some (HO.ins CR dx l)) fR_next)
      have B1 := B.move KeepX.upd D1
      generalize upd H1 p (.ins CR dx (putF "at" (.int ((pr1.length : Nat) + 1 : Int)) (fR wl pr1.length fin lv bd))) = H2 at B1 ⊢
      refine ⟨_, rfl, p, CR, dx, _, _, rfl, B1.o.ob, X.cl, X.nL, fR_lev, .inl ⟨rfl, _, SqL.of B1.lvl⟩, Nat.zero_le _, fun qa nqa => fun x dxl nx ndx nex => ?_⟩
      have sQ := same_upd (o := HO.lst []) nqa
      have hq2 : QsAt (upd H2 qa (.lst [])) qa [] := ⟨[], upd_same, rfl, fun i p q e => nomatch e⟩
      have qout : qa ∉ p :: wl :: lv :: bd :: adr L1 := fun z => by
        obtain ⟨o, e, _⟩ := B1.here z
        rw [nqa] at e
        cases e
      have q0 : H0 qa = none := B1.same.free nqa
      generalize upd H2 qa (.lst []) = H3 at sQ hq2 nx ndx ⊢
      refine ⟨x, dxl, qa, true, rfl, upd_same, fun H4 c s' kx nc ns ncs ob hc hs => ⟨rfl, ?_⟩⟩
      obtain ⟨sm4, hl4, n4, nd4⟩ := made_level B1 sQ hq2 qout q0 nx ndx nex kx nc ns ncs ob hc hs
      have hlv4 := sm4 _ _ B1.lvl
      refine ⟨lv, _, _, rfl, rfl, hlv4, ?_, ?_⟩
      · rw [List.length_reverse, List.length_map, B1.at_.len]
        exact fewlv (wt_len _)
      · have B5 := B1.push sm4 hl4 n4 nd4
        show ∃ m', m' < s1.r.length ∧ _
        refine ⟨r2.length, by rw [er]; exact Nat.lt_succ_self _, ⟨r2, newL [] true :: s1.lv, s1.bd⟩, _, pr1 ++ [t1], _, rfl, rfl, ⟨B5, ?_, ?_⟩, List.cons_ne_nil _ _, ?_⟩
        · refine ⟨?_, D.bo.2⟩
          show s1.bd = bnames s1.lv ++ []
          rw [List.append_nil]
          exact D.bo.1
        · have f2 := D.few
          refine ⟨?_, by rw [List.length_append]; exact Nat.le_trans f2.2 (Nat.le_add_right _ _)⟩
          show (1 + 0 + 0 + 0 + 0) + wt s1.lv ≤ _
          rw [List.length_append, List.length_singleton]
          omega
        · rw [← hres, er]
          rfl
    rw [if_neg h2] at hres
    rw [decide_eq_false h2]
    refine iteF ⟨_, rfl, aK, _, rfl, .inr (C.kindsT H1), rfl, flat_strs _, ?_⟩
    refine ⟨_, rfl, ?_⟩
    rw [if_neg Bool.false_ne_true, inV_mk]
    have ek : decide (wd s1.r ∈ [wAll, wSome]) = isKind (wd s1.r) := by
      unfold isKind
      rw [← Bool.decide_or]
      exact decide_eq_decide.mpr (by simp)
    rw [ek]
    cases h3 : isKind (wd s1.r) with
    | true =>
      rw [if_pos h3] at hres
      have ner : s1.r ≠ [] := fun z => by
        rw [z] at h3
        cases h3
      refine iteT ⟨_, rfl, p, CR, dx, _, _, rfl, B.o.ob, X.cl, X.nL, fR_lev, .inl ⟨rfl, _, SqL.of B.lvl⟩, ?_⟩
      refine ⟨_, rfl, p, dx, _, rfl, B.o.ob, no_m (by decide +kernel), p, dx, wl, lv, bd, fin, pr1, s1, L1, H0, rfl, D, ner, fun qs r2 bd2 hqs H3 pr2 qa B2 q0 qout hqa eb ndb lpr lbd => fun x dxl nx ndx nex => ?_, fun c hc H' d s' nd' hx => ?_⟩
      · rw [hqs] at hres
        have hqa' : QsAt H3 qa qs := hqa
        refine ⟨x, dxl, qa, false, rfl, upd_same, fun H4 c s' kx nc ns ncs ob hc hs => ⟨rfl, ?_⟩⟩
        obtain ⟨sm4, hl4, n4, nd4⟩ := made_level B2 (Same.refl H3) hqa' qout q0 nx ndx nex kx nc ns ncs ob hc hs
        have hlv4 := sm4 _ _ B2.lvl
        refine ⟨lv, _, _, rfl, rfl, hlv4, ?_, ?_⟩
        · rw [List.length_reverse, List.length_map, B2.at_.len]
          exact fewlv (wt_len _)
        · have B5 := B2.push sm4 hl4 n4 nd4
          show ∃ m', m' < s1.r.length ∧ _
          have hlt := qloop_le _ _ _ _ _ _ _ _ hqs
          have htl := tail_le s1.r
          refine ⟨r2.length, by omega, ⟨r2, newL qs false :: s1.lv, bd2⟩, _, pr2, _, rfl, rfl, ⟨B5, ⟨?_, ndb⟩, ?_, lbd⟩, List.cons_ne_nil _ _, hres⟩
          · show bd2 = bnames s1.lv ++ qs.map (·.2)
            rw [eb, D.bo.1]
          · have f2 := D.few
            show (1 + qs.length + 0 + 0 + 0) + wt s1.lv ≤ _
            omega
      · rw [hc] at hres
        exact qx c hres.symm H' d s' nd' hx
    | false =>
      rw [if_neg (by rw [h3]; exact Bool.false_ne_true)] at hres
      refine iteF ?_
      exact q s1 hres.symm H1 pr1 L1 D hne
end
end Lo
namespace Lo
open PySem L2 Fx
theorem closedF_ne (fin : Nat) : ∀ (ls : List Lvl) (r : Tk) (bd : List Cs) (f : Fm) (s : Ps), closedF fin ls r bd f = .ok (.inl s) → s.lv ≠ []
  | [], _, _, _, _, h => by cases h
  | l :: ls, r, bd, f, s, h => by
    unfold closedF at h
    split at h
    · cases h
      exact List.cons_ne_nil _ _
    split at h
    · cases h
      exact List.cons_ne_nil _ _
    split at h
    · cases h
    split at h
    · cases h
    dsimp only at h
    split at h
    · cases h
    · exact closedF_ne fin ls _ _ _ _ h
theorem keep_ne {p y z : Addr} {Ha Hb : Hp} {o : HO} (k : KeepX p Ha Hb) (ha : Ha z = some o) (nz : z ≠ p) (hb : Hb y = none) : z ≠ y := fun e => by
  have := k _ _ ha nz
  rw [e, hb] at this
  cases this
section
variable {P : Program} {w : World} {K : PySem.W.Frag} {mg : Str → Option Value} {base : Heap}
/-! ### formula -/
def spFormula (CR CL CB : Addr) : Sp := fun vs H Q E => ∃ (p dx wl lv bd : Addr) (fin : Nat) (pr : Tk) (s : Ps) (L : List LvA) (H0 : Hp),
  vs = [.ref p] ∧ RdS CR CL H0 H p dx wl lv bd fin pr s L ∧ s.lv ≠ [] ∧
  (∀ f, Fx.run fin s = .ok f → ∀ H' v, Same H0 H' → FAt H' f v → Q v H') ∧
  (∀ c, Fx.run fin s = .error c → ∀ H' d, Same H0 H' → H0 d = none → H' d = some (.xd (btF c)) → E (.ref CB) (some d) H')
abbrev nFormula : List Str := ["self", "found"]
theorem scFormula : FnScope nFormula ["self"] (defScope sFormula) := ⟨rfl, rfl, rfl, by decide +kernel, rfl, by decide +kernel, by decide +kernel⟩
theorem ok_formula {f fO fC fD CR CL CB : Addr} {fd fdO fdC fdD : FuncData} (F : Fun K "formula" "FormulaReader.formula" sFormula f fd) (X : RCls K CR)
    (GO : FnOk P w K mg base (L2.CX P w) 6 fO fdO ["self"] (spOpenL CR CL CB)) (bO : Binds K fdO ["self"] []) (mO : Meth K CR "open_levels" fO)
    (GC : FnOk P w K mg base (L2.CX P w) 7 fC fdC ["self"] (spCompar CR CB)) (bC : Binds K fdC ["self"] []) (mC : Meth K CR "comparison" fC)
    (GD : FnOk P w K mg base (L2.CX P w) 6 fD fdD ["self", "formula"] (spClosed CR CL CB)) (bD : Binds K fdD ["self", "formula"] []) (mD : Meth K CR "closed" fD) : FnOk P w K mg base (L2.CX P w) 8 f fd ["self"] (spFormula CR CL CB) := by
  refine F.okX scFormula (fun vs H Q E h => ?_) (fun cdv A outer s H vs Q E hr h => ?_)
  · obtain ⟨p, _, _, _, _, _, _, _, _, _, rfl, _⟩ := h
    rfl
  · obtain ⟨p, dx, wl, lv, bd, fin, pr, st, L, H0, rfl, D, hne, q, qx⟩ := h
    have nd := scFormula.nd
    refine ⟨_, pss_one (ps_while (passes_of rfl) (pt_val pe_bl)
      (pss_cons (ps_expr (pe_meth0 (pv 0) X.cl mO GO (hr.mono (by decide)) bO .nil (passes_call (takes_of rfl rfl rfl rfl) fun _ _ _ _ h => h)))
      (pss_cons (ps_set (i := 1) nd rfl (.inl rfl) (pe_meth (pv 0) X.cl mD GD (hr.mono (by decide)) bD .nil (passes_call (takes_of rfl rfl rfl rfl) fun _ _ _ _ h => h)
          (pa_cons (pe_meth0 (pv 0) X.cl mC GC hr bC .nil (passes_call (takes_of rfl rfl rfl rfl) fun _ _ _ _ h => h)) pa_nil)))
      (pss_one (ps_if (pt_cmpR op_notN (pv 1) pe_non (nomark _)) (pss_one (ps_ret (pv 1))) pss_nil))))), ?_⟩
    refine ⟨fun m σ H' => ∃ (s' : Ps) (L' : List LvA) (pr' : Tk) (y1 : Option V), m = s'.r.length ∧ σ = [some (.ref p), y1] ∧ RdS CR CL H0 H' p dx wl lv bd fin pr' s' L' ∧ s'.lv ≠ [] ∧ Fx.run fin s' = Fx.run fin st,
      ⟨_, st, L, pr, none, rfl, rfl, D, hne, rfl⟩, ?_⟩
    generalize Fx.run fin st = RES at q qx
    clear D hne
    rintro m σ H1 ⟨s1, L1, pr1, y1, rfl, rfl, D, hne, hres⟩
    rw [run_eq] at hres
    refine ⟨true, rfl, iteT ⟨fun σ' H' => ∃ m', m' < s1.r.length ∧ ∃ (s' : Ps) (L' : List LvA) (pr' : Tk) (y1 : Option V), m' = s'.r.length ∧ σ' = [some (.ref p), y1] ∧ RdS CR CL H0 H' p dx wl lv bd fin pr' s' L' ∧ s'.lv ≠ [] ∧ Fx.run fin s' = RES, fun _ _ h => h, ?_⟩⟩
    refine ⟨_, rfl, p, dx, _, rfl, D.b.o.ob, no_m (by decide +kernel), p, dx, wl, lv, bd, fin, pr1, s1, L1, H0, rfl, D, hne, fun s2 h2 H2 pr2 L2 D2 hne2 => ?_, fun c hc H' d s' nd' hx => ?_⟩
    · rw [h2] at hres
      dsimp only at hres
      have le2 := openN_le _ _ _ _ h2
      refine ⟨_, rfl, p, dx, _, rfl, D2.b.o.ob, no_m (by decide +kernel), ?_⟩
      refine ⟨_, rfl, p, dx, _, rfl, D2.b.o.ob, no_m (by decide +kernel), p, dx, wl, lv, bd, fin, pr2, s2.r, H0, rfl, D2.b.o, D2.b.same, D2.b.free p (by simp), fun f r3 hf H3 v pr3 kx3 e3 D3 hv => ?_, fun c hc H' d s' nd' hx => ?_⟩
      · rw [hf] at hres
        dsimp only at hres
        have two := cmpr_two hf
        have le := congrArg List.length e3
        rw [List.length_append, List.length_append] at le
        have D4 : RdS CR CL H0 H3 p dx wl lv bd fin pr3 ⟨r3, s2.lv, s2.bd⟩ L2 := D2.move kx3 D3 (by omega)
        refine ⟨p, dx, wl, lv, bd, fin, pr3, ⟨r3, s2.lv, s2.bd⟩, L2, f, v, H0, rfl, D4, by have := D2.few.1; show wt s2.lv + 2 ≤ _; omega, hne2, hv, fun s3 h3 H5 L5 pr5 D5 => ?_, fun g h3 H5 v5 s5 hv5 => ?_, fun c hc H' d s' nd' hx => ?_⟩
        · have h3' : closedF fin s2.lv r3 s2.bd f = .ok (.inl s3) := h3
          rw [h3'] at hres
          dsimp only at hres
          have le5 := closedF_le _ _ _ _ _ _ h3'
          refine ⟨_, rfl, rfl, _, rfl, iteF ⟨s3.r.length, by omega, s3, L5, pr5, _, rfl, rfl, D5, closedF_ne _ _ _ _ _ _ h3', hres⟩⟩
        · have h3' : closedF fin s2.lv r3 s2.bd f = .ok (.inr g) := h3
          rw [h3'] at hres
          obtain ⟨qq, rfl⟩ := fat_ref hv5
          exact ⟨_, rfl, rfl, _, rfl, iteT ⟨_, rfl, q g hres.symm H5 _ s5 hv5⟩⟩
        · have h3' : closedF fin s2.lv r3 s2.bd f = .error c := hc
          rw [h3'] at hres
          exact qx c hres.symm H' d s' nd' hx
      · rw [hc] at hres
        exact qx c hres.symm H' d s' nd' hx
    · rw [hc] at hres
      exact qx c hres.symm H' d s' nd' hx
/-! ### FormulaReader.__init__ -/
def spRdInit (CR CL CB : Addr) : Sp := fun vs H Q E => ∃ (p dx : Addr) (t : Str) (H0 : Hp), vs = [.ref p, .str t] ∧ t.length ≤ 1000000 ∧ H p = some (.ins CR dx []) ∧ Same H0 H ∧ H0 p = none ∧
  (∀ ts, lex (cs t) 1 = .ok ts → ∀ H' wl lv bd L, RdS CR CL H0 H' p dx wl lv bd (t.length + 1) [] ⟨ts, [newL [] false], []⟩ L → Q .non H') ∧
  (∀ c, lex (cs t) 1 = .error c → ∀ H' d, Same H0 H' → H0 d = none → H' d = some (.xd (btF c)) → E (.ref CB) (some d) H')
theorem scRdInit : FnScope ["self", "text"] ["self", "text"] (defScope sRdInit) := ⟨rfl, rfl, rfl, by decide +kernel, rfl, by decide +kernel, by decide +kernel⟩
theorem fR1 {a : V} : putF "words" a [] = ([("words", a)] : List (Str × V)) := rfl
theorem fR2 {a b : V} : putF "at" b [("words", a)] = ([("words", a), ("at", b)] : List (Str × V)) := by rw [pf1 (by decide +kernel)]; rfl
theorem fR3 {a b c : V} : putF "end" c [("words", a), ("at", b)] = ([("words", a), ("at", b), ("end", c)] : List (Str × V)) := by rw [pf1 (by decide +kernel), pf1 (by decide +kernel)]; rfl
theorem fR4 {a b c d : V} : putF "levels" d [("words", a), ("at", b), ("end", c)] = ([("words", a), ("at", b), ("end", c), ("levels", d)] : List (Str × V)) := by rw [pf1 (by decide +kernel), pf1 (by decide +kernel), pf1 (by decide +kernel)]; rfl
theorem fR5 {a b c d e : V} : putF "bound" e [("words", a), ("at", b), ("end", c), ("levels", d)] = ([("words", a), ("at", b), ("end", c), ("levels", d), ("bound", e)] : List (Str × V)) := by rw [pf1 (by decide +kernel), pf1 (by decide +kernel), pf1 (by decide +kernel), pf1 (by decide +kernel)]; rfl
theorem ok_rdinit {f fW fLI CR CL CB : Addr} {fd fdW fdL : FuncData} (F : Fun K "__init__" "FormulaReader.__init__" sRdInit f fd) (T : Blt mg) (X : RCls K CR) (Y : LCls K mg CL fLI)
    (GW : FnOk P w K mg base (L2.CX P w) 4 fW fdW ["text"] (spWordsOf CB)) (kW : PySem.W.keepIn K (.ref fW) = true) (bW : Binds K fdW ["text"] []) (gW : mg "words_of" = some (.ref fW))
    (GL : FnOk P w K mg base CX0 1 fLI fdL ["self", "quantifiers", "closes"] (spLvInit CL)) (bL : Binds K fdL ["self", "quantifiers", "closes"] []) : FnOk P w K mg base (L2.CX P w) 5 f fd ["self", "text"] (spRdInit CR CL CB) := by
  refine F.okX scRdInit (fun vs H Q E h => ?_) (fun cdv A outer s H vs Q E hr h => ?_)
  · obtain ⟨p, _, _, _, rfl, _⟩ := h
    rfl
  · obtain ⟨p, dx, t, H0, rfl, ht, hp, s0, np0, q, qx⟩ := h
    refine ⟨_, pss_cons (ps_fld (pv 0) (pe_callS GW hr (by rfl) gW kW bW (fun σ => passAt (takes_of rfl rfl rfl rfl) σ) (pa_cons (pv 1) pa_nil)) rfl)
      (pss_cons (ps_fld (pv 0) pe_int rfl)
      (pss_cons (ps_fld (pv 0) (pe_op op_add (pe_callB call_len_str (by rfl) T.len PySem.boot_len (pa_cons (pv 1) pa_nil)) pe_int) rfl)
      (pss_cons (ps_fld (pv 0) (pe_lst (pa_cons (pe_make Y.make GL (hr.mono (by decide)) (by rfl) Y.mg bL .nil pass0 (pa_cons (pe_lst pa_nil) (pa_cons pe_bl pa_nil))) pa_nil)) rfl)
      (pss_one (ps_fld (pv 0) pe_dnewK rfl))))), ?_⟩
    refine ⟨_, rfl, t, rfl, ht, fun ts hlex H1 wl s1 nwl hW => ?_, fun c hc H' d s' nd' hx => qx c hc H' d (s0.trans s') (s0.free nd') hx⟩
    obtain ⟨tok1, tok2⟩ := lex_toks _ _ _ ts (Nat.le_refl _) hlex
    have hp1 := s1 _ _ hp
    have npw : wl ≠ p := fun z => by rw [z, hp] at nwl; cases nwl
    refine ⟨_, rfl, p, CR, dx, [], rfl, hp1, X.cl, X.nW, by decide, ?_⟩
    rw [fR1]
    have k2 : KeepX p H1 (upd H1 p (.ins CR dx [("words", .ref wl)])) := KeepX.upd
    have hp2 : upd H1 p (.ins CR dx [("words", .ref wl)]) p = some (.ins CR dx [("words", .ref wl)]) := upd_same
    generalize upd H1 p (.ins CR dx [("words", .ref wl)]) = H2 at k2 hp2 ⊢
    refine ⟨_, rfl, p, CR, dx, _, rfl, hp2, X.cl, X.nA, by show 1 < 1000; decide, ?_⟩
    rw [fR2]
    have k3 : KeepX p H2 (upd H2 p (.ins CR dx [("words", .ref wl), ("at", .int 0)])) := KeepX.upd
    have hp3 : upd H2 p (.ins CR dx [("words", .ref wl), ("at", .int 0)]) p = some (.ins CR dx [("words", .ref wl), ("at", .int 0)]) := upd_same
    generalize upd H2 p (.ins CR dx [("words", .ref wl), ("at", .int 0)]) = H3 at k3 hp3 ⊢
    refine ⟨_, rfl, t, rfl, len_sz ht, _, _, rfl, rfl, _, rfl, p, CR, dx, _, rfl, hp3, X.cl, X.nE, by show 2 < 1000; decide, ?_⟩
    rw [fR3]
    have k4 : KeepX p H3 (upd H3 p (.ins CR dx [("words", .ref wl), ("at", .int 0), ("end", .int (((t.length : Nat) : Int) + 1))])) := KeepX.upd
    have hp4 : upd H3 p (.ins CR dx [("words", .ref wl), ("at", .int 0), ("end", .int (((t.length : Nat) : Int) + 1))]) p = some (.ins CR dx [("words", .ref wl), ("at", .int 0), ("end", .int (((t.length : Nat) : Int) + 1))]) := upd_same
    generalize upd H3 p (.ins CR dx [("words", .ref wl), ("at", .int 0), ("end", .int (((t.length : Nat) : Int) + 1))]) = H4 at k4 hp4 ⊢
    have k04 : KeepX p H1 H4 := (k2.trans k3).trans k4
    have W4 := hW.keep hp1 k04
    obtain ⟨ps, w1, w2, w3⟩ := id W4
    refine ⟨Nat.zero_le _, fun qa nqa => fun x dxl nx ndx nex => ?_⟩
    have sQ := same_upd (o := HO.lst []) nqa
    have hq5 : upd H4 qa (.lst []) qa = some (.lst []) := upd_same
    have nqp : qa ≠ p := fun z => by rw [z, hp4] at nqa; cases nqa
    have nqw : qa ≠ wl := fun z => by rw [z, w1] at nqa; cases nqa
    generalize upd H4 qa (.lst []) = H5 at sQ hq5 nx ndx ⊢
    have sD := same_upd (o := HO.own x) ndx
    have nx2 : upd H5 dxl (.own x) x = none := by rw [upd_ne nex.symm]; exact nx
    have sX := same_upd (o := HO.ins CL dxl []) nx2
    have sT := sD.trans sX
    refine ⟨x, dxl, qa, true && false, rfl, upd_same, fun H6 c s' kx nc ns ncs ob hc hs => ⟨rfl, ?_⟩⟩
    have s56 : Same H5 H6 := fun b o e => kx b o (sT _ _ e) (ne_of_none e nx)
    have hp5 := sQ _ _ hp4
    have hw5 := sQ _ _ w1
    have hp6 := s56 _ _ hp5
    have nxp : x ≠ p := fun z => by rw [z, hp5] at nx; cases nx
    have nxw : x ≠ wl := fun z => by rw [z, hw5] at nx; cases nx
    have nxq : x ≠ qa := fun z => by rw [z, hq5] at nx; cases nx
    have nc5 : H5 c = none := sT.free nc
    have ns5 : H5 s' = none := sT.free ns
    have ncx : c ≠ x := fun z => by rw [z, upd_same] at nc; cases nc
    have nsx : s' ≠ x := fun z => by rw [z, upd_same] at ns; cases ns
    have fr5 : ∀ {y : Addr}, H5 y = none → y ≠ p ∧ y ≠ wl ∧ y ≠ qa := fun {y} e => ⟨(fun z => by rw [z, hp5] at e; cases e), (fun z => by rw [z, hw5] at e; cases e), (fun z => by rw [z, hq5] at e; cases e)⟩
    refine ⟨by show 1 ≤ sizeLine; decide, fun la nla => ?_⟩
    have sL := same_upd (o := HO.lst [.ref x]) nla
    have hl7 : upd H6 la (.lst [.ref x]) la = some (.lst [.ref x]) := upd_same
    have nl6 : H6 la = none := nla
    generalize upd H6 la (.lst [.ref x]) = H7 at sL hl7 ⊢
    have hp7 := sL _ _ hp6
    refine ⟨_, rfl, p, CR, dx, _, rfl, hp7, X.cl, X.nL, by show 3 < 1000; decide, ?_⟩
    rw [fR4]
    have k8 : KeepX p H7 (upd H7 p (.ins CR dx [("words", .ref wl), ("at", .int 0), ("end", .int (((t.length : Nat) : Int) + 1)), ("levels", .ref la)])) := KeepX.upd
    have hp8 : upd H7 p (.ins CR dx [("words", .ref wl), ("at", .int 0), ("end", .int (((t.length : Nat) : Int) + 1)), ("levels", .ref la)]) p = some (.ins CR dx [("words", .ref wl), ("at", .int 0), ("end", .int (((t.length : Nat) : Int) + 1)), ("levels", .ref la)]) := upd_same
    generalize upd H7 p (.ins CR dx [("words", .ref wl), ("at", .int 0), ("end", .int (((t.length : Nat) : Int) + 1)), ("levels", .ref la)]) = H8 at k8 hp8 ⊢
    refine fun ba nba => ?_
    have sB := same_upd (o := HO.dK []) nba
    have nb8 : H8 ba = none := nba
    have hb9 : upd H8 ba (.dK []) ba = some (.dK []) := upd_same
    generalize upd H8 ba (.dK []) = H9 at sB hb9 ⊢
    have hp9 := sB _ _ hp8
    refine ⟨_, rfl, p, CR, dx, _, rfl, hp9, X.cl, X.nB, by show 4 < 1000; decide, ?_⟩
    rw [fR5]
    have k10 : KeepX p H9 (upd H9 p (.ins CR dx [("words", .ref wl), ("at", .int 0), ("end", .int (((t.length : Nat) : Int) + 1)), ("levels", .ref la), ("bound", .ref ba)])) := KeepX.upd
    have hp10 : upd H9 p (.ins CR dx [("words", .ref wl), ("at", .int 0), ("end", .int (((t.length : Nat) : Int) + 1)), ("levels", .ref la), ("bound", .ref ba)]) p = some (.ins CR dx (fR wl 0 (t.length + 1) la ba)) := by
      rw [upd_same]
      rfl
    generalize upd H9 p (.ins CR dx [("words", .ref wl), ("at", .int 0), ("end", .int (((t.length : Nat) : Int) + 1)), ("levels", .ref la), ("bound", .ref ba)]) = H10 at k10 hp10 ⊢
    -- from the sixth to the last
    have k6 : KeepX p H6 H10 := (((KeepX.of sL).trans k8).trans (KeepX.of sB)).trans k10
    have k4' : KeepX p H4 H10 := (KeepX.of (sQ.trans s56)).trans k6
    have fr6 : ∀ {y z : Addr} {o : HO}, H6 z = some o → H6 y = none → z ≠ y := fun h1 h2 e => by rw [e, h2] at h1; cases h1
    have hw6 := s56 _ _ hw5
    have hq6 := s56 _ _ hq5
    have c6p := fr5 nc5
    have s6p := fr5 ns5
    have lnp := fr6 hp6 nl6
    have lnw := fr6 hw6 nl6
    have lnq := fr6 hq6 nl6
    have lnx := fr6 ob nl6
    have lnc := fr6 hc nl6
    have lns := fr6 hs nl6
    have k68 : KeepX p H6 H8 := (KeepX.of sL).trans k8
    have bne : ∀ {z : Addr} {o : HO}, H6 z = some o → z ≠ p → z ≠ ba := fun h1 h2 => keep_ne k68 h1 h2 nb8
    have bnp : p ≠ ba := fun e => by rw [← e, hp8] at nb8; cases nb8
    have bnl : la ≠ ba := keep_ne k8 hl7 (Ne.symm lnp) nb8
    refine q ts hlex H10 wl la ba [⟨x, qa, c, s', dxl⟩] ⟨⟨⟨hp10, (WordsAt.keep hp4 k4' W4), fun t1 ht1 => ⟨Nat.le_trans (tok1 t1 ht1).1 (by rw [cs_len]; exact ht), (tok1 t1 ht1).2⟩, by rw [List.nil_append]; exact Nat.le_trans tok2 (by rw [cs_len]; exact ht)⟩, ?_, ?_, ?_, ?_, ?_, ?_⟩, ⟨rfl, List.nodup_nil⟩, by show 1 + 0 + 0 + 0 + 0 + 0 ≤ 0 + 1; decide, Nat.le_refl _⟩
    · exact ((k8.trans (KeepX.of sB)).trans k10) _ _ hl7 (Ne.symm lnp)
    · exact k10 _ _ hb9 (Ne.symm bnp)
    · refine ⟨newL [] false, [], rfl, ⟨k6 _ _ ob nxp, ⟨[], k6 _ _ hq6 nqp, rfl, fun i p q e => nomatch e⟩, ⟨[], k6 _ _ hc c6p.1, rfl⟩, [], k6 _ _ hs s6p.1, rfl⟩, rfl⟩
    · simp only [adr, List.nodup_cons, List.mem_cons, List.not_mem_nil, or_false, not_or, not_false_eq_true, and_true]
      exact ⟨⟨Ne.symm npw, lnp, bnp, Ne.symm nxp, Ne.symm nqp, Ne.symm c6p.1, Ne.symm s6p.1⟩, ⟨lnw, bne hw6 npw, Ne.symm nxw, Ne.symm nqw, Ne.symm c6p.2.1, Ne.symm s6p.2.1⟩, ⟨bnl, Ne.symm lnx, Ne.symm lnq, Ne.symm lnc, Ne.symm lns⟩,
        ⟨Ne.symm (bne ob nxp), Ne.symm (bne hq6 nqp), Ne.symm (bne hc c6p.1), Ne.symm (bne hs s6p.1)⟩, ⟨nxq, Ne.symm ncx, Ne.symm nsx⟩, ⟨Ne.symm c6p.2.2, Ne.symm s6p.2.2⟩, ncs, trivial, List.nodup_nil⟩
    · have keep0 : ∀ {y : Addr} {Hk : Hp}, KeepX p H Hk → Hk y = none → H0 y = none := fun {y Hk} k e => by
        cases e0 : H0 y with
        | none => rfl
        | some o =>
          have := k _ _ (s0 _ _ e0) (ne_of_none e0 np0)
          rw [e] at this
          cases this
      have kH4 : KeepX p H H4 := (KeepX.of s1).trans k04
      have kH5 : KeepX p H H5 := kH4.trans (KeepX.of sQ)
      have kH6 : KeepX p H H6 := kH5.trans (KeepX.of s56)
      intro y hy
      simp only [adr, List.mem_cons, List.not_mem_nil, or_false] at hy
      rcases hy with rfl | rfl | rfl | rfl | rfl | rfl | rfl | rfl
      · exact np0
      · exact s0.free nwl
      · exact keep0 kH6 nl6
      · exact keep0 (kH6.trans k68) nb8
      · exact keep0 kH5 nx
      · exact keep0 kH4 nqa
      · exact keep0 kH5 nc5
      · exact keep0 kH5 ns5
    · exact KeepX.same s0 np0 (((KeepX.of s1).trans k04).trans k4')
/-! ### read_formula -/
def spReadF (CB : Addr) : Sp := fun vs H Q E => ∃ (t : Str), vs = [.str t] ∧ t.length ≤ 1000000 ∧
  (∀ f, readF (cs t) = .ok f → ∀ H' v, Same H H' → FAt H' f v → Q v H') ∧
  (∀ c, readF (cs t) = .error c → ∀ H' d, Same H H' → H d = none → H' d = some (.xd (btF c)) → E (.ref CB) (some d) H')
theorem scReadF : FnScope ["text"] ["text"] (defScope sReadF) := ⟨rfl, rfl, rfl, by decide +kernel, rfl, by decide +kernel, by decide +kernel⟩
theorem ok_readf {f fI fO CR CL CB : Addr} {fd fdI fdO : FuncData} (F : Fun K "read_formula" "read_formula" sReadF f fd) (X : RCls K CR) (M : Mk K CR fI) (mgR : mg "FormulaReader" = some (.ref CR))
    (GI : FnOk P w K mg base (L2.CX P w) 5 fI fdI ["self", "text"] (spRdInit CR CL CB)) (bI : Binds K fdI ["self", "text"] [])
    (GO : FnOk P w K mg base (L2.CX P w) 8 fO fdO ["self"] (spFormula CR CL CB)) (bO : Binds K fdO ["self"] []) (mO : Meth K CR "formula" fO) : FnOk P w K mg base (L2.CX P w) 9 f fd ["text"] (spReadF CB) := by
  refine F.okX scReadF (fun vs H Q E h => ?_) (fun cdv A outer s H vs Q E hr h => ?_)
  · obtain ⟨t, rfl, _⟩ := h
    rfl
  · obtain ⟨t, rfl, ht, q, qx⟩ := h
    refine ⟨_, pss_one (ps_ret (pe_meth0 (pe_make M GI (hr.mono (by decide)) (by rfl) mgR bI .nil (passes_call (takes_of rfl rfl rfl rfl) fun _ _ _ _ h => h) (pa_cons (pv 0) pa_nil)) X.cl mO GO hr bO .nil (passes_call (takes_of rfl rfl rfl rfl) fun _ _ _ _ h => h))), ?_⟩
    refine ⟨_, rfl, fun x dx nx ndx nex => ?_⟩
    have sD := same_upd (o := HO.own x) ndx
    have nx2 : upd H dx (.own x) x = none := by rw [upd_ne nex.symm]; exact nx
    have sX := same_upd (o := HO.ins CR dx []) nx2
    refine ⟨x, dx, t, H, rfl, ht, upd_same, sD.trans sX, nx, fun ts hlex H' wl lv bd L D => ⟨rfl, ?_⟩, fun c hc H' d s' nd' hx => ?_⟩
    · refine ⟨x, dx, _, rfl, D.b.o.ob, no_m (by decide +kernel), x, dx, wl, lv, bd, t.length + 1, [], _, L, H, rfl, D, List.cons_ne_nil _ _, fun f hf H2 v s2 hv => ?_, fun c hc H2 d s2 nd' hx => ?_⟩
      · refine q f ?_ H2 v s2 hv
        unfold readF
        rw [hlex, cs_len]
        exact hf
      · refine qx c ?_ H2 d s2 nd' hx
        unfold readF
        rw [hlex, cs_len]
        exact hc
    · refine qx c ?_ H' d s' nd' hx
      unfold readF
      rw [hc]
end
end Lo
namespace Lo
open PySem L2 Fx
def joinC (y : Cs) : List Cs → Cs
  | [] => []
  | [p] => p
  | p :: q :: r => p ++ (y ++ joinC y (q :: r))
theorem glueL_cs (y : Cs) : ∀ (p : Cs) (l : List Cs), p ++ PySem.StrLaws.glueL y (l.map mkS) = joinC y (p :: l)
  | p, [] => by simp [PySem.StrLaws.glueL, joinC]
  | p, z :: r => by
    have ih := glueL_cs y z r
    show p ++ PySem.StrLaws.glueL y (mkS z :: r.map mkS) = p ++ (y ++ joinC y (z :: r))
    rw [← ih]
    congr 1
theorem join_cs (y : Cs) (l : List Cs) : Txt.join (mkS y) (l.map mkS) = mkS (joinC y l) := by
  cases l with
  | nil => rfl
  | cons p r =>
    refine cs_inj ?_
    rw [cs_mkS]
    have h := PySem.StrLaws.glued_list (mkS y) (mkS p) (r.map mkS)
    have h2 : cs (Txt.join (mkS y) ((p :: r).map mkS)) = PySem.StrLaws.glueT (mkS y).cps.toList (mkS p :: r.map mkS) := h
    rw [h2, show (mkS y).cps.toList = y from cs_mkS y, ← glueL_cs y p r]
    show (mkS p).cps.toList ++ _ = _
    rw [show (mkS p).cps.toList = p from cs_mkS p]
theorem join_nil : ∀ l : List Cs, joinC [] l = l.flatten
  | [] => rfl
  | [_] => by simp [joinC]
  | x :: z :: r => by
    show x ++ ([] ++ joinC [] (z :: r)) = _
    rw [join_nil (z :: r)]
    rfl
theorem join_sp : ∀ (n : Cs) (l : List Cs), 32 :: joinC [32] (n :: l) = spaced (n :: l)
  | n, [] => by simp [joinC, spaced]
  | n, z :: r => by
    show 32 :: (n ++ (32 :: joinC [32] (z :: r))) = 32 :: n ++ spaced (z :: r)
    rw [join_sp z r]
    rfl
theorem str_int {k : Int} (h : k.natAbs ≤ 9) : (Str.ofString (toString k)) = mkS (if k < 0 then 45 :: dig k else dig k) := by
  have : k = -9 ∨ k = -8 ∨ k = -7 ∨ k = -6 ∨ k = -5 ∨ k = -4 ∨ k = -3 ∨ k = -2 ∨ k = -1 ∨ k = 0 ∨ k = 1 ∨ k = 2 ∨ k = 3 ∨ k = 4 ∨ k = 5 ∨ k = 6 ∨ k = 7 ∨ k = 8 ∨ k = 9 := by omega
  rcases this with rfl | rfl | rfl | rfl | rfl | rfl | rfl | rfl | rfl | rfl | rfl | rfl | rfl | rfl | rfl | rfl | rfl | rfl | rfl <;> decide +kernel
theorem log9 {k : Int} (h : k.natAbs ≤ 9) : k.natAbs.log2 < 1920 := Nat.lt_of_le_of_lt (Nat.log2_le_self _) (by omega)
theorem small_sz {n : Nat} (h : n ≤ 1000000) : n ≤ sizeLine := Nat.le_trans h (by decide)
theorem mk_empty : Str.empty = mkS [] := rfl
section
variable {P : Program} {w : World} {K : PySem.W.Frag} {mg : Str → Option Value} {base : Heap}
/-! ### _term -/
def spTermT (K : PySem.W.Frag) : Sp := fun vs H Q _ => ∃ (a : Addr) (n : Cs) (k : Int), vs = [.ref a] ∧ H a = some (.tup [.str (mkS n), .int k]) ∧ atomOk n k ∧ Q (.str (mkS (atomT plain n k))) H
abbrev nTermT : List Str := ["atom", "name", "shift"]
theorem scTermT : FnScope nTermT ["atom"] (defScope sTermT) := ⟨rfl, rfl, rfl, by decide +kernel, rfl, by decide +kernel, by decide +kernel⟩
theorem name_len {n : Cs} {k : Int} (a : atomOk n k) : n.length ≤ 8 := by
  rcases a.1 with rfl | h
  · decide
  · exact h.2.2.1
theorem dig_pos {k : Int} (h : ¬ k < 0) : dig k = dig k := rfl
theorem dig_neg (k : Int) : dig (-k) = dig k := by
  unfold dig
  rw [Int.natAbs_neg]
theorem ok_termt {f : Addr} {fd : FuncData} (F : Fun K "_term" "_term" sTermT f fd) (T : Blt mg) : FnOk P w K mg base CX0 1 f fd ["atom"] (spTermT K) := by
  refine F.ok scTermT (fun vs H Q E h => ?_) (fun cdv A outer s H vs Q E hr h => ?_)
  · obtain ⟨a, n, k, rfl, _⟩ := h
    rfl
  · obtain ⟨a, n, k, rfl, ha, ok, q⟩ := h
    have nd := scTermT.nd
    refine ⟨_, pss_cons (ps_asg (pv 0) (pg_tup rfl (pgs_cons (pg_name (i := 1) nd rfl (.inl rfl)) (pgs_cons (pg_name (i := 2) nd rfl (.inl rfl)) pgs_nil))))
      (pss_cons (ps_if (pt_cmpR op_eq (pv 1) pe_str (nomark _)) (pss_one (ps_ret (pe_callTy call_str_int (by rfl) T.str PyProof.Rows.boot_str (pa_cons (pv 2) pa_nil)))) pss_nil)
      (pss_cons (ps_if (pt_cmpR op_eq (pv 2) pe_int (nomark _)) (pss_one (ps_ret (pv 1))) pss_nil)
      (pss_cons (ps_if (pt_cmpR op_lt (pv 2) pe_int (nomark _)) (pss_one (ps_ret (pe_joined (.cons (pe_fmt (pv 1)) (.cons pe_str (.cons (pe_fmt (pe_un un_neg (pv 2))) .nil)))))) pss_nil)
      (pss_one (ps_ret (pe_joined (.cons (pe_fmt (pv 1)) (.cons pe_str (.cons (pe_fmt (pv 2)) .nil))))))))), ?_⟩
    refine ⟨_, rfl, a, _, rfl, SqT.of ha, rfl, _, _, rfl, _, _, rfl, rfl, ?_⟩
    refine ⟨_, rfl, rfl, _, rfl, ?_⟩
    rw [mk_zero, dec_mk]
    unfold atomT at q
    have lk := log9 ok.2
    have ln := name_len ok
    by_cases h0 : n = [48]
    · rw [decide_eq_true h0]
      rw [if_pos (show n = w0 from h0)] at q
      refine iteT ⟨_, rfl, k, rfl, lk, ?_⟩
      rw [str_int ok.2]
      exact q
    · rw [decide_eq_false h0]
      rw [if_neg (show ¬ n = w0 from h0)] at q
      refine iteF ⟨_, rfl, rfl, _, rfl, ?_⟩
      by_cases hk : k = 0
      · rw [decide_eq_true (by rw [hk])]
        rw [if_pos hk] at q
        exact iteT ⟨_, rfl, q⟩
      · rw [decide_eq_false (fun z => hk (V.int.inj z))]
        rw [if_neg hk] at q
        refine iteF ⟨_, rfl, _, _, rfl, rfl, _, rfl, ?_⟩
        have lt1 : (mkS n).length ≤ sizeLine := by rw [mkS_len]; exact small_sz (by omega)
        have e1 : (" - " : Str) = mkS [32, 45, 32] := by decide +kernel
        have e2 : (" + " : Str) = mkS [32, 43, 32] := by decide +kernel
        by_cases hn : k < 0
        · rw [decide_eq_true hn]
          rw [if_pos hn] at q
          refine iteT ?_
          refine ⟨_, rfl, .inl ⟨_, rfl, lt1, _, rfl, ?_, _, rfl, ?_, ?_⟩⟩
          · rw [mk_empty, mkS_app, mkS_len]
            exact small_sz (by rw [List.nil_append]; omega)
          · rw [mk_empty, mkS_app, e1, mkS_app, mkS_len]
            exact small_sz (by rw [List.length_append]; simp; omega)
          · refine ⟨_, rfl, k, rfl, .inr ⟨-k, rfl, by rw [Int.natAbs_neg]; exact lk, _, rfl, ?_, ?_⟩⟩
            · rw [str_int (by rw [Int.natAbs_neg]; exact ok.2), if_neg (by omega), mk_empty, mkS_app, e1, mkS_app, mkS_app, mkS_len]
              exact small_sz (by rw [List.length_append, List.length_append]; simp [dig]; omega)
            · show Q (.str _) H
              rw [str_int (by rw [Int.natAbs_neg]; exact ok.2), if_neg (by omega), mk_empty, mkS_app, e1, mkS_app, mkS_app, dig_neg]
              have e3 : [] ++ n ++ [32, 45, 32] ++ dig k = n ++ (plain.sp ++ 45 :: (plain.sp ++ dig k)) := by simp [Fx.plain]
              rw [e3]
              exact q
        · rw [decide_eq_false hn]
          rw [if_neg hn] at q
          refine iteF ?_
          refine ⟨_, rfl, .inl ⟨_, rfl, lt1, _, rfl, ?_, _, rfl, ?_, ?_⟩⟩
          · rw [mk_empty, mkS_app, mkS_len]
            exact small_sz (by rw [List.nil_append]; omega)
          · rw [mk_empty, mkS_app, e2, mkS_app, mkS_len]
            exact small_sz (by rw [List.length_append]; simp; omega)
          · refine ⟨_, rfl, .inr ⟨k, rfl, lk, _, rfl, ?_, ?_⟩⟩
            · rw [str_int ok.2, if_neg hn, mk_empty, mkS_app, e2, mkS_app, mkS_app, mkS_len]
              exact small_sz (by rw [List.length_append, List.length_append]; simp [dig]; omega)
            · show Q (.str _) H
              rw [str_int ok.2, if_neg hn, mk_empty, mkS_app, e2, mkS_app, mkS_app]
              have e3 : [] ++ n ++ [32, 43, 32] ++ dig k = n ++ (plain.sp ++ 43 :: (plain.sp ++ dig k)) := by simp [Fx.plain]
              rw [e3]
              exact q
/-! ### _enclosed -/
def WAt (H : Hp) : List Wi → List V → Prop
  | [], vs => vs = []
  | .t s :: r, vs => ∃ us, vs = .str (mkS s) :: us ∧ WAt H r us
  | .f g :: r, vs => ∃ u us, vs = u :: us ∧ FAt H g u ∧ WAt H r us
theorem WAt.keep {H H' : Hp} (k : KeepT H H') : ∀ (l : List Wi) (vs : List V), WAt H l vs → WAt H' l vs
  | [], vs, h => h
  | .t s :: r, vs, h => by
    obtain ⟨us, e, h1⟩ := h
    exact ⟨us, e, WAt.keep k r us h1⟩
  | .f g :: r, vs, h => by
    obtain ⟨u, us, e, h1, h2⟩ := h
    exact ⟨u, us, e, FAt.keep k g u h1, WAt.keep k r us h2⟩
theorem WAt.app {H : Hp} : ∀ (l : List Wi) (vs : List V) (l2 : List Wi) (vs2 : List V), WAt H l vs → WAt H l2 vs2 → WAt H (l ++ l2) (vs ++ vs2)
  | [], vs, l2, vs2, h, h2 => by
    cases h
    exact h2
  | .t s :: r, vs, l2, vs2, h, h2 => by
    obtain ⟨us, rfl, h1⟩ := h
    exact ⟨us ++ vs2, rfl, WAt.app r us l2 vs2 h1 h2⟩
  | .f g :: r, vs, l2, vs2, h, h2 => by
    obtain ⟨u, us, rfl, h0, h1⟩ := h
    exact ⟨u, us ++ vs2, rfl, h0, WAt.app r us l2 vs2 h1 h2⟩
theorem WAt.len {H : Hp} : ∀ (l : List Wi) (vs : List V), WAt H l vs → vs.length = l.length
  | [], vs, h => by
    cases h
    rfl
  | .t s :: r, vs, h => by
    obtain ⟨us, rfl, h1⟩ := h
    rw [List.length_cons, List.length_cons, WAt.len r us h1]
  | .f g :: r, vs, h => by
    obtain ⟨u, us, rfl, h0, h1⟩ := h
    rw [List.length_cons, List.length_cons, WAt.len r us h1]
/-- the first word of a formula's tuple -/
def hd : Fm → Str
  | .cmp .. => ("compare" : Str)
  | .neg _ => ("not" : Str)
  | .row w _ => mkS w
  | .qu w _ _ => mkS w
theorem fat_hd {H : Hp} {f : Fm} {v : V} (h : FAt H f v) : ∃ (p : Addr) (xs : List V), v = .ref p ∧ H p = some (.tup (.str (hd f) :: xs)) := by
  cases f with
  | cmp op n1 k1 n2 k2 =>
    obtain ⟨p, a, b, e, h1, _⟩ := h
    exact ⟨p, _, e, h1⟩
  | neg f =>
    obtain ⟨p, u, e, h1, _⟩ := h
    exact ⟨p, _, e, h1⟩
  | row w fs =>
    obtain ⟨p, q, us, e, h1, _⟩ := h
    exact ⟨p, _, e, h1⟩
  | qu w n f =>
    obtain ⟨p, u, e, h1, _⟩ := h
    exact ⟨p, _, e, h1⟩
theorem mk_cmp : ("compare" : Str) = mkS [99, 111, 109, 112, 97, 114, 101] := by decide +kernel
abbrev wCmp : Cs := [99, 111, 109, 112, 97, 114, 101]
def isC : Fm → Bool
  | .cmp .. => true
  | _ => false
def isN : Fm → Bool
  | .neg _ => true
  | _ => false
theorem hd_in {bd : List Cs} {f : Fm} (h : wf bd f) : decide (hd f = ("compare" : Str)) = isC f ∧ decide (hd f = ("not" : Str)) = isN f := by
  cases f with
  | cmp op n1 k1 n2 k2 =>
    show decide (("compare" : Str) = ("compare" : Str)) = true ∧ decide (("compare" : Str) = ("not" : Str)) = false
    exact ⟨by decide +kernel, by decide +kernel⟩
  | neg f =>
    show decide (("not" : Str) = ("compare" : Str)) = false ∧ decide (("not" : Str) = ("not" : Str)) = true
    exact ⟨by decide +kernel, by decide +kernel⟩
  | row w fs =>
    show decide (mkS w = ("compare" : Str)) = false ∧ decide (mkS w = ("not" : Str)) = false
    rcases h.1 with rfl | rfl <;> exact ⟨by decide +kernel, by decide +kernel⟩
  | qu w n f =>
    show decide (mkS w = ("compare" : Str)) = false ∧ decide (mkS w = ("not" : Str)) = false
    rcases h.1 with rfl | rfl <;> exact ⟨by decide +kernel, by decide +kernel⟩
def spEnclosed : Sp := fun vs H Q _ => ∃ (v : V) (g : Fm), vs = [v] ∧ FAt H g v ∧ (∃ bd, wf bd g) ∧ ∀ H' L us, Same H H' → H L = none → H' L = some (.lst us) → WAt H' (encW g) us → Q (.ref L) H'
theorem scEnclosed : FnScope ["formula"] ["formula"] (defScope sEnclosed) := ⟨rfl, rfl, rfl, by decide +kernel, rfl, by decide +kernel, by decide +kernel⟩
theorem ok_enclosed {f : Addr} {fd : FuncData} (F : Fun K "_enclosed" "_enclosed" sEnclosed f fd) : FnOk P w K mg base CX0 1 f fd ["formula"] spEnclosed := by
  refine F.ok scEnclosed (fun vs H Q E h => ?_) (fun cdv A outer s H vs Q E hr h => ?_)
  · obtain ⟨v, g, rfl, _⟩ := h
    rfl
  · obtain ⟨v, g, rfl, hg, ⟨bd, hw⟩, q⟩ := h
    refine ⟨_, pss_cons (ps_if (pt_cmpR op_in_seq (pe_ix ix_tup (pv 0) pe_int (fun _ _ => rfl)) (pe_tup (pa_cons pe_str (pa_cons pe_str pa_nil))) (by rfl)) (pss_one (ps_ret (pe_lst (pa_cons (pv 0) pa_nil)))) pss_nil)
      (pss_one (ps_ret (pe_lst (pa_cons pe_str (pa_cons (pv 0) (pa_cons pe_str pa_nil)))))), ?_⟩
    obtain ⟨p, xs, rfl, hp⟩ := fat_hd hg
    obtain ⟨d1, d2⟩ := hd_in hw
    refine ⟨_, rfl, p, _, 0, _, rfl, rfl, SqT.of hp, atI_nat (j := 0) rfl, by show 2 ≤ sizeLine; decide, fun t nt => ?_⟩
    have sT := same_upd (o := HO.tup [.str ("compare" : Str), .str ("not" : Str)]) nt
    refine ⟨t, [.str ("compare" : Str), .str ("not" : Str)], rfl, .inr (SqT.of upd_same), rfl, rfl, _, rfl, ?_⟩
    have ein : inV (.str (hd g)) [.str ("compare" : Str), .str ("not" : Str)] = isCN g := by
      have e0 := inV_strs (hd g) [("compare" : Str), ("not" : Str)]
      have e1 : decide (hd g ∈ [("compare" : Str), ("not" : Str)]) = (decide (hd g = ("compare" : Str)) || decide (hd g = ("not" : Str))) := by
        rw [← Bool.decide_or]
        exact decide_eq_decide.mpr (by simp)
      rw [show ([.str ("compare" : Str), .str ("not" : Str)] : List V) = [("compare" : Str), ("not" : Str)].map V.str from rfl, e0, e1, d1, d2]
      cases g <;> rfl
    rw [if_neg Bool.false_ne_true, ein]
    have hg' := FAt.keep (KeepT.of sT) _ _ hg
    have q' := q
    unfold encW at q'
    cases hcn : isCN g with
    | true =>
      rw [hcn, if_pos rfl] at q'
      refine iteT ⟨_, rfl, by show 1 ≤ sizeLine; decide, fun L nL => ?_⟩
      have sL := same_upd (o := HO.lst [.ref p]) nL
      exact q' _ L [.ref p] (sT.trans sL) (sT.free nL) upd_same ⟨_, _, rfl, FAt.keep (KeepT.of sL) _ _ hg', rfl⟩
    | false =>
      rw [hcn, if_neg Bool.false_ne_true] at q'
      refine iteF ⟨_, rfl, by show 3 ≤ sizeLine; decide, fun L nL => ?_⟩
      have sL := same_upd (o := HO.lst [.str ("(" : Str), .ref p, .str (")" : Str)]) nL
      refine q' _ L [.str ("(" : Str), .ref p, .str (")" : Str)] (sT.trans sL) (sT.free nL) upd_same ⟨_, by rw [mk_open], _, _, rfl, FAt.keep (KeepT.of sL) _ _ hg', _, by rw [mk_close], rfl⟩
end
end Lo
namespace Lo
open PySem L2 Fx
def wrW : Fm → List Wi
  | .cmp op n1 k1 n2 k2 => [.t (atomT Fx.plain n1 k1 ++ [32] ++ op ++ [32] ++ atomT Fx.plain n2 k2)]
  | .neg f => .t (Fx.wNot ++ [32]) :: encW f
  | .row w fs => rowW w fs
  | .qu w n f => [.t (w ++ spaced (n :: (strip w f).1) ++ [58, 32]), .f (strip w f).2]
theorem wr_text (g : Fm) : wtx (wrW g) = tx Fx.plain .top g := by
  cases g with
  | cmp op n1 k1 n2 k2 =>
    rw [tx_cmp]
    simp [wrW, wtx, preT, Fx.plain]
  | neg f =>
    rw [tx_neg]
    show (Fx.wNot ++ [32]) ++ wtx (encW f) = _
    rw [enc_text]
    simp [preT, Fx.plain]
  | row w fs =>
    rw [tx_row]
    show wtx (rowW w fs) = _
    rw [row_text]
    simp [opnT, clsT]
  | qu w n f =>
    rw [qu_text]
    simp [wrW, wtx]
theorem rowW_snoc (w : Cs) (f : Fm) : ∀ l : List Fm, rowW w (l ++ [f]) = rowW w l ++ ((if l.isEmpty then [] else [.t (32 :: (w ++ [32]))]) ++ encW f)
  | [] => by simp [rowW]
  | [x] => by simp [rowW]
  | x :: y :: l => by
    have ih := rowW_snoc w f (y :: l)
    show encW x ++ (if ((y :: l) ++ [f]).isEmpty then [] else .t (32 :: (w ++ [32])) :: rowW w ((y :: l) ++ [f])) = (encW x ++ (if (y :: l).isEmpty then [] else .t (32 :: (w ++ [32])) :: rowW w (y :: l))) ++ _
    rw [ih]
    simp
theorem encW_ne (f : Fm) : encW f ≠ [] := by
  unfold encW
  split <;> simp
theorem rowW_ne {w : Cs} {l : List Fm} (h : l ≠ []) : rowW w l ≠ [] := by
  cases l with
  | nil => exact absurd rfl h
  | cons x l =>
    intro z
    exact encW_ne x (List.append_eq_nil_iff.mp z).1
theorem encW_len (f : Fm) : (encW f).length ≤ 3 := by
  unfold encW
  split <;> simp
theorem rowW_len (w : Cs) : ∀ l : List Fm, (rowW w l).length ≤ 4 * l.length
  | [] => Nat.le_refl _
  | x :: l => by
    have ih := rowW_len w l
    have e := encW_len x
    show (encW x ++ _).length ≤ _
    rw [List.length_append, List.length_cons]
    split
    · simp only [List.length_nil]
      omega
    · simp only [List.length_cons]
      omega
theorem szs_len : ∀ l : List Fm, l.length ≤ szs l
  | [] => Nat.le_refl _
  | x :: l => by
    have := szs_len l
    simp only [szs, List.length_cons]
    omega
theorem strip_len (w : Cs) : ∀ f : Fm, (strip w f).1.length ≤ sz f
  | .cmp .. => Nat.zero_le _
  | .neg _ => Nat.zero_le _
  | .row .. => Nat.zero_le _
  | .qu w' n f => by
    rw [strip_qu]
    have := strip_len w f
    split
    · simp only [List.length_cons, sz]
      omega
    · exact Nat.zero_le _
theorem strip_small {w : Cs} : ∀ (f : Fm) (bd : List Cs), wf bd f → ∀ n ∈ (strip w f).1, n.length ≤ 8
  | .cmp .., _, _, n, h => absurd h List.not_mem_nil
  | .neg _, _, _, n, h => absurd h List.not_mem_nil
  | .row .., _, _, n, h => absurd h List.not_mem_nil
  | .qu w' n' f, bd, hw, n, h => by
    rw [strip_qu] at h
    split at h
    · rcases List.mem_cons.mp h with rfl | m
      · exact hw.2.1.2.2.1
      · exact strip_small f _ hw.2.2.2 n m
    · exact absurd h List.not_mem_nil
theorem strip_wf {w : Cs} : ∀ (f : Fm) (bd : List Cs), wf bd f → ∃ bd', wf bd' (strip w f).2
  | .cmp .., bd, h => ⟨bd, h⟩
  | .neg _, bd, h => ⟨bd, h⟩
  | .row .., bd, h => ⟨bd, h⟩
  | .qu w' n f, bd, h => by
    rw [strip_qu]
    split
    · exact strip_wf f _ h.2.2.2
    · exact ⟨bd, h⟩
theorem flat_len : ∀ {l : List Cs} {k : Nat}, (∀ n ∈ l, n.length ≤ k) → ((l.map mkS).map (·.length)).sum ≤ l.length * k
  | [], k, _ => by simp
  | x :: l, k, h => by
    have ih := flat_len (l := l) fun n hn => h n (List.mem_cons_of_mem _ hn)
    have hx := h x List.mem_cons_self
    simp only [List.map_cons, List.sum_cons, List.length_cons, mkS_len]
    rw [Nat.add_mul]
    omega
theorem joinC_len (y : Cs) : ∀ {l : List Cs} {k : Nat}, (∀ n ∈ l, n.length ≤ k) → (joinC y l).length ≤ l.length * (k + y.length)
  | [], k, _ => by simp [joinC]
  | [x], k, h => by
    have hx := h x List.mem_cons_self
    simp only [joinC, List.length_singleton]
    omega
  | x :: z :: l, k, h => by
    have ih := joinC_len y (l := z :: l) (k := k) fun n hn => h n (List.mem_cons_of_mem _ hn)
    have hx := h x List.mem_cons_self
    show (x ++ (y ++ joinC y (z :: l))).length ≤ _
    rw [List.length_append, List.length_append, List.length_cons, Nat.add_mul]
    omega
theorem FAts.get {H : Hp} : ∀ {fs : List Fm} {us : List V}, FAts H fs us → ∀ (i : Nat) (u : V), us[i]? = some u → ∃ g, fs[i]? = some g ∧ FAt H g u
  | [], us, h, i, u, e => by
    cases h
    cases e
  | f :: fs, us, h, i, u, e => by
    obtain ⟨x, xs, rfl, h1, h2⟩ := h
    cases i with
    | zero =>
      obtain rfl : x = u := by simpa using e
      exact ⟨f, rfl, h1⟩
    | succ i => exact FAts.get h2 i u (by simpa using e)
theorem wfs_mem {bd : List Cs} {g : Fm} : ∀ {fs : List Fm}, wfs bd fs → g ∈ fs → wf bd g
  | f :: fs, h, m => by
    rcases List.mem_cons.mp m with rfl | m
    · exact h.1
    · exact wfs_mem h.2 m
section
variable {P : Program} {w : World} {K : PySem.W.Frag} {mg : Str → Option Value} {base : Heap}
/-! ### _written -/
def spWritten : Sp := fun vs H Q _ => ∃ (v : V) (g : Fm), vs = [v] ∧ FAt H g v ∧ (∃ bd, wf bd g) ∧ sz g ≤ 1000 ∧ ∀ H' L us, Same H H' → H L = none → H' L = some (.lst us) → WAt H' (wrW g) us → Q (.ref L) H'
abbrev nWritten : List Str := ["formula", "word", "names", "inner", "row", "found", "part"]
theorem scWritten : FnScope nWritten ["formula"] (defScope sWritten) := ⟨rfl, rfl, rfl, by decide +kernel, rfl, by decide +kernel, by decide +kernel⟩
theorem ok_written {f fT fE aO aR aK : Addr} {fd fdT fdE : FuncData} (F : Fun K "_written" "_written" sWritten f fd) (C : Cst K mg aO aR aK)
    (GT : FnOk P w K mg base CX0 1 fT fdT ["atom"] (spTermT K)) (kT : PySem.W.keepIn K (.ref fT) = true) (bT : Binds K fdT ["atom"] []) (gT : mg "_term" = some (.ref fT))
    (GE : FnOk P w K mg base CX0 1 fE fdE ["formula"] spEnclosed) (kE : PySem.W.keepIn K (.ref fE) = true) (bE : Binds K fdE ["formula"] []) (gE : mg "_enclosed" = some (.ref fE)) : FnOk P w K mg base CX0 2 f fd ["formula"] spWritten := by
  refine F.ok scWritten (fun vs H Q E h => ?_) (fun cdv A outer s H vs Q E hr h => ?_)
  · obtain ⟨v, g, rfl, _⟩ := h
    rfl
  · obtain ⟨v, g, rfl, hg, ⟨bd, hw⟩, hsz, q⟩ := h
    have nd := scWritten.nd
    have body : PSs (cxOf CX0 P w K mg base nWritten "_written" (defScope sWritten) f cdv A outer s H E).nox (defBody sWritten) _ := pss_cons (ps_set (i := 1) nd rfl (.inl rfl) (pe_ix ix_tup (pv 0) pe_int (fun _ _ => rfl)))
      (pss_cons (ps_if (pt_cmpR op_eq (pv 1) pe_str (nomark _)) (pss_one (ps_ret (pe_lst (pa_cons (pe_joined (.cons (pe_fmt (pe_call GT hr (by rfl) gT kT bT .nil pass0 (pa_cons (pe_ix ix_tup (pv 0) pe_int (fun _ _ => rfl)) pa_nil))) (.cons pe_str
          (.cons (pe_fmt (pe_ix ix_tup (pv 0) pe_int (fun _ _ => rfl))) (.cons pe_str (.cons (pe_fmt (pe_call GT hr (by rfl) gT kT bT .nil pass0 (pa_cons (pe_ix ix_tup (pv 0) pe_int (fun _ _ => rfl)) pa_nil))) .nil)))))) pa_nil)))) pss_nil)
      (pss_cons (ps_if (pt_cmpR op_eq (pv 1) pe_str (nomark _)) (pss_one (ps_ret (pe_lst (pa_cons pe_str (StX.pa_star (pe_call GE hr (by rfl) gE kE bE .nil pass0 (pa_cons (pe_ix ix_tup (pv 0) pe_int (fun _ _ => rfl)) pa_nil)) pa_nil))))) pss_nil)
      (pss_cons (ps_if (pt_cmpR op_in_seq (pv 1) (pe_glob (v := .ref aK) (by rfl) C.kinds rfl) (by rfl))
        (pss_cons (ps_set (i := 2) nd rfl (.inl rfl) (pe_lst pa_nil))
        (pss_cons (ps_set (i := 3) nd rfl (.inl rfl) (pv 0))
        (pss_cons (ps_while PassesOwn.never (pt_cmpR op_eq (pe_ix ix_tup (pv 3) pe_int (fun _ _ => rfl)) (pv 1) (nomark _))
          (pss_cons (ps_expr (pe_bm PySem.F.plainAttrs_list PySem.F.slot_list_append PySem.F.type_list_append mt_append (pv 2) (pa_cons (pe_ix ix_tup (pv 3) pe_int (fun _ _ => rfl)) pa_nil)))
          (pss_one (ps_set (i := 3) nd rfl (.inl rfl) (pe_ix ix_tup (pv 3) pe_int (fun _ _ => rfl))))))
        (pss_cons (ps_set (i := 4) nd rfl (.inl rfl) (pe_join pe_str (pv 2)))
        (pss_one (ps_ret (pe_lst (pa_cons (pe_joined (.cons (pe_fmt (pv 1)) (.cons pe_str (.cons (pe_fmt (pv 4)) (.cons pe_str .nil))))) (pa_cons (pv 3) pa_nil))))))))) pss_nil)
      (pss_cons (ps_set (i := 5) nd rfl (.inl rfl) (pe_lst pa_nil))
      (pss_cons (ps_for PassesOwn.never rfl (pi_tup (pe_ix ix_tup (pv 0) pe_int (fun _ _ => rfl))) (pg_name (i := 6) nd rfl (.inl rfl))
        (C8.pss_cut (ps_if (pt_truth (pv 5) (by intro _; rfl)) (pss_one (ps_expr (pe_bm PySem.F.plainAttrs_list PySem.F.slot_list_append PySem.F.type_list_append mt_append (pv 5) (pa_cons (pe_joined (.cons pe_str (.cons (pe_fmt (pv 1)) (.cons pe_str .nil)))) pa_nil)))) pss_nil)
        (pss_one (ps_expr (pe_bm PySem.F.plainAttrs_list PySem.F.slot_list_extend PySem.F.type_list_extend mt_extend (pv 5) (pa_cons (pe_call GE hr (by rfl) gE kE bE .nil pass0 (pa_cons (pv 6) pa_nil)) pa_nil))))))
      (pss_one (ps_ret (pv 5))))))))
    refine ⟨_, body, ?_⟩
    obtain ⟨p, xs, rfl, hp⟩ := fat_hd hg
    obtain ⟨d1, d2⟩ := hd_in hw
    have vs1 : ∀ a b : Str, decide (V.str a = V.str b) = decide (a = b) := fun a b => decide_eq_decide.mpr ⟨fun z => V.str.inj z, fun z => by rw [z]⟩
    refine ⟨_, rfl, p, _, 0, _, rfl, rfl, SqT.of hp, atI_nat (j := 0) rfl, ?_⟩
    refine ⟨_, rfl, rfl, _, rfl, ?_⟩
    rw [vs1, d1]
    cases g with
    | cmp op n1 k1 n2 k2 =>
      obtain ⟨p', a, b, e, h1, h2, h3⟩ := hg
      obtain rfl : p = p' := V.ref.inj e
      obtain ⟨ho, a1, a2⟩ := hw
      have l1 := len_atom plain_len a1
      have l2 := len_atom plain_len a2
      have lo : op.length ≤ 2 := ops_all (P := fun o => o.length ≤ 2) (by decide) op ho
      have esp : (" " : Str) = mkS [32] := by decide +kernel
      refine iteT ?_
      refine ⟨_, rfl, p, _, 2, _, rfl, rfl, SqT.of h1, atI_nat (j := 2) rfl, a, n1, k1, rfl, h2, a1, ?_⟩
      refine .inl ⟨_, rfl, by rw [mkS_len]; exact small_sz (by omega), _, rfl, by rw [mk_empty, mkS_app, mkS_len]; exact small_sz (by simp; omega), ?_⟩
      refine ⟨_, rfl, by rw [mk_empty, mkS_app, esp, mkS_app, mkS_len]; exact small_sz (by simp; omega), ?_⟩
      refine ⟨_, rfl, p, _, 1, _, rfl, rfl, SqT.of h1, atI_nat (j := 1) rfl, ?_⟩
      refine .inl ⟨_, rfl, by rw [mkS_len]; exact small_sz (by omega), _, rfl, by rw [mk_empty, mkS_app, esp, mkS_app, mkS_app, mkS_len]; exact small_sz (by simp; omega), ?_⟩
      refine ⟨_, rfl, by rw [mk_empty, mkS_app, esp, mkS_app, mkS_app, mkS_app, mkS_len]; exact small_sz (by simp; omega), ?_⟩
      refine ⟨_, rfl, p, _, 3, _, rfl, rfl, SqT.of h1, atI_nat (j := 3) rfl, b, n2, k2, rfl, h3, a2, ?_⟩
      refine .inl ⟨_, rfl, by rw [mkS_len]; exact small_sz (by omega), _, rfl, by rw [mk_empty, mkS_app, esp, mkS_app, mkS_app, mkS_app, mkS_app, mkS_len]; exact small_sz (by simp; omega), ?_⟩
      refine ⟨by show 1 ≤ sizeLine; decide, fun L nL => ?_⟩
      refine q _ L _ (same_upd nL) nL upd_same ⟨_, ?_, rfl⟩
      rw [mk_empty, mkS_app, esp, mkS_app, mkS_app, mkS_app, mkS_app, List.nil_append]
    | neg f =>
      obtain ⟨p', u, e, h1, h2⟩ := hg
      obtain rfl : p = p' := V.ref.inj e
      refine iteF ⟨_, rfl, rfl, _, rfl, ?_⟩
      rw [vs1, d2]
      refine iteT ⟨_, rfl, p, _, 1, _, rfl, rfl, SqT.of h1, atI_nat (j := 1) rfl, u, f, rfl, h2, ⟨bd, hw⟩, fun H1 L1 us s1 nL1 hL1 hus => ?_⟩
      refine ⟨L1, us, rfl, .inr (SqL.of hL1), ?_⟩
      have lus := WAt.len _ _ hus
      have le3 := encW_len f
      refine ⟨?_, fun L nL => ?_⟩
      · show (V.str _ :: (us ++ [])).length ≤ sizeLine
        rw [List.length_cons, List.append_nil]
        exact small_sz (by omega)
      · have sL := same_upd (o := HO.lst (V.str ("not " : Str) :: (us ++ []))) nL
        have en : ("not " : Str) = mkS (Fx.wNot ++ [32]) := by decide +kernel
        have key := WAt.keep (KeepT.of sL) _ _ hus
        refine q _ L _ (s1.trans sL) (s1.free nL) upd_same ⟨us ++ [], by rw [en], ?_⟩
        rw [List.append_nil] at key ⊢
        exact key
    | row w' fs =>
      obtain ⟨p', a, us, e, h1, h2, h3⟩ := hg
      obtain rfl : p = p' := V.ref.inj e
      obtain ⟨hw1, hw2, hw3⟩ := hw
      have lus := FAts.len _ _ h3
      have lfs := szs_len fs
      have lsz : fs.length ≤ 1000 := by
        have hsz' : szs fs + 1 ≤ 1000 := hsz
        omega
      have lw : w'.length ≤ 4 := len_word (w := w') (hw1.elim (fun z => .inr (.inr (.inr (.inl z)))) fun z => .inr (.inr (.inr (.inr z))))
      refine iteF ⟨_, rfl, rfl, _, rfl, ?_⟩
      rw [vs1, d2]
      refine iteF ⟨_, rfl, aK, _, rfl, .inr (C.kindsT H), rfl, flat_strs _, _, rfl, ?_⟩
      rw [if_neg Bool.false_ne_true]
      have nk : inV (.str (hd (.row w' fs))) (([wAll, wSome].map mkS).map V.str) = false := by
        show inV (.str (mkS w')) _ = false
        rw [inV_mk]
        rcases hw1 with rfl | rfl <;> decide
      rw [nk]
      refine iteF ⟨Nat.zero_le _, fun L nL => ?_⟩
      have sL := same_upd (o := HO.lst []) nL
      have hu1 := sL _ _ h2
      refine ⟨_, rfl, p, _, 1, _, rfl, rfl, SqT.of (sL _ _ h1), atI_nat (j := 1) rfl, a, rfl, ⟨_, SqT.of hu1⟩, for_tup (K := K) (a := a) (xs := us) (fun i σ H' => ∃ (us' : List V) (y6 : Option V), σ = [some (.ref p), some (.str (mkS w')), none, none, none, some (.ref L), y6] ∧ Same H H' ∧ H' L = some (.lst us') ∧ WAt H' (rowW w' (fs.take i)) us')
        ⟨[], none, rfl, sL, upd_same, by rw [List.take_zero]; rfl⟩ (fun i σ H' _ ⟨_, _, _, s', _⟩ => SqT.of (s' _ _ h2)) ?_ ?_⟩
      · rintro i x σ H1 hi ⟨us', y6, rfl, s1, hL, hW⟩
        obtain ⟨g, hgi, hgx⟩ := FAts.get h3 i x hi
        have hgm : g ∈ fs := List.mem_of_getElem? hgi
        have hil : i < fs.length := (List.getElem?_eq_some_iff.mp hgi).1
        have et : fs.take (i + 1) = fs.take i ++ [g] := by rw [List.take_add_one, hgi]; rfl
        have lrow := rowW_len w' (fs.take i)
        rw [List.length_take] at lrow
        have lus' := WAt.len _ _ hW
        have emp : (!us'.isEmpty) = !(fs.take i).isEmpty := by
          by_cases hz : fs.take i = []
          · rw [hz] at lus' ⊢
            have : us' = [] := List.length_eq_zero_iff.mp lus'
            rw [this]
            rfl
          · have : us' ≠ [] := fun z => by
              rw [z] at lus'
              exact rowW_ne hz (List.length_eq_zero_iff.mp lus'.symm)
            cases us' with
            | nil => exact absurd rfl this
            | cons y ys =>
              cases e2 : fs.take i with
              | nil => exact absurd e2 hz
              | cons z zs => rfl
        refine ⟨fun σ' H' => ∃ us2, σ' = [some (.ref p), some (.str (mkS w')), none, none, none, some (.ref L), some x] ∧ Same H H' ∧ H' L = some (.lst us2) ∧ WAt H' (rowW w' (fs.take i) ++ (if (fs.take i).isEmpty then [] else [.t (32 :: (w' ++ [32]))])) us2 ∧ us2.length ≤ 4 * fs.length + 1, ?_, ?_⟩
        · refine ⟨_, rfl, !us'.isEmpty, .inl ⟨_, SqL.of hL, rfl⟩, ?_⟩
          rw [emp]
          cases hz : (fs.take i).isEmpty with
          | true =>
            refine iteF ⟨us', rfl, s1, hL, ?_, by omega⟩
            rw [if_pos rfl, List.append_nil]
            exact hW
          | false =>
            refine iteT ⟨_, rfl, .inl ⟨rfl, _, SqL.of hL⟩, ?_⟩
            have esp : (" " : Str) = mkS [32] := by decide +kernel
            refine ⟨_, rfl, by rw [mk_empty, esp, mkS_app, mkS_len]; exact small_sz (by simp), ?_⟩
            refine ⟨_, rfl, .inl ⟨_, rfl, by rw [mkS_len]; exact small_sz (by omega), _, rfl, by rw [mk_empty, esp, mkS_app, mkS_app, mkS_len]; exact small_sz (by simp; omega), ?_⟩⟩
            refine ⟨_, rfl, by rw [mk_empty, esp, mkS_app, mkS_app, mkS_app, mkS_len]; exact small_sz (by simp; omega), ?_⟩
            refine ⟨L, us', _, rfl, rfl, hL, Nat.lt_of_le_of_lt (show us'.length ≤ 1000000 by omega) (by decide), us' ++ [V.str (mkS (32 :: (w' ++ [32])))], rfl, s1.later nL, ?_, ?_, ?_⟩
            · rw [upd_same, mk_empty, esp, mkS_app, mkS_app, mkS_app]
              rfl
            · rw [if_neg Bool.false_ne_true]
              refine WAt.app _ _ _ _ (WAt.keep (KeepT.upd hL (by intro xs z; cases z)) _ _ hW) ⟨[], rfl, rfl⟩
            · rw [List.length_append, List.length_singleton]
              omega
        · rintro σ2 H2 ⟨us2, rfl, s2, hL2, hW2, l2⟩
          have hgx2 := FAt.keep (KeepT.of s2) _ _ hgx
          refine ⟨_, rfl, .inl ⟨rfl, _, SqL.of hL2⟩, ?_⟩
          refine ⟨_, rfl, x, g, rfl, hgx2, ⟨bd, wfs_mem hw3 hgm⟩, fun H3 L3 us3 s3 nL3 hL3 hus3 => ?_⟩
          have hL23 := s3 _ _ hL2
          have l3 := WAt.len _ _ hus3
          have e3 := encW_len g
          refine ⟨L, L3, us2, us3, rfl, rfl, hL23, hL3, small_sz (by omega), ?_⟩
          have kt : KeepT H3 (upd H3 L (.lst (us2 ++ us3))) := KeepT.upd hL23 (by intro xs z; cases z)
          refine ⟨us2 ++ us3, _, rfl, (s2.trans s3).later nL, upd_same, ?_⟩
          rw [et, rowW_snoc, ← List.append_assoc]
          exact WAt.app _ _ _ _ (WAt.keep ((KeepT.of s3).trans kt) _ _ hW2) (WAt.keep kt _ _ hus3)
      · rintro σ H1 ⟨us', y6, rfl, s1, hL, hW⟩
        rw [lus, List.take_length] at hW
        exact ⟨_, rfl, q H1 L us' s1 nL hL hW⟩
    | qu w' n f =>
      have hsz' : sz f + 1 ≤ 1000 := hsz
      have hwq := hw
      obtain ⟨hw1, hn, _, hf⟩ := hw
      have lw : w'.length ≤ 4 := len_word (w := w') (hw1.elim .inl fun z => .inr (.inl z))
      refine iteF ⟨_, rfl, rfl, _, rfl, ?_⟩
      rw [vs1, d2]
      refine iteF ⟨_, rfl, aK, _, rfl, .inr (C.kindsT H), rfl, flat_strs _, _, rfl, ?_⟩
      rw [if_neg Bool.false_ne_true]
      have yk : inV (.str (hd (.qu w' n f))) (([wAll, wSome].map mkS).map V.str) = true := by
        show inV (.str (mkS w')) _ = true
        rw [inV_mk]
        rcases hw1 with rfl | rfl <;> decide
      rw [yk]
      refine iteT ⟨Nat.zero_le _, fun L nL => ?_⟩
      have sL := same_upd (o := HO.lst []) nL
      have eS : strip w' (.qu w' n f) = (n :: (strip w' f).1, (strip w' f).2) := by rw [strip_qu, if_pos rfl]
      refine ⟨_, rfl, fun m σ H' => ∃ (ns : List Cs) (g' : Fm) (v' : V), m = sz g' ∧ σ = [some (.ref p), some (.str (mkS w')), some (.ref L), some v', none, none, none] ∧ Same H H' ∧ H' L = some (.lst ((ns.map mkS).map V.str)) ∧ FAt H' g' v' ∧ (∃ bd', wf bd' g') ∧ (n :: (strip w' f).1 = ns ++ (strip w' g').1) ∧ (strip w' f).2 = (strip w' g').2,
        ⟨_, [], .qu w' n f, .ref p, rfl, rfl, sL, upd_same, FAt.keep (KeepT.of sL) _ _ hg, ⟨bd, hwq⟩, by rw [eS]; rfl, by rw [eS]⟩, ?_⟩
      have names8 : ∀ x ∈ n :: (strip w' f).1, x.length ≤ 8 := fun x hx => (List.mem_cons.mp hx).elim (fun z => z ▸ hn.2.2.1) (strip_small f _ hf x)
      have nlen : (n :: (strip w' f).1).length ≤ 1000 := by
        have := strip_len w' f
        rw [List.length_cons]
        omega
      rintro m σ H1 ⟨ns, g', v', rfl, rfl, s1, hL, hg', ⟨bd', hw'⟩, ens, e2⟩
      obtain ⟨p2, xs2, rfl, hp2⟩ := fat_hd hg'
      refine ⟨_, rfl, p2, _, 0, _, rfl, rfl, SqT.of hp2, atI_nat (j := 0) rfl, _, rfl, rfl, _, rfl, ?_⟩
      rw [vs1]
      have lns : ns.length ≤ 1000 := by
        have := congrArg List.length ens
        rw [List.length_append] at this
        omega
      -- is it a quantifier of this kind?
      have quiet : (∀ n' f', g' ≠ .qu w' n' f') → decide (hd g' = mkS w') = false ∧ strip w' g' = ([], g') := fun h => by
        cases g' with
        | cmp a b c d e =>
          refine ⟨?_, rfl⟩
          show decide (("compare" : Str) = mkS w') = false
          rcases hw1 with rfl | rfl <;> decide +kernel
        | neg a =>
          refine ⟨?_, rfl⟩
          show decide (("not" : Str) = mkS w') = false
          rcases hw1 with rfl | rfl <;> decide +kernel
        | row a b =>
          refine ⟨?_, rfl⟩
          show decide (mkS a = mkS w') = false
          have ha := hw'.1
          rcases hw1 with rfl | rfl <;> rcases ha with rfl | rfl <;> decide +kernel
        | qu a b c =>
          have hne : a ≠ w' := fun z => h b c (by rw [z])
          refine ⟨decide_eq_false fun z => hne (mkS_inj z), ?_⟩
          rw [strip_qu, if_neg hne]
      by_cases hq : ∃ n' f', g' = .qu w' n' f'
      · obtain ⟨n', f', rfl⟩ := hq
        rw [decide_eq_true (show hd (.qu w' n' f') = mkS w' from rfl)]
        obtain ⟨p3, u, e3, h1, h2⟩ := hg'
        obtain rfl : p2 = p3 := V.ref.inj e3
        refine iteT ⟨fun σ' H' => ∃ m', m' < sz (.qu w' n' f') ∧ ∃ (ns : List Cs) (g' : Fm) (v' : V), m' = sz g' ∧ σ' = [some (.ref p), some (.str (mkS w')), some (.ref L), some v', none, none, none] ∧ Same H H' ∧ H' L = some (.lst ((ns.map mkS).map V.str)) ∧ FAt H' g' v' ∧ (∃ bd', wf bd' g') ∧ (n :: (strip w' f).1 = ns ++ (strip w' g').1) ∧ (strip w' f).2 = (strip w' g').2, fun _ _ h => h, ?_⟩
        refine ⟨_, rfl, .inl ⟨rfl, _, SqL.of hL⟩, _, rfl, p2, _, 1, _, rfl, rfl, SqT.of h1, atI_nat (j := 1) rfl, L, _, _, rfl, rfl, hL, ?_, ?_⟩
        · rw [List.length_map, List.length_map]
          exact small1000 lns
        · have kt : KeepT H1 (upd H1 L (.lst ((ns.map mkS).map V.str ++ [V.str (mkS n')]))) := KeepT.upd hL (by intro xs z; cases z)
          have eS2 : strip w' (.qu w' n' f') = (n' :: (strip w' f').1, (strip w' f').2) := by rw [strip_qu, if_pos rfl]
          rw [eS2] at ens e2
          refine ⟨_, rfl, p2, _, 2, _, rfl, rfl, SqT.of (kt _ _ h1), atI_nat (j := 2) rfl, sz f', Nat.lt_succ_self _, ns ++ [n'], f', u, rfl, rfl, s1.later nL, ?_, FAt.keep kt _ _ h2, ⟨_, hw'.2.2.2⟩, ?_, e2⟩
          · rw [upd_same, List.map_append, List.map_append]
            rfl
          · rw [ens, List.append_assoc]
            rfl
      · obtain ⟨qd, qs⟩ := quiet fun n' f' e => hq ⟨n', f', e⟩
        rw [qd]
        rw [qs, List.append_nil] at ens
        rw [qs] at e2
        rw [ens] at names8 nlen
        have fl := flat_len names8
        have jl := joinC_len [32] names8
        have esp : (" " : Str) = mkS [32] := by decide +kernel
        have ecl : (": " : Str) = mkS [58, 32] := by decide +kernel
        refine iteF ⟨⟨_, rfl⟩, _, rfl, _, L, ns.map mkS, rfl, rfl, .inl (SqL.of hL), ?_, ?_⟩
        · have : ((" " : Str)).length = 1 := by decide +kernel
          rw [this, List.length_map]
          omega
        · rw [esp, join_cs]
          simp only [List.length_singleton] at jl
          refine ⟨_, rfl, .inl ⟨_, rfl, by rw [mkS_len]; exact small_sz (by omega), _, rfl, by rw [mk_empty, mkS_app, mkS_len]; exact small_sz (by simp; omega), ?_⟩⟩
          refine ⟨_, rfl, by rw [mk_empty, mkS_app, mkS_app, mkS_len]; exact small_sz (by simp; omega), ?_⟩
          refine ⟨_, rfl, .inl ⟨_, rfl, by rw [mkS_len]; exact small_sz (by omega), _, rfl, by rw [mk_empty, mkS_app, mkS_app, mkS_app, mkS_len]; exact small_sz (by simp; omega), ?_⟩⟩
          refine ⟨_, rfl, by rw [mk_empty, mkS_app, mkS_app, mkS_app, ecl, mkS_app, mkS_len]; exact small_sz (by simp; omega), ?_⟩
          refine ⟨_, rfl, by show 2 ≤ sizeLine; decide, fun L2 nL2 => ?_⟩
          have sL2 := same_upd (o := HO.lst [V.str (Str.empty ++ mkS w' ++ mkS [32] ++ mkS (joinC [32] ns) ++ (": " : Str)), V.ref p2]) nL2
          refine q _ L2 _ (s1.trans sL2) (s1.free nL2) upd_same ⟨[V.ref p2], ?_, V.ref p2, [], rfl, ?_, rfl⟩
          · rw [mk_empty, mkS_app, mkS_app, mkS_app, ecl, mkS_app, ens]
            congr 3
            cases ns with
            | nil =>
              exact absurd ens (List.cons_ne_nil _ _)
            | cons y ys =>
              rw [← join_sp y ys]
              simp
          · rw [e2]
            exact FAt.keep (KeepT.of sL2) _ _ hg'
end
end Lo
namespace Lo
open PySem L2 Fx
def Ww : List Wi → Nat
  | [] => 0
  | .t _ :: r => 1 + Ww r
  | .f g :: r => 4 * sz g + Ww r
theorem Ww_app : ∀ a b : List Wi, Ww (a ++ b) = Ww a + Ww b
  | [], b => by rw [List.nil_append, Ww, Nat.zero_add]
  | .t s :: a, b => by
    show 1 + Ww (a ++ b) = 1 + Ww a + Ww b
    rw [Ww_app a b]
    omega
  | .f g :: a, b => by
    show 4 * sz g + Ww (a ++ b) = 4 * sz g + Ww a + Ww b
    rw [Ww_app a b]
    omega
theorem sz_pos (f : Fm) : 1 ≤ sz f := by
  cases f <;> simp [sz]
theorem enc_W (f : Fm) : Ww (encW f) ≤ 4 * sz f + 2 := by
  unfold encW
  split <;> simp only [Ww] <;> omega
theorem row_W (w : Cs) : ∀ fs : List Fm, Ww (rowW w fs) ≤ 4 * szs fs
  | [] => Nat.le_refl _
  | f :: fs => by
    have ih := row_W w fs
    have e := enc_W f
    show Ww (encW f ++ _) ≤ _
    rw [Ww_app]
    simp only [szs]
    split
    · simp only [Ww]
      omega
    · simp only [Ww]
      omega
theorem strip_sz (w : Cs) : ∀ f : Fm, sz (strip w f).2 ≤ sz f
  | .cmp .. => Nat.le_refl _
  | .neg _ => Nat.le_refl _
  | .row .. => Nat.le_refl _
  | .qu w' n f => by
    rw [strip_qu]
    have := strip_sz w f
    split
    · simp only [sz]
      omega
    · exact Nat.le_refl _
theorem wr_W (g : Fm) : Ww (wrW g) < 4 * sz g := by
  cases g with
  | cmp op n1 k1 n2 k2 => simp [wrW, Ww, sz]
  | neg f =>
    have := enc_W f
    simp only [wrW, Ww, sz]
    omega
  | row w fs =>
    have := row_W w fs
    simp only [wrW, sz]
    omega
  | qu w n f =>
    have := strip_sz w f
    simp only [wrW, Ww, sz]
    omega
theorem Ww_len : ∀ l : List Wi, l.length ≤ Ww l
  | [] => Nat.le_refl _
  | .t s :: r => by
    have := Ww_len r
    simp only [List.length_cons, Ww]
    omega
  | .f g :: r => by
    have := Ww_len r
    have := sz_pos g
    simp only [List.length_cons, Ww]
    omega
def WOk (l : List Wi) : Prop := ∀ g, Wi.f g ∈ l → ∃ bd, wf bd g
theorem WOk.app {a b : List Wi} (h : WOk a) (h' : WOk b) : WOk (a ++ b) := fun g hg => (List.mem_append.mp hg).elim (h g) (h' g)
theorem WOk.enc {bd : List Cs} {f : Fm} (h : wf bd f) : WOk (encW f) := fun g hg => by
  unfold encW at hg
  split at hg
  · obtain rfl : g = f := by simpa using hg
    exact ⟨bd, h⟩
  · obtain rfl : g = f := by simpa using hg
    exact ⟨bd, h⟩
theorem WOk.row {bd : List Cs} {w : Cs} : ∀ {fs : List Fm}, wfs bd fs → WOk (rowW w fs)
  | [], _ => fun g hg => absurd hg List.not_mem_nil
  | f :: fs, h => by
    show WOk (encW f ++ _)
    refine (WOk.enc h.1).app ?_
    split
    · exact fun g hg => absurd hg List.not_mem_nil
    · intro g hg
      rcases List.mem_cons.mp hg with z | z
      · cases z
      · exact WOk.row (w := w) h.2 g z
theorem WOk.wr {bd : List Cs} {g : Fm} (h : wf bd g) : WOk (wrW g) := by
  cases g with
  | cmp op n1 k1 n2 k2 => exact fun g hg => by simp [wrW] at hg
  | neg f =>
    intro g hg
    rcases List.mem_cons.mp hg with z | z
    · cases z
    · exact WOk.enc (f := f) h g z
  | row w fs => exact WOk.row h.2.2
  | qu w n f =>
    intro g hg
    obtain rfl : g = (strip w f).2 := by simpa [wrW] using hg
    exact strip_wf f _ h.2.2.2
theorem WAt.cons_t {H : Hp} {s : Cs} {r : List Wi} {us : List V} (h : WAt H (.t s :: r) us) : ∃ us', us = .str (mkS s) :: us' ∧ WAt H r us' := h
theorem WAt.cons_f {H : Hp} {g : Fm} {r : List Wi} {us : List V} (h : WAt H (.f g :: r) us) : ∃ u us', us = u :: us' ∧ FAt H g u ∧ WAt H r us' := h
theorem sum_flat : ∀ l : List Cs, ((l.map mkS).map (·.length)).sum = l.flatten.length
  | [] => rfl
  | x :: l => by
    simp only [List.map_cons, List.sum_cons, mkS_len, List.flatten_cons, List.length_append]
    rw [sum_flat l]
section
variable {P : Program} {w : World} {K : PySem.W.Frag} {mg : Str → Option Value} {base : Heap}
/-! ### write_formula -/
def spWriteF : Sp := fun vs H Q _ => ∃ (v : V) (g : Fm), vs = [v] ∧ FAt H g v ∧ (∃ bd, wf bd g) ∧ sz g ≤ 1000 ∧ ∀ H', Same H H' → Q (.str (mkS (tx Fx.plain .top g))) H'
abbrev nWriteF : List Str := ["formula", "found", "waiting", "at_hand"]
theorem scWriteF : FnScope nWriteF ["formula"] (defScope sWriteF) := ⟨rfl, rfl, rfl, by decide +kernel, rfl, by decide +kernel, by decide +kernel⟩
theorem ok_writef {f fW : Addr} {fd fdW : FuncData} (F : Fun K "write_formula" "write_formula" sWriteF f fd) (T : Blt mg)
    (GW : FnOk P w K mg base CX0 2 fW fdW ["formula"] spWritten) (kW : PySem.W.keepIn K (.ref fW) = true) (bW : Binds K fdW ["formula"] []) (gW : mg "_written" = some (.ref fW)) : FnOk P w K mg base CX0 3 f fd ["formula"] spWriteF := by
  refine F.ok scWriteF (fun vs H Q E h => ?_) (fun cdv A outer s H vs Q E hr h => ?_)
  · obtain ⟨v, g, rfl, _⟩ := h
    rfl
  · obtain ⟨v, g, rfl, hg, ⟨bd, hw⟩, hsz, q⟩ := h
    have nd := scWriteF.nd
    refine ⟨_, pss_cons (ps_set (i := 1) nd rfl (.inl rfl) (pe_lst pa_nil))
      (pss_cons (ps_set (i := 2) nd rfl (.inl rfl) (pe_lst (pa_cons (pv 0) pa_nil)))
      (pss_cons (ps_while PassesOwn.never (pt_truth (pv 2) (by intro _; rfl))
        (pss_cons (ps_set (i := 3) nd rfl (.inl rfl) (pe_bm0 PySem.F.plainAttrs_list PySem.F.slot_list_pop PySem.F.type_list_pop mt_pop (pv 2)))
        (pss_one (ps_if (pt_val (pe_callB call_isi (by rfl) T.isi PyProof.Rows.boot_isinstance (pa_cons (pv 3) (pa_cons (pe_bltn (v := .ty "str") rfl T.str PyProof.Rows.boot_str rfl) pa_nil))))
          (pss_one (ps_expr (pe_bm PySem.F.plainAttrs_list PySem.F.slot_list_append PySem.F.type_list_append mt_append (pv 1) (pa_cons (pv 3) pa_nil))))
          (pss_one (ps_expr (pe_bm PySem.F.plainAttrs_list PySem.F.slot_list_extend PySem.F.type_list_extend mt_extend (pv 2) (pa_cons (pe_revL (pe_call GW hr (by rfl) gW kW bW .nil pass0 (pa_cons (pv 3) pa_nil))) pa_nil))))))))
      (pss_one (ps_ret (pe_join pe_str (pv 1)))))), ?_⟩
    refine ⟨Nat.zero_le _, fun Lf nf => ?_⟩
    have sf := same_upd (o := HO.lst []) nf
    refine ⟨_, rfl, by show 1 ≤ sizeLine; decide, fun Lw nw => ?_⟩
    have nfw : Lf ≠ Lw := fun z => by
      rw [← z, upd_same] at nw
      cases nw
    have sw := same_upd (o := HO.lst [v]) nw
    have sfw := sf.trans sw
    refine ⟨fun m σ H' => ∃ (Fd : List Cs) (l : List Wi) (us : List V) (y : Option V), m = Ww l ∧ σ = [some v, some (.ref Lf), some (.ref Lw), y] ∧ Same H H' ∧ H' Lf = some (.lst ((Fd.map mkS).map V.str)) ∧ H' Lw = some (.lst us.reverse) ∧ WAt H' l us ∧ WOk l ∧ Fd.flatten ++ wtx l = tx Fx.plain .top g ∧ Fd.length + Ww l ≤ 4 * sz g, ?_, ?_⟩
    · refine ⟨_, [], [.f g], [v], none, rfl, rfl, sfw, sw _ _ upd_same, upd_same, ⟨v, [], rfl, FAt.keep (KeepT.of sfw) _ _ hg, rfl⟩, ?_, ?_, ?_⟩
      · intro g' hg'
        obtain rfl : g' = g := by simpa using hg'
        exact ⟨bd, hw⟩
      · simp [wtx]
      · simp [Ww]
    rintro m σ H1 ⟨Fd, l, us, y, rfl, rfl, s1, hLf, hLw, hW, ok, et, em⟩
    have lus := WAt.len _ _ hW
    refine ⟨_, rfl, !us.reverse.isEmpty, .inl ⟨_, SqL.of hLw, rfl⟩, ?_⟩
    cases l with
    | nil =>
      cases hW
      refine iteF ⟨⟨_, rfl⟩, _, rfl, _, Lf, Fd.map mkS, rfl, rfl, .inl (SqL.of hLf), ?_, ?_⟩
      · have := len_tx plain_len g .top bd hw
        simp only [wtx, List.append_nil] at et
        rw [sum_flat, et, show ((("" : Str)).length) = 0 from by decide +kernel]
        omega
      · rw [show ("" : Str) = mkS [] from by decide +kernel, join_cs, join_nil]
        simp only [wtx, List.append_nil] at et
        rw [et]
        exact q _ s1
    | cons x r =>
      have fin : ∀ {X Y : Prop}, X → (if (!us.reverse.isEmpty) = true then X else Y) := fun {X Y} h => by
        have : (!us.reverse.isEmpty) = true := by
          cases us with
          | nil => simp at lus
          | cons a b => simp
        rw [if_pos this]
        exact h
      refine fin ⟨fun σ' H' => ∃ m', m' < Ww (x :: r) ∧ ∃ (Fd : List Cs) (l : List Wi) (us : List V) (y : Option V), m' = Ww l ∧ σ' = [some v, some (.ref Lf), some (.ref Lw), y] ∧ Same H H' ∧ H' Lf = some (.lst ((Fd.map mkS).map V.str)) ∧ H' Lw = some (.lst us.reverse) ∧ WAt H' l us ∧ WOk l ∧ Fd.flatten ++ wtx l = tx Fx.plain .top g ∧ Fd.length + Ww l ≤ 4 * sz g, fun _ _ h => h, ?_⟩
      have kw : ∀ {o : List V}, KeepT H1 (upd H1 Lw (.lst o)) := fun {o} => KeepT.upd hLw (by intro xs z; cases z)
      cases x with
      | t t =>
        obtain ⟨us', rfl, hW'⟩ := hW.cons_t
        rw [List.reverse_cons] at hLw
        refine ⟨_, rfl, .inl ⟨rfl, _, SqL.of hLw⟩, Lw, _, _, rfl, rfl, hLw, by rw [List.length_append, List.length_singleton, Nat.add_sub_cancel, List.getElem?_append_right (Nat.le_refl _), Nat.sub_self]; rfl, ?_⟩
        rw [List.dropLast_concat]
        refine ⟨_, rfl, _, _, _, _, true, rfl, .ty _, .base (.str _), kit_ty (by decide +kernel), true, rfl, iteT ?_⟩
        have hLf' : upd H1 Lw (.lst us'.reverse) Lf = some (.lst ((Fd.map mkS).map V.str)) := by rw [upd_ne nfw]; exact hLf
        refine ⟨_, rfl, .inl ⟨rfl, _, SqL.of hLf'⟩, _, rfl, Lf, _, _, rfl, rfl, hLf', ?_, ?_⟩
        · rw [List.length_map, List.length_map]
          simp only [Ww] at em
          exact Nat.lt_of_le_of_lt (show Fd.length ≤ 1000000 by omega) (by decide)
        · refine ⟨Ww r, by simp only [Ww]; omega, Fd ++ [t], r, us', _, rfl, rfl, (s1.later (sf.free nw)).later nf, ?_, ?_, ?_, fun g' hg' => ok g' (List.mem_cons_of_mem _ hg'), ?_, ?_⟩
          · rw [upd_same, List.map_append, List.map_append]
            rfl
          · rw [upd_ne (Ne.symm nfw)]
            exact upd_same
          · exact WAt.keep (kw.trans (KeepT.upd hLf' (by intro xs z; cases z))) _ _ hW'
          · rw [← et]
            simp [wtx]
          · simp only [Ww] at em
            rw [List.length_append, List.length_singleton]
            omega
      | f g1 =>
        obtain ⟨u, us', rfl, hu, hW'⟩ := hW.cons_f
        rw [List.reverse_cons] at hLw
        refine ⟨_, rfl, .inl ⟨rfl, _, SqL.of hLw⟩, Lw, _, _, rfl, rfl, hLw, by rw [List.length_append, List.length_singleton, Nat.add_sub_cancel, List.getElem?_append_right (Nat.le_refl _), Nat.sub_self]; rfl, ?_⟩
        rw [List.dropLast_concat]
        have hu2 := FAt.keep (kw (o := us'.reverse)) _ _ hu
        have hW2 := WAt.keep (kw (o := us'.reverse)) _ _ hW'
        have hLf' : upd H1 Lw (.lst us'.reverse) Lf = some (.lst ((Fd.map mkS).map V.str)) := by rw [upd_ne nfw]; exact hLf
        have hLw2 : upd H1 Lw (.lst us'.reverse) Lw = some (.lst us'.reverse) := upd_same
        have s2 : Same H (upd H1 Lw (.lst us'.reverse)) := s1.later (sf.free nw)
        generalize upd H1 Lw (.lst us'.reverse) = H2 at hu2 hW2 hLf' hLw2 s2 ⊢
        obtain ⟨p, xs, rfl, hp⟩ := fat_hd hu2
        have l2 := WAt.len _ _ hW2
        obtain ⟨bd1, ok1⟩ := ok g1 List.mem_cons_self
        have w1 := wr_W g1
        simp only [Ww] at em
        have lW : r.length ≤ Ww r := Ww_len r
        refine ⟨_, rfl, _, _, _, _, false, rfl, .ty _, .base (.tup hp), kit_ty (by decide +kernel), false, rfl, iteF ?_⟩
        refine ⟨_, rfl, .inl ⟨rfl, _, SqL.of hLw2⟩, _, rfl, _, g1, rfl, hu2, ⟨bd1, ok1⟩, by omega, fun H3 L3 us3 s3 nL3 hL3 hus3 => ⟨L3, us3, rfl, SqL.of hL3, fun p3 np3 => ?_⟩⟩
        have l3 := WAt.len _ _ hus3
        have lW3 : (wrW g1).length ≤ Ww (wrW g1) := Ww_len _
        have sp := same_upd (o := HO.lst us3.reverse) np3
        have hLw3 := sp _ _ (s3 _ _ hLw2)
        have s4 := s2.trans (s3.trans sp)
        have k4 : KeepT (upd H3 p3 (.lst us3.reverse)) (upd (upd H3 p3 (.lst us3.reverse)) Lw (.lst (us'.reverse ++ us3.reverse))) := KeepT.upd hLw3 (by intro xs z; cases z)
        refine ⟨Lw, p3, us'.reverse, us3.reverse, rfl, rfl, hLw3, upd_same, small_sz (by rw [List.length_reverse, List.length_reverse]; omega), ?_⟩
        refine ⟨Ww (wrW g1 ++ r), by rw [Ww_app]; simp only [Ww]; omega, Fd, wrW g1 ++ r, us3 ++ us', _, rfl, rfl, s4.later (sf.free nw), ?_, ?_, ?_, (WOk.wr ok1).app fun g' hg' => ok g' (List.mem_cons_of_mem _ hg'), ?_, ?_⟩
        · rw [upd_ne nfw]
          exact sp _ _ (s3 _ _ hLf')
        · rw [upd_same, List.reverse_append]
        · exact WAt.app _ _ _ _ (WAt.keep ((KeepT.of sp).trans k4) _ _ hus3) (WAt.keep (((KeepT.of s3).trans (KeepT.of sp)).trans k4) _ _ hW2)
        · rw [wtx_app, wr_text, ← et]
          simp [wtx]
        · rw [Ww_app]
          omega
end
end Lo
namespace Ru
open PySem PySem.Spec PyProof.Rows L2
/-! # two rules of my own: list.extend by a tuple, t[::-1] of a tuple -/
section
open PySem.AutoSeq1
set_option maxRecDepth 8000 in
theorem ext_tuple (l : Addr) (items : Array Value) (n : Nat) (b : Addr) (items2 : Array Value) (n2 : Nat) (o : Obj) (hc : o.cls = .type "tuple") (hd : o.data = .seq items2 n2)
    (hs0 : ¬(!items.isEmpty && Builtin.List.listTooLong (items.size + items2.size)) = true) (hs1 : items.size ≤ sizeLine) (hs2 : items.size + items2.size ≤ sizeLine + 1) :
    Meets (Builtin.«list.extend» ⟨[.ref l, .ref b], []⟩) (fun _ R s => s.heap.get? l = some { cls := .type "list", data := .seq items n } ∧ s.heap.get? b = some o ∧ R (.ok (.ret Value.none)) { s with heap := s.heap.update l (Obj.mapSeq fun x => x ++ items2), toks := s.toks }) :=
  .of_wp fun prog w A R s h => by
    obtain ⟨cls, dict, data, slots⟩ := o
    cases hc
    cases hd
    obtain ⟨hp, g, d, tk, os⟩ := s
    obtain ⟨hl, hb, h⟩ := h
    have f1 := idx_int
    have f2 := AutoSeq1.sub_tuple_tuple
    have f3 := AutoSeq1.sub_list_list
    have f4 := AutoSeq1.sub_tuple_list
    have f5 := AutoSeq1.sub_list_tuple
    have hz' : (items ++ items2).size ≤ sizeLine + 1 := by rw [Array.size_append]; exact hs2
    wp_walk using (wpAny_updateSeq hl rfl (hz := hs1) (_hz' := hz')), wpAny_loadPart' hl, wpAny_loadPart' hb
    exact ⟨_, rfl, h⟩
end
section
variable {X : Cx}
def rExtT (K : PySem.W.Frag) : V → List V → Hp → VK → Prop := fun x vs H Q => ∃ l b xs zs, x = .ref l ∧ vs = [.ref b] ∧ H l = some (.lst xs) ∧ SqT K H b zs ∧ xs.length + zs.length ≤ sizeLine ∧ Q .non (upd H l (.lst (xs ++ zs)))
theorem mt_extT : MtM X "list.extend" (rExtT X.K) := by
  intro pins s σ H x vs v us Q I rx rv h
  obtain ⟨l, b, xs, zs, rfl, rfl, hH, hB, hz, q⟩ := h
  cases rx
  obtain ⟨u, rfl, ru⟩ := rv.one
  cases ru
  obtain ⟨z, its, n, r, hl, e⟩ := I.lstM hH
  obtain ⟨its2, r2, ⟨o, e2, oc, n2, od⟩, z2⟩ := I.tuple hB
  have hl2 := r2.length
  have hsz : its.toArray.size + its2.toArray.size ≤ sizeLine := by rw [List.size_toArray, List.size_toArray]; omega
  have hlong : ¬ (!its.toArray.isEmpty && Builtin.List.listTooLong (its.toArray.size + its2.toArray.size)) = true := by
    rw [notLongL hsz, Bool.and_false]
    exact Bool.false_ne_true
  refine call_meets PySem.F.slot_list_extend ⟨_, e, rfl⟩ PySem.F.entry_list_extend (PySem.F.args_list_extend_2 _ _) (ext_tuple l its.toArray n b its2.toArray n2 o oc od hlong (by rw [List.size_toArray]; omega) (by omega)) ⟨e, e2, ?_⟩
  refine ⟨.non, _, I.lset (its' := its ++ its2) hH e (by simp) (r.append r2) ?_, rfl, q⟩
  rw [List.length_append]
  omega
end
theorem fm_congr {α β : Type} {f g : α → Option β} : ∀ {l : List α}, (∀ x ∈ l, f x = g x) → l.filterMap f = l.filterMap g
  | [], _ => rfl
  | a :: l, h => by
    rw [List.filterMap_cons, List.filterMap_cons, h a List.mem_cons_self, fm_congr fun x hx => h x (List.mem_cons_of_mem _ hx)]
theorem pick_rev (xs : Array Value) : ((List.range xs.size).filterMap fun (k : Nat) => xs[((xs.size : Int) - 1 + (k : Int) * (-1)).toNat]?) = xs.toList.reverse := by
  have e : (List.range xs.size).filterMap (fun (k : Nat) => xs[((xs.size : Int) - 1 + (k : Int) * (-1)).toNat]?) = ((List.range xs.size).map fun k => xs.size - 1 - k).filterMap (xs[·]?) := by
    rw [List.filterMap_map]
    refine fm_congr fun k hk => ?_
    have := List.mem_range.mp hk
    have e1 : ((xs.size : Int) - 1 + (k : Int) * (-1)).toNat = xs.size - 1 - k := by omega
    rw [e1]
    rfl
  rw [e, PySem.W.krv_range, List.filterMap_reverse, PySem.W.krv_all]
section
variable {prog : Program} {w : World} {A : Around} {E : Value → Shared → Prop} {s : Shared}
theorem applied_rev {sl : Addr} {vl vu vs : Value} {n : Nat} {Q : Int × Int × Nat → Shared → Prop} (hs : s.heap.IsSliceOf sl vl vu vs) (pl : IsPart vl none) (pu : IsPart vu none) (ps : IsPart vs (some (-1)))
    (h : Q ((n : Int) - 1, -1, n) s) : wpAny (model prog w) A (Builtin.Slice.sliceApplied (.ref sl) (pure (n : Int))) Q E s := by
  obtain ⟨os, ho, hc, hd⟩ := id hs
  unfold Builtin.Slice.sliceApplied Builtin.Slice.sliceFields
  refine wpAny_bind (wpAny_bind (wpAny_field ho hd (x := vl) rfl (wpAny_bind (wpAny_field ho hd (x := vu) rfl (wpAny_bind (wpAny_field ho hd (x := vs) rfl (wpAny_pure ?_)))))))
  refine wpAny_bind (HT.slicePart_ ps ?_)
  show wpAny _ _ (if ((-1 : Int) == 0) = true then _ else _) _ _ s
  rw [if_neg (by decide)]
  refine wpAny_bind (HT.slicePart_ pl (wpAny_bind (HT.slicePart_ pu (wpAny_bind (wpAny_pure ?_)))))
  show wpAny _ _ (pure ((n : Int) - 1, (-1 : Int), Builtin.Slice.slicePlaces ((n : Int) - 1) (-1) (-1))) _ _ s
  have e : Builtin.Slice.slicePlaces ((n : Int) - 1) (-1) (-1) = n := by
    unfold Builtin.Slice.slicePlaces
    rw [if_neg (by decide)]
    by_cases h0 : n = 0
    · rw [h0]
      decide
    · rw [if_pos (by omega), show (-(-1) : Int) = 1 by decide, Int.ediv_one]
      omega
  rw [e]
  exact wpAny_pure h
theorem tuple_rev {t sl : Addr} {items : Array Value} {vl vu vs : Value} {Q : Value → Shared → Prop} (ht : IsTup s.heap t items) (hs : s.heap.IsSliceOf sl vl vu vs) (pl : IsPart vl none) (pu : IsPart vu none) (ps : IsPart vs (some (-1)))
    (h : Q (.ref s.heap.objs.size) { s with heap := s.heap.push { cls := .type "tuple", data := .seq items.toList.reverse.toArray } }) (hsz : items.size ≤ sizeLine) : wpAny (model prog w) A (getItem (.ref t) (.ref sl)) Q E s := by
  obtain ⟨os, hos, hcs, hds⟩ := id hs
  have hT : s.TypeIs (.ref sl) "slice" := ⟨os, hos, hcs⟩
  have hok : sizeOk (.seq items.toList.reverse.toArray) := by
    show items.toList.reverse.toArray.size ≤ sizeLine
    rw [List.size_toArray, List.length_reverse, Array.length_toList]
    exact hsz
  unfold getItem
  try with_reducible refine wpAny_holding ?_
  first | refine wpAny_bind (wpAny_pure ?_) | skip
  refine wpAny_bind (wpAny_sequenceKey ht.typeIs (by decide) ?_)
  refine wpAny_bind (wpAny_callSpecial?_slot (name := Str.ofString "__getitem__") ht.typeIs PyProof.Rows.slot_tuple_getitem
    (wpAny_call_entry PyProof.Rows.slot_tuple_getitem ht.typeIs entry_tuple_getitem ?_ (args_tuple_getitem _ _)))
  show wpAny _ _ (Builtin.Tuple.tupleItemsOf (.ref t) >>= _) _ _ s
  refine wpAny_bind (tupleItemsOf_ ht (wpAny_bind (wpAny_typeOf hT ?_)))
  rw [if_pos (by decide)]
  refine wpAny_bind (applied_rev hs pl pu ps ?_)
  show wpAny _ _ (if (((items.size : Int) - 1 == 0) && ((-1 : Int) == 1) && (items.size == items.size)) = true then _ else _) _ _ s
  rw [if_neg (by rw [show ((-1 : Int) == 1) = false from rfl, Bool.and_false, Bool.false_and]; exact Bool.false_ne_true), pick_rev]
  first
    | exact wpAny_bind (m := Builtin.Tuple.tupleExact _) (wpAny_newObj_type (wpAny_pure ⟨_, rfl, wpAny_pure h⟩) hok)
    | exact wpAny_bind (wpAny_bind (m := Builtin.Tuple.tupleExact _) (wpAny_newObj_type (wpAny_pure ⟨_, rfl, wpAny_pure h⟩) hok))
end
section
variable {X : Cx}
def tRevT (K : PySem.W.Frag) (te : TE) : TE := fun σ H Q => te σ H fun x H1 => ∃ a xs, x = .ref a ∧ SqT K H1 a xs ∧ ∀ p, H1 p = none → Q (.ref p) (upd H1 p (.tup xs.reverse))
theorem pe_revTp {e : Expr} {te : TE} {k : Nat} {p1 p2 p3 pos : Pos} (he : PE X e te) : PE X (.Subscript e (.Slice none none (some (.UnaryOp .USub (.Constant (.int 1) k p1) p2)) p3) pos) (tRevT X.K te) := by
  refine ⟨fun pins s σ H Q I h => ?_⟩
  refine Subscript_ (thn (he.run pins s σ H _ I h) fun v s1 ⟨x, H1, I1, r1, a, xs, ex, hx, q⟩ => ?_)
  subst ex
  cases r1
  have hst : PO X (some (.UnaryOp .USub (.Constant (.int 1) k p1) p2)) (tPart (tUn (rU fun i => .int (-i)) (tC (.int 1)))) := po_some (pe_un un_neg pe_int)
  refine wpAny_Slice (thn (po_none.run pins s1 σ H1 (fun o H2 => o = none ∧ H2 = H1) I1 ⟨rfl, rfl⟩) fun vl s2 ⟨l, H2, I2, pl, el, e2⟩ => ?_)
  subst el e2
  refine thn (po_none.run pins s2 σ H2 (fun o H3 => o = none ∧ H3 = H2) I2 ⟨rfl, rfl⟩) fun vu s3 ⟨u, H3, I3, pu, eu, e3⟩ => ?_
  subst eu e3
  refine thn (hst.run pins s3 σ H3 (fun o H4 => o = some (-1) ∧ H4 = H3) I3 ⟨1, rfl, -1, rfl, rfl, rfl⟩) fun vs s4 ⟨o, H4, I4, ps, eo, e4⟩ => ?_
  subst eo e4
  have I5 : Inv X pins σ H4 { s4 with heap := s4.heap.push { cls := .type "slice", data := .fields #[vl, vu, vs] } } := I4.kept (t' := s4.toks) fun b ob q => Heap.get?_push_of_some _ q
  obtain ⟨its, r, ht, hz⟩ := I5.tuple hx
  have hlen := r.length
  show wpAny (model X.prog X.w) X.A (subscriptTail e (.Slice none none (some (.UnaryOp .USub (.Constant (.int 1) k p1) p2)) p3) (.ref a) (.ref s4.heap.objs.size)) (EP X pins σ Q) X.xe { s4 with heap := s4.heap.push { cls := .type "slice", data := .fields #[vl, vu, vs] } }
  refine tail_any (ops := [.ref a, .ref s4.heap.objs.size]) ht.typeIs PyProof.Rows.slot_tuple_getitem.lookup ?_ (by with_unfolding_all rfl)
  refine tuple_rev ht (Heap.IsSliceOf.new _ vl vu vs) pl pu ps ?_ (by rw [List.size_toArray]; omega)
  refine ⟨.ref _, _, I5.laid (t' := s4.toks) (o := .tup xs.reverse) (fun b ob q => Heap.get?_push_of_some _ q) (Nat.le_refl _) ?_, rfl, q _ (I5.hok.fresh (Nat.le_refl _))⟩
  exact ⟨by rw [List.length_reverse]; exact hz, _, r.reverse, IsTup.new _ _⟩
end
end Ru
namespace Ru
open PySem PySem.Spec PyProof.Rows L2
/-! # a third rule of my own: tuple(d) of a dict -/
section
variable {prog : Program} {w : World} {A : Around} {E : Value → Shared → Prop} {s : Shared} {r d : Addr} {n : Nat} {P : Nat → Value → Prop} {OK : Heap → Prop}
theorem code_tuple_dict {Q₁ : Value → Shared → Prop} (S : PySem.W.KdlSrc prog w "dict" r d n P OK) (hh : A.handled = none) (hok : OK s.heap) (hn : n ≤ sizeLine)
    (h : ∀ (h' : Heap) (tk : Nat) (acc : Array Value), (∀ b o, s.heap.get? b = some o → h'.get? b = some o) → ItemsOf P acc n → Q₁ (.ref h'.objs.size) { s with heap := h'.push { cls := .type "tuple", data := .seq acc }, toks := tk }) :
    codeAny (model prog w) A (.call (.builtin "tuple.__new__") ⟨[.type "tuple", .ref r], []⟩) (wants Q₁ E) s := by
  refine codeAny_of_tree ?_
  show wpAny _ A.in1 (do checkBuiltinCall "tuple.__new__" ⟨[.type "tuple", .ref r], []⟩; again (.builtin "tuple.__new__" ⟨[.type "tuple", .ref r], []⟩)) _ _ s
  refine wpAny_bind (wpAny_of_eq (F.newCall_tuple_1 _) (wpAny_pure ⟨plainId_quiet F.plain_tuple_new _, codeAny_builtin F.entry_tuple_new ?_⟩))
  rw [Around.under_plainId F.plain_tuple_new _]
  have hsub := sub_tuple_self
  have hinit := init_tuple_lookup
  have hmh := madeHere_tuple
  have hT := S.type _ hok
  wp_walk using wpAny_typeOf hT, PySem.W.kdu_collect (A := A.in1) S (show A.in1.handled = none from hh) hok hn
  intro h' tk acc hk hacc
  show wpAny _ _ (Builtin.Tuple.tupleExact acc.toList.toArray >>= fun v => ret v) _ _ _
  unfold Builtin.Tuple.tupleExact
  refine wpAny_bind (wpAny_newObj_type ?_ (by show acc.toList.toArray.size ≤ sizeLine; simp only [Array.toArray_toList]; rw [hacc.1]; exact hn))
  refine wpAny_pure ?_
  have e : acc.toList.toArray = acc := by simp
  rw [e]
  exact h h' tk acc hk hacc
theorem call_tuple_dict {Q : Value → Shared → Prop} (S : PySem.W.KdlSrc prog w "dict" r d n P OK) (hh : A.handled = none) (hok : OK s.heap) (hn : n ≤ sizeLine)
    (h : ∀ (h' : Heap) (tk : Nat) (acc : Array Value), (∀ b o, s.heap.get? b = some o → h'.get? b = some o) → ItemsOf P acc n → Q (.ref h'.objs.size) { s with heap := h'.push { cls := .type "tuple", data := .seq acc }, toks := tk }) :
    wpAny (model prog w) A (call (.type "tuple") [.ref r]) Q E s := by
  refine callType_codes (Q₁ := fun obj s₁ => s₁.TypeIs obj "tuple" ∧ Q obj s₁) F.called_tuple (F.typeCall_tuple_1 _) F.entry_object_init
    (code_tuple_dict S hh hok hn fun h' tk acc hk ha => ⟨⟨_, Heap.get?_push_size _ rfl, rfl⟩, h h' tk acc hk ha⟩) fun obj s₁ h₁ => ?_
  exact ⟨h₁.1, F.args_object_init_2 obj _, object_init_meets F.called_tuple.init.lookup F.called_tuple.made (by decide) prog w A.in1 _ s₁ ⟨h₁.1, rfl, h₁.2⟩⟩
end
section
variable {X : Cx}
theorem call_tupD (hcalm : X.calm = true) : CallR X (.type "tuple") (fun xs H Q => ∃ (a : Addr) (kvs : List (L2.Key × V)), xs = [.ref a] ∧ Rd H a (.dK kvs) ∧ ∀ p, H p = none → Q (.ref p) (upd H p (.tup (kvs.map fun kv => kV kv.1)))) := by
  intro pins s σ H xs us Q I r q
  obtain ⟨a, kvs, rfl, hd, q⟩ := q
  obtain ⟨u, rfl, rx⟩ := vals1 r
  cases rx
  obtain ⟨z, lo, vs, rel, dd⟩ := dk_rd I.hok hd
  obtain ⟨ep, hat⟩ := dd.dictAt
  have ek : (kvs.map fun kv => kV kv.1) = vs.map fun p => kV p.1 := by
    have e := congrArg (List.map kV) rel.keys
    rw [List.map_map, List.map_map] at e
    exact e
  refine call_tuple_dict (PySem.W.kdl_dict (knd := mixKind X.prog X.w) (kvs := vs) (ep := ep) lo) (I.ok.hd hcalm) hat (by rw [← rel.length]; exact z) fun h' tk acc hk hacc => ?_
  have hv : Vals (vs.map fun p => kV p.1) acc.toList := keys_at (by rw [Array.length_toList]; exact hacc.1) fun j v e => hacc.2 j v (by rw [← Array.getElem?_toList]; exact e)
  have I1 : Inv X pins σ H { s with heap := h', toks := tk } := I.kept hk
  refine ⟨.ref h'.objs.size, _, I1.laid (t' := tk) (o := .tup (kvs.map fun kv => kV kv.1)) (fun b u e => Heap.get?_push_of_some _ e) (Nat.le_refl _) ?_, rfl, q _ (I1.hok.fresh (Nat.le_refl _))⟩
  refine ⟨by rw [List.length_map]; exact z, acc.toList, by rw [ek]; exact hv, ?_⟩
  rw [Array.toArray_toList]
  exact IsTup.new _ _
end
end Ru
namespace Lo
open PySem L2 Fx
def Wi2 : List Fx.It → Nat
  | [] => 0
  | .f g :: r => 2 * sz g + Wi2 r
  | .leave _ :: r => 1 + Wi2 r
theorem Wi2_app : ∀ a b : List Fx.It, Wi2 (a ++ b) = Wi2 a + Wi2 b
  | [], b => by rw [List.nil_append, Wi2, Nat.zero_add]
  | .f g :: a, b => by
    show 2 * sz g + Wi2 (a ++ b) = 2 * sz g + Wi2 a + Wi2 b
    rw [Wi2_app a b]
    omega
  | .leave n :: a, b => by
    show 1 + Wi2 (a ++ b) = 1 + Wi2 a + Wi2 b
    rw [Wi2_app a b]
    omega
theorem Wi2_fs : ∀ fs : List Fm, Wi2 (fs.map Fx.It.f) ≤ 2 * szs fs
  | [] => Nat.le_refl _
  | f :: fs => by
    have ih := Wi2_fs fs
    simp only [List.map_cons, Wi2, szs]
    omega
theorem Wi2_len : ∀ l : List Fx.It, l.length ≤ Wi2 l
  | [] => Nat.le_refl _
  | .f g :: r => by
    have := Wi2_len r
    have := sz_pos g
    simp only [List.length_cons, Wi2]
    omega
  | .leave n :: r => by
    have := Wi2_len r
    simp only [List.length_cons, Wi2]
    omega
def IAt (H : Hp) : List Fx.It → List V → Prop
  | [], vs => vs = []
  | .f g :: r, vs => ∃ u us, vs = u :: us ∧ FAt H g u ∧ IAt H r us
  | .leave n :: r, vs => ∃ (p : Addr) (us : List V), vs = .ref p :: us ∧ H p = some (.tup [.str ("leave" : Str), .str (mkS n)]) ∧ IAt H r us
theorem IAt.keep {H H' : Hp} (k : KeepT H H') : ∀ (l : List Fx.It) (vs : List V), IAt H l vs → IAt H' l vs
  | [], vs, h => h
  | .f g :: r, vs, h => by
    obtain ⟨u, us, e, h1, h2⟩ := h
    exact ⟨u, us, e, FAt.keep k g u h1, IAt.keep k r us h2⟩
  | .leave n :: r, vs, h => by
    obtain ⟨p, us, e, h1, h2⟩ := h
    exact ⟨p, us, e, k _ _ h1, IAt.keep k r us h2⟩
theorem IAt.len {H : Hp} : ∀ (l : List Fx.It) (vs : List V), IAt H l vs → vs.length = l.length
  | [], vs, h => by
    cases h
    rfl
  | .f g :: r, vs, h => by
    obtain ⟨u, us, rfl, h1, h2⟩ := h
    rw [List.length_cons, List.length_cons, IAt.len r us h2]
  | .leave n :: r, vs, h => by
    obtain ⟨u, us, rfl, h1, h2⟩ := h
    rw [List.length_cons, List.length_cons, IAt.len r us h2]
theorem IAt.fs {H : Hp} {r : List Fx.It} {vs : List V} (h : IAt H r vs) : ∀ (fs : List Fm) (us : List V), FAts H fs us → IAt H (fs.map Fx.It.f ++ r) (us ++ vs)
  | [], us, hf => by
    cases hf
    exact h
  | f :: fs, us, hf => by
    obtain ⟨u, us', rfl, h1, h2⟩ := hf
    exact ⟨u, us' ++ vs, rfl, h1, IAt.fs h fs us' h2⟩
theorem IAt.cons_f {H : Hp} {g : Fm} {r : List Fx.It} {vs : List V} (h : IAt H (.f g :: r) vs) : ∃ u us, vs = u :: us ∧ FAt H g u ∧ IAt H r us := h
theorem IAt.cons_l {H : Hp} {n : Cs} {r : List Fx.It} {vs : List V} (h : IAt H (.leave n :: r) vs) : ∃ (p : Addr) (us : List V), vs = .ref p :: us ∧ H p = some (.tup [.str ("leave" : Str), .str (mkS n)]) ∧ IAt H r us := h
def WfS : List Fx.It → List Cs → Prop
  | [], _ => True
  | .f g :: r, bd => (∃ bd', (∀ x, x ∈ bd' ↔ x ∈ bd) ∧ wf bd' g) ∧ WfS r bd
  | .leave n :: r, bd => n ∈ bd ∧ WfS r (bd.erase n)
theorem WfS.fs {r : List Fx.It} {bd bd' : List Cs} (e : ∀ x, x ∈ bd' ↔ x ∈ bd) (h : WfS r bd) : ∀ fs : List Fm, wfs bd' fs → WfS (fs.map Fx.It.f ++ r) bd
  | [], _ => h
  | f :: fs, hf => ⟨⟨bd', e, hf.1⟩, WfS.fs e h fs hf.2⟩
/-- the counts that stand in the dict of bound names -/
def BOk (kvs : List (L2.Key × V)) (bd : List Cs) : Prop := ∀ x : Cs, (x ∈ bd ∧ valV kvs (Sum.inr (mkS x)) = some (.int 1)) ∨ (x ∉ bd ∧ (valV kvs (Sum.inr (mkS x)) = none ∨ valV kvs (Sum.inr (mkS x)) = some (.int 0)))
theorem key_ne {x n : Cs} (h : x ≠ n) : (Sum.inr (mkS x) : L2.Key) ≠ Sum.inr (mkS n) := fun z => h (mkS_inj (Sum.inr.inj z))
theorem BOk.enter {kvs : List (L2.Key × V)} {bd : List Cs} (h : BOk kvs bd) (n : Cs) : BOk (putK kvs (Sum.inr (mkS n)) (.int 1)) (n :: bd) := fun x => by
  rw [valV_put]
  by_cases e : x = n
  · rw [e, if_pos rfl]
    exact .inl ⟨List.mem_cons_self, rfl⟩
  · rw [if_neg (key_ne e)]
    rcases h x with ⟨a, b⟩ | ⟨a, b⟩
    · exact .inl ⟨List.mem_cons_of_mem _ a, b⟩
    · exact .inr ⟨fun z => (List.mem_cons.mp z).elim e a, b⟩
theorem BOk.left {kvs : List (L2.Key × V)} {bd : List Cs} (h : BOk kvs bd) (nd : bd.Nodup) (n : Cs) : BOk (putK kvs (Sum.inr (mkS n)) (.int 0)) (bd.erase n) := fun x => by
  rw [valV_put]
  have hm : x ∈ bd.erase n ↔ x ≠ n ∧ x ∈ bd := nd.mem_erase_iff
  by_cases e : x = n
  · rw [e, if_pos rfl]
    exact .inr ⟨fun z => (nd.mem_erase_iff.mp z).1 rfl, .inr rfl⟩
  · rw [if_neg (key_ne e)]
    rcases h x with ⟨a, b⟩ | ⟨a, b⟩
    · exact .inl ⟨hm.mpr ⟨e, a⟩, b⟩
    · exact .inr ⟨fun z => a (hm.mp z).2, b⟩
theorem fd_put (l : List Cs) (x : Cs) : putK (dS (l.map mkS) fun _ => V.bl true) (Sum.inr (mkS x) : L2.Key) (.bl true) = dS ((add1 l x).map mkS) fun _ => .bl true := by
  rw [dS_put]
  have e : addN (l.map mkS) (mkS x) = (add1 l x).map mkS := by
    unfold addN add1
    by_cases h : x ∈ l
    · rw [if_pos h, if_pos (List.mem_map.mpr ⟨x, h, rfl⟩)]
    · rw [if_neg h, if_neg, List.map_append]
      · rfl
      · intro z
        obtain ⟨y, hy, e⟩ := List.mem_map.mp z
        exact h (mkS_inj e ▸ hy)
  rw [e]
  refine dS_congr fun y _ => ?_
  by_cases z : y = mkS x
  · rw [z, put_at]
  · rw [put_off z]
theorem mk_leave : ("leave" : Str) = mkS [108, 101, 97, 118, 101] := by decide +kernel
theorem hd_leave {bd : List Cs} {f : Fm} (h : wf bd f) : decide (hd f = ("leave" : Str)) = false := by
  cases f with
  | cmp op n1 k1 n2 k2 =>
    show decide (("compare" : Str) = ("leave" : Str)) = false
    decide +kernel
  | neg f =>
    show decide (("not" : Str) = ("leave" : Str)) = false
    decide +kernel
  | row w fs =>
    show decide (mkS w = ("leave" : Str)) = false
    rcases h.1 with rfl | rfl <;> decide +kernel
  | qu w n f =>
    show decide (mkS w = ("leave" : Str)) = false
    rcases h.1 with rfl | rfl <;> decide +kernel
theorem add1_len (l : List Cs) (x : Cs) : (add1 l x).length ≤ l.length + 1 := by
  unfold add1
  split <;> simp
def FI (H : Hp) (v : V) (g : Fm) (aF aB aL : Addr) (m : Nat) (σ : L2.St) (H' : Hp) : Prop := ∃ (ks bd : List Cs) (l : List Fx.It) (us : List V) (kvs : List (L2.Key × V)) (y4 y5 y6 y7 : Option V),
  m = Wi2 l ∧ σ = [some v, some (.ref aF), some (.ref aB), some (.ref aL), y4, y5, y6, y7] ∧ Same H H' ∧ H' aF = some (.dK (dS (ks.map mkS) fun _ => .bl true)) ∧ H' aB = some (.dK kvs) ∧ H' aL = some (.lst us.reverse) ∧
  IAt H' l us ∧ WfS l bd ∧ BOk kvs bd ∧ bd.Nodup ∧ ks.length + kvs.length + Wi2 l ≤ 2 * sz g ∧ res l bd ks = firsts (fr [] g)
section
variable {P : Program} {w : World} {K : PySem.W.Frag} {mg : Str → Option Value} {base : Heap}
/-! ### free_names -/
def spFree : Sp := fun vs H Q _ => ∃ (v : V) (g : Fm), vs = [v] ∧ FAt H g v ∧ wf [] g ∧ sz g ≤ 1000 ∧ ∀ H' p, Same H H' → H p = none → H' p = some (.tup (((firsts (fr [] g)).map mkS).map V.str)) → Q (.ref p) H'
abbrev nFree : List Str := ["formula", "found", "bound", "waiting", "at_hand", "word", "name", "_"]
theorem scFree : FnScope nFree ["formula"] (defScope sFree) := ⟨rfl, rfl, rfl, by decide +kernel, rfl, by decide +kernel, by decide +kernel⟩
theorem ok_free {f aO aR aK : Addr} {fd : FuncData} (F : Fun K "free_names" "free_names" sFree f fd) (T : Blt mg) (C : Cst K mg aO aR aK) : FnOk P w K mg base CX0 1 f fd ["formula"] spFree := by
  refine F.ok scFree (fun vs H Q E h => ?_) (fun cdv A outer s H vs Q E hr h => ?_)
  · obtain ⟨v, g, rfl, _⟩ := h
    rfl
  · obtain ⟨v, g, rfl, hg, hw, hsz, q⟩ := h
    have nd := scFree.nd
    have hu := hu_of hr
    refine ⟨_, pss_cons (ps_set (i := 1) nd rfl (.inl rfl) pe_dnewK)
      (pss_cons (ps_set (i := 2) nd rfl (.inl rfl) pe_dnewK)
      (pss_cons (ps_set (i := 3) nd rfl (.inl rfl) (pe_lst (pa_cons (pv 0) pa_nil)))
      (pss_cons (ps_while PassesOwn.never (pt_truth (pv 3) (by intro _; rfl))
        (pss_cons (ps_set (i := 4) nd rfl (.inl rfl) (pe_bm0 PySem.F.plainAttrs_list PySem.F.slot_list_pop PySem.F.type_list_pop mt_pop (pv 3)))
        (pss_cons (ps_set (i := 5) nd rfl (.inl rfl) (pe_ix ix_tup (pv 4) pe_int (fun _ _ => rfl)))
        (pss_one (ps_if (pt_cmpR op_eq (pv 5) pe_str (nomark _))
          (pss_one (ps_for PassesOwn.never rfl (pi_tup (pe_slice sl_tup (pv 4) (po_some pe_int) po_none)) (pg_tup rfl (pgs_cons (pg_name (i := 6) nd rfl (.inl rfl)) (pgs_cons (pg_name (i := 7) nd rfl (.inl rfl)) pgs_nil)))
            (pss_one (ps_if (PW.pt (pw_and (pt_cmpR op_ne (pv 6) pe_str (nomark _)) (pw_and1 (pt_cmpR op_eq (pe_dget2 hu (pv 2) (pv 6) pe_int ⟨rfl, rfl, rfl, rfl⟩) pe_int (nomark _))))) (pss_one (ps_dput hu (pv 1) (pv 6) pe_bl rfl)) pss_nil))))
        (pss_one (ps_if (pt_cmpR op_eq (pv 5) pe_str (nomark _))
          (pss_one (ps_dput hu (pv 2) (pe_ix ix_tup (pv 4) pe_int (fun _ _ => rfl)) (pe_op op_sub (pe_dget hu (pv 2) (pe_ix ix_tup (pv 4) pe_int (fun _ _ => rfl)) (fun _ _ => rfl)) pe_int) rfl))
        (pss_one (ps_if (pt_cmpR op_eq (pv 5) pe_str (nomark _))
          (pss_one (ps_expr (pe_bm PySem.F.plainAttrs_list PySem.F.slot_list_append PySem.F.type_list_append mt_append (pv 3) (pa_cons (pe_ix ix_tup (pv 4) pe_int (fun _ _ => rfl)) pa_nil))))
        (pss_one (ps_if (pt_cmpR op_in_seq (pv 5) (pe_glob (v := .ref aK) (by rfl) C.kinds rfl) (by rfl))
          (pss_cons (ps_dput hu (pv 2) (pe_ix ix_tup (pv 4) pe_int (fun _ _ => rfl)) (pe_op op_add (pe_dget2 hu (pv 2) (pe_ix ix_tup (pv 4) pe_int (fun _ _ => rfl)) pe_int ⟨rfl, rfl, rfl, rfl⟩) pe_int) rfl)
          (pss_one (ps_expr (pe_bm PySem.F.plainAttrs_list PySem.F.slot_list_extend PySem.F.type_list_extend mt_extend (pv 3) (pa_cons (pe_lst (pa_cons (pe_tup (pa_cons pe_str (pa_cons (pe_ix ix_tup (pv 4) pe_int (fun _ _ => rfl)) pa_nil))) (pa_cons (pe_ix ix_tup (pv 4) pe_int (fun _ _ => rfl)) pa_nil))) pa_nil)))))
          (pss_one (ps_expr (pe_bm PySem.F.plainAttrs_list PySem.F.slot_list_extend PySem.F.type_list_extend Ru.mt_extT (pv 3) (pa_cons (Ru.pe_revTp (pe_ix ix_tup (pv 4) pe_int (fun _ _ => rfl))) pa_nil)))))))))))))))
      (pss_one (ps_ret (pe_callTy (Ru.call_tupD rfl) (by rfl) T.tuple PyProof.Rows.boot_tuple (pa_cons (pv 1) pa_nil))))))), ?_⟩
    intro aF nF aB nB
    have sF := same_upd (o := HO.dK []) nF
    have sB := same_upd (o := HO.dK []) nB
    have sFB := sF.trans sB
    refine ⟨_, rfl, by show 1 ≤ sizeLine; decide, fun aL nL => ?_⟩
    have sL := same_upd (o := HO.lst [v]) nL
    have sA := sFB.trans sL
    have FB : aF ≠ aB := fun z => by
      rw [← z, upd_same] at nB
      cases nB
    have FL : aF ≠ aL := fun z => by
      have := sB _ _ (upd_same (H := H) (a := aF) (o := HO.dK []))
      rw [← z] at nL
      rw [nL] at this
      cases this
    have BL : aB ≠ aL := fun z => by
      rw [← z, upd_same] at nL
      cases nL
    have hB0 : H aB = none := sF.free nB
    have hL0 : H aL = none := sFB.free nL
    refine ⟨FI H v g aF aB aL, ?_, ?_⟩
    · refine ⟨_, [], [], [.f g], [v], [], none, none, none, none, rfl, rfl, sA, sL _ _ (sB _ _ upd_same), sL _ _ upd_same, upd_same, ⟨v, [], rfl, FAt.keep (KeepT.of sA) _ _ hg, rfl⟩, ⟨⟨[], fun x => Iff.rfl, hw⟩, trivial⟩, fun x => .inr ⟨List.not_mem_nil, .inl rfl⟩, List.nodup_nil, ?_, rfl⟩
      simp [Wi2]
    rintro m σ H1 ⟨ks, bd, l, us, kvs, y4, y5, y6, y7, rfl, rfl, s1, hF, hB, hL, hI, hwf, hbk, hnd, hm, hres⟩
    have lus := IAt.len _ _ hI
    refine ⟨_, rfl, !us.reverse.isEmpty, .inl ⟨_, SqL.of hL, rfl⟩, ?_⟩
    cases l with
    | nil =>
      cases hI
      refine iteF ⟨_, rfl, aF, _, rfl, .inl hF, fun p np => ?_⟩
      refine q _ p (s1.later (s1.free np)) (s1.free np) ?_
      rw [upd_same]
      have e : ks = firsts (fr [] g) := hres
      rw [← e]
      congr 2
      show ((ks.map mkS).map fun x => ((Sum.inr x : L2.Key), V.bl true)).map (fun kv => kV kv.1) = _
      rw [List.map_map]
      rfl
    | cons x r =>
      have fin : ∀ {X Y : Prop}, X → (if (!us.reverse.isEmpty) = true then X else Y) := fun {X Y} h => by
        have : (!us.reverse.isEmpty) = true := by
          cases us with
          | nil => simp at lus
          | cons a b => simp
        rw [if_pos this]
        exact h
      refine fin ⟨fun σ' H' => ∃ m', m' < Wi2 (x :: r) ∧ FI H v g aF aB aL m' σ' H', fun _ _ h => h, ?_⟩
      obtain ⟨u, us', rfl⟩ : ∃ u us', us = u :: us' := by
        cases us with
        | nil => simp at lus
        | cons a b => exact ⟨a, b, rfl⟩
      rw [List.reverse_cons] at hL
      refine ⟨_, rfl, .inl ⟨rfl, _, SqL.of hL⟩, aL, _, _, rfl, rfl, hL, by rw [List.length_append, List.length_singleton, Nat.add_sub_cancel, List.getElem?_append_right (Nat.le_refl _), Nat.sub_self]; rfl, ?_⟩
      rw [List.dropLast_concat]
      have kw : KeepT H1 (upd H1 aL (.lst us'.reverse)) := KeepT.upd hL (by intro xs z; cases z)
      have hI2 := IAt.keep kw _ _ hI
      have hF2 : upd H1 aL (.lst us'.reverse) aF = some (.dK (dS (ks.map mkS) fun _ => .bl true)) := by rw [upd_ne FL]; exact hF
      have hB2 : upd H1 aL (.lst us'.reverse) aB = some (.dK kvs) := by rw [upd_ne BL]; exact hB
      have hL2 : upd H1 aL (.lst us'.reverse) aL = some (.lst us'.reverse) := upd_same
      have s2 : Same H (upd H1 aL (.lst us'.reverse)) := s1.later hL0
      generalize upd H1 aL (.lst us'.reverse) = H2 at hI2 hF2 hB2 hL2 s2 ⊢
      have vs1 : ∀ a b : Str, decide (V.str a = V.str b) = decide (a = b) := fun a b => decide_eq_decide.mpr ⟨fun z => V.str.inj z, fun z => by rw [z]⟩
      cases x with
      | leave n =>
        obtain ⟨p, us2, e, hp, hI3⟩ := hI2.cons_l
        obtain ⟨rfl, rfl⟩ : u = .ref p ∧ us' = us2 := ⟨(List.cons.inj e).1, (List.cons.inj e).2⟩
        obtain ⟨hn, hwf'⟩ := hwf
        refine ⟨_, rfl, p, _, 0, _, rfl, rfl, SqT.of hp, atI_nat (j := 0) rfl, ?_⟩
        refine ⟨_, rfl, rfl, _, rfl, ?_⟩
        rw [vs1, show decide (("leave" : Str) = ("compare" : Str)) = false from by decide +kernel]
        refine iteF ⟨_, rfl, rfl, _, rfl, ?_⟩
        rw [vs1, decide_eq_true rfl]
        have g1v : valV kvs (Sum.inr (mkS n)) = some (.int 1) := (hbk n).elim (·.2) fun z => absurd hn z.1
        have gd : DGet H2 aB (.str (mkS n)) (some (.int 1)) := g1v ▸ DGet.k (k := Sum.inr (mkS n)) hB2
        simp only [Wi2] at hm
        refine iteT ⟨_, rfl, _, rfl, p, _, 1, _, rfl, rfl, SqT.of hp, atI_nat (j := 1) rfl, aB, _, rfl, gd, _, _, rfl, rfl, _, rfl, _, rfl, p, _, 1, _, rfl, rfl, SqT.of hp, atI_nat (j := 1) rfl, aB, _, rfl, DPut.k (k := Sum.inr (mkS n)) hB2 (Nat.lt_of_le_of_lt (show _ ≤ 1000000 by omega) (by decide)), ?_⟩
        have kb : KeepT H2 (upd H2 aB (.dK (putK kvs (Sum.inr (mkS n)) (.int (1 - 1))))) := KeepT.upd hB2 (by intro xs z; cases z)
        have lp := length_putK kvs (Sum.inr (mkS n) : L2.Key) (.int 0)
        refine ⟨Wi2 r, by simp only [Wi2]; omega, ks, bd.erase n, r, us', _, _, _, _, _, rfl, rfl, s2.later hB0, ?_, upd_same, ?_, IAt.keep kb _ _ hI3, hwf', hbk.left hnd n, hnd.erase n, ?_, hres⟩
        · rw [upd_ne FB]
          exact hF2
        · rw [upd_ne (Ne.symm BL)]
          exact hL2
        · show ks.length + (putK kvs (Sum.inr (mkS n)) (V.int 0)).length + _ ≤ _
          omega
      | f g1 =>
        obtain ⟨u2, us2, e, hg1, hI3⟩ := hI2.cons_f
        obtain ⟨rfl, rfl⟩ : u = u2 ∧ us' = us2 := ⟨(List.cons.inj e).1, (List.cons.inj e).2⟩
        obtain ⟨⟨bd', hbd, hw1⟩, hwf'⟩ := hwf
        obtain ⟨p, xs, rfl, hp⟩ := fat_hd hg1
        obtain ⟨d1, d2⟩ := hd_in hw1
        have d3 := hd_leave hw1
        simp only [Wi2] at hm
        refine ⟨_, rfl, p, _, 0, _, rfl, rfl, SqT.of hp, atI_nat (j := 0) rfl, ?_⟩
        refine ⟨_, rfl, rfl, _, rfl, ?_⟩
        rw [vs1, d1]
        cases g1 with
        | cmp op n1 k1 n2 k2 =>
          obtain ⟨p', a, b, e2, h1, h2, h3⟩ := hg1
          obtain rfl : p = p' := V.ref.inj e2
          refine iteT ⟨_, rfl, 2, rfl, p, _, rfl, SqT.of h1, fun z => absurd z.1 (show ¬ (2 : Nat) = 0 by decide), fun sl nsl => ?_⟩
          have ecut : cutV [V.str ("compare" : Str), .str (mkS op), .ref a, .ref b] (some 2) none = [V.ref a, .ref b] := rfl
          rw [ecut]
          have sS := same_upd (o := HO.tup [V.ref a, .ref b]) nsl
          have sS2 := s2.trans sS
          have hI4 := IAt.keep (KeepT.of sS) _ _ hI3
          have hS := upd_same (H := H2) (a := sl) (o := HO.tup [V.ref a, .ref b])
          have hF3 := sS _ _ hF2
          have hB3 := sS _ _ hB2
          have hL3 := sS _ _ hL2
          have h23 := sS _ _ h2
          have h33 := sS _ _ h3
          generalize upd H2 sl (.tup [V.ref a, .ref b]) = H3 at sS2 hI4 hS hF3 hB3 hL3 h23 h33 ⊢
          refine ⟨sl, rfl, ⟨_, SqT.of hS⟩, for_tup (K := K) (a := sl) (xs := [V.ref a, .ref b]) (fun i σ H' => ∃ (y6 y7 : Option V), σ = [some v, some (.ref aF), some (.ref aB), some (.ref aL), some (.ref p), some (.str ("compare" : Str)), y6, y7] ∧ Same H H' ∧ KeepT H3 H' ∧ H' aF = some (.dK (dS ((addAll ks (([n1, n2].take i).filter (fnName bd))).map mkS) fun _ => .bl true)) ∧ H' aB = some (.dK kvs) ∧ H' aL = some (.lst us'.reverse) ∧ (addAll ks (([n1, n2].take i).filter (fnName bd))).length ≤ ks.length + i)
            ⟨_, _, rfl, sS2, KeepT.refl _, hF3, hB3, hL3, Nat.le_refl _⟩ (fun i σ H' _ ⟨_, _, _, _, k, _⟩ => SqT.of (k _ _ hS)) ?_ ?_⟩
          · rintro i x σ H4 hi ⟨y6, y7, rfl, s4, k4, hF4, hB4, hL4, hl4⟩
            obtain ⟨n, k, a', rfl, ha', hni⟩ : ∃ (n : Cs) (k : Int) (a' : Addr), x = .ref a' ∧ H4 a' = some (.tup [.str (mkS n), .int k]) ∧ [n1, n2][i]? = some n := by
              match i, hi with
              | 0, hi => exact ⟨n1, k1, a, (Option.some.inj hi).symm, k4 _ _ h23, rfl⟩
              | 1, hi => exact ⟨n2, k2, b, (Option.some.inj hi).symm, k4 _ _ h33, rfl⟩
              | i + 2, hi => simp at hi
            have et : [n1, n2].take (i + 1) = [n1, n2].take i ++ [n] := by rw [List.take_add_one, hni]; rfl
            have il : i < 2 := (List.getElem?_eq_some_iff.mp hni).1
            have en : addAll ks (([n1, n2].take (i + 1)).filter (fnName bd)) = if fnName bd n then add1 (addAll ks (([n1, n2].take i).filter (fnName bd))) n else addAll ks (([n1, n2].take i).filter (fnName bd)) := by
              rw [et, List.filter_append, addAll_app]
              by_cases hfn : fnName bd n = true
              · rw [if_pos hfn, List.filter_cons, if_pos hfn]
                rfl
              · rw [if_neg hfn, List.filter_cons, if_neg hfn]
                rfl
            rw [en]
            generalize addAll ks (([n1, n2].take i).filter (fnName bd)) = ks4 at hF4 hl4 ⊢
            refine ⟨a', _, rfl, SqT.of ha', rfl, _, _, rfl, _, _, rfl, rfl, ?_⟩
            refine ⟨_, rfl, rfl, _, rfl, ?_⟩
            rw [mk_zero, dec_mk]
            by_cases h0 : n = [48]
            · have ef : fnName bd n = false := by simp [fnName, h0]
              rw [decide_eq_true h0, ef]
              exact iteF ⟨_, _, rfl, s4, k4, hF4, hB4, hL4, Nat.le_trans hl4 (Nat.le_succ _)⟩
            · rw [decide_eq_false h0]
              refine iteT ⟨_, rfl, aB, rfl, .inl ⟨_, .inl hB4⟩, _, rfl, _, DGet.k (k := Sum.inr (mkS n)) hB4, ?_⟩
              rcases hbk n with ⟨z, gv⟩ | ⟨z, gv⟩
              · have ef : fnName bd n = false := by simp [fnName, z]
                rw [gv, ef]
                refine ⟨rfl, _, rfl, ?_⟩
                exact iteF ⟨_, _, rfl, s4, k4, hF4, hB4, hL4, Nat.le_trans hl4 (Nat.le_succ _)⟩
              · have gz : (valV kvs (Sum.inr (mkS n))).getD (.int 0) = .int 0 := by
                  rcases gv with y | y <;> rw [y] <;> rfl
                have ef : fnName bd n = true := by simp [fnName, z, h0]
                rw [gz, ef]
                have ll := add1_len ks4 n
                refine ⟨rfl, _, rfl, ?_⟩
                refine iteT ⟨_, rfl, _, rfl, aF, _, rfl, DPut.k (k := Sum.inr (mkS n)) hF4 (by rw [dS_len, List.length_map]; exact Nat.lt_of_le_of_lt (show _ ≤ 1000000 by omega) (by decide)), ?_⟩
                have kf : KeepT H4 (upd H4 aF (.dK (putK (dS (ks4.map mkS) fun _ => V.bl true) (Sum.inr (mkS n)) (.bl true)))) := KeepT.upd hF4 (by intro xs z; cases z)
                refine ⟨_, _, rfl, s4.later nF, k4.trans kf, ?_, ?_, ?_, ?_⟩
                · rw [upd_same, fd_put]
                  rfl
                · rw [upd_ne (Ne.symm FB)]
                  exact hB4
                · rw [upd_ne (Ne.symm FL)]
                  exact hL4
                · show (add1 ks4 n).length ≤ _
                  omega
          · rintro σ H4 ⟨y6, y7, rfl, s4, k4, hF4, hB4, hL4, hl4⟩
            simp only [sz] at hm
            refine ⟨Wi2 r, by simp only [Wi2, sz]; omega, _, bd, r, us', kvs, _, _, _, _, rfl, rfl, s4, hF4, hB4, hL4, IAt.keep k4 _ _ hI4, hwf', hbk, hnd, ?_, ?_⟩
            · have : ([V.ref a, V.ref b] : List V).length = 2 := rfl
              omega
            · rw [← hres, res_cmp]
              rfl
        | neg f =>
          obtain ⟨p', u, e2, h1, h2⟩ := hg1
          obtain rfl : p = p' := V.ref.inj e2
          refine iteF ⟨_, rfl, rfl, _, rfl, ?_⟩
          rw [vs1, d3]
          refine iteF ⟨_, rfl, rfl, _, rfl, ?_⟩
          rw [vs1, d2]
          refine iteT ⟨_, rfl, .inl ⟨rfl, _, SqL.of hL2⟩, _, rfl, p, _, 1, _, rfl, rfl, SqT.of h1, atI_nat (j := 1) rfl, aL, _, _, rfl, rfl, hL2, ?_, ?_⟩
          · rw [List.length_reverse]
            have := Wi2_len r
            have := IAt.len _ _ hI3
            exact Nat.lt_of_le_of_lt (show _ ≤ 1000000 by omega) (by decide)
          · have kl : KeepT H2 (upd H2 aL (.lst (us'.reverse ++ [u]))) := KeepT.upd hL2 (by intro xs z; cases z)
            refine ⟨Wi2 (.f f :: r), by simp only [Wi2, sz]; omega, ks, bd, .f f :: r, u :: us', kvs, _, _, _, _, rfl, rfl, s2.later hL0, ?_, ?_, ?_, ⟨u, us', rfl, FAt.keep kl _ _ h2, IAt.keep kl _ _ hI3⟩, ⟨⟨bd', hbd, hw1⟩, hwf'⟩, hbk, hnd, ?_, ?_⟩
            · rw [upd_ne FL]
              exact hF2
            · rw [upd_ne BL]
              exact hB2
            · rw [upd_same, List.reverse_cons]
            · simp only [Wi2, sz] at hm ⊢
              omega
            · rw [← hres, res_neg]
        | row w' fs =>
          obtain ⟨p', a, us3, e2, h1, h2, h3⟩ := hg1
          obtain rfl : p = p' := V.ref.inj e2
          obtain ⟨hw3, hw4, hw5⟩ := hw1
          refine iteF ⟨_, rfl, rfl, _, rfl, ?_⟩
          rw [vs1, d3]
          refine iteF ⟨_, rfl, rfl, _, rfl, ?_⟩
          rw [vs1, d2]
          refine iteF ⟨_, rfl, aK, _, rfl, .inr (C.kindsT H2), rfl, flat_strs _, _, rfl, ?_⟩
          rw [if_neg Bool.false_ne_true]
          have nk : inV (.str (hd (.row w' fs))) (([wAll, wSome].map mkS).map V.str) = false := by
            show inV (.str (mkS w')) _ = false
            rw [inV_mk]
            rcases hw3 with rfl | rfl <;> decide
          rw [nk]
          refine iteF ⟨_, rfl, .inl ⟨rfl, _, SqL.of hL2⟩, _, rfl, p, _, 1, _, rfl, rfl, SqT.of h1, atI_nat (j := 1) rfl, a, us3, rfl, SqT.of h2, fun t nt => ?_⟩
          have sT := same_upd (o := HO.tup us3.reverse) nt
          have hLT := sT _ _ hL2
          have l3 := FAts.len _ _ h3
          have lfs := szs_len fs
          have lr := Wi2_len r
          have lI := IAt.len _ _ hI3
          simp only [sz] at hm
          refine ⟨aL, t, us'.reverse, us3.reverse, rfl, rfl, hLT, SqT.of upd_same, small_sz (by rw [List.length_reverse, List.length_reverse]; omega), ?_⟩
          have kl : KeepT (upd H2 t (.tup us3.reverse)) (upd (upd H2 t (.tup us3.reverse)) aL (.lst (us'.reverse ++ us3.reverse))) := KeepT.upd hLT (by intro xs z; cases z)
          have wfs2 := Wi2_fs fs
          refine ⟨Wi2 (fs.map Fx.It.f ++ r), by rw [Wi2_app]; simp only [Wi2, sz]; omega, ks, bd, fs.map Fx.It.f ++ r, us3 ++ us', kvs, _, _, _, _, rfl, rfl, (s2.trans sT).later hL0, ?_, ?_, ?_, IAt.fs (IAt.keep ((KeepT.of sT).trans kl) _ _ hI3) _ _ (FAts.keep ((KeepT.of sT).trans kl) _ _ h3), WfS.fs hbd hwf' fs hw5, hbk, hnd, ?_, ?_⟩
          · rw [upd_ne FL]
            exact sT _ _ hF2
          · rw [upd_ne BL]
            exact sT _ _ hB2
          · rw [upd_same, List.reverse_append]
          · rw [Wi2_app]
            omega
          · rw [← hres, res_row]
        | qu w' n f =>
          obtain ⟨p', u, e2, h1, h2⟩ := hg1
          obtain rfl : p = p' := V.ref.inj e2
          obtain ⟨hw3, hn, hnb, hwf2⟩ := hw1
          refine iteF ⟨_, rfl, rfl, _, rfl, ?_⟩
          rw [vs1, d3]
          refine iteF ⟨_, rfl, rfl, _, rfl, ?_⟩
          rw [vs1, d2]
          refine iteF ⟨_, rfl, aK, _, rfl, .inr (C.kindsT H2), rfl, flat_strs _, _, rfl, ?_⟩
          rw [if_neg Bool.false_ne_true]
          have yk : inV (.str (hd (.qu w' n f))) (([wAll, wSome].map mkS).map V.str) = true := by
            show inV (.str (mkS w')) _ = true
            rw [inV_mk]
            rcases hw3 with rfl | rfl <;> decide
          rw [yk]
          have hnb' : n ∉ bd := fun z => hnb ((hbd n).mpr z)
          have gv : valV kvs (Sum.inr (mkS n)) = none ∨ valV kvs (Sum.inr (mkS n)) = some (.int 0) := (hbk n).elim (fun z => absurd z.1 hnb') (·.2)
          have gz : (valV kvs (Sum.inr (mkS n))).getD (.int 0) = .int 0 := by
            rcases gv with z | z <;> rw [z] <;> rfl
          simp only [sz] at hm
          refine iteT ⟨_, rfl, aB, rfl, .inl ⟨_, .inl hB2⟩, _, rfl, p, _, 1, _, rfl, rfl, SqT.of h1, atI_nat (j := 1) rfl, _, DGet.k (k := Sum.inr (mkS n)) hB2, ?_⟩
          rw [gz]
          refine ⟨_, _, rfl, rfl, _, rfl, _, rfl, p, _, 1, _, rfl, rfl, SqT.of h1, atI_nat (j := 1) rfl, aB, _, rfl, DPut.k (k := Sum.inr (mkS n)) hB2 (Nat.lt_of_le_of_lt (show _ ≤ 1000000 by omega) (by decide)), ?_⟩
          have kb : KeepT H2 (upd H2 aB (.dK (putK kvs (Sum.inr (mkS n)) (.int (0 + 1))))) := KeepT.upd hB2 (by intro xs z; cases z)
          have lp := length_putK kvs (Sum.inr (mkS n) : L2.Key) (.int 1)
          have hbk2 : BOk (putK kvs (Sum.inr (mkS n)) (.int (0 + 1))) (n :: bd) := hbk.enter n
          have hF3 : upd H2 aB (.dK (putK kvs (Sum.inr (mkS n)) (.int (0 + 1)))) aF = some (.dK (dS (ks.map mkS) fun _ => .bl true)) := by rw [upd_ne FB]; exact hF2
          have hL3 : upd H2 aB (.dK (putK kvs (Sum.inr (mkS n)) (.int (0 + 1)))) aL = some (.lst us'.reverse) := by rw [upd_ne (Ne.symm BL)]; exact hL2
          have hB3 : upd H2 aB (.dK (putK kvs (Sum.inr (mkS n)) (.int (0 + 1)))) aB = some (.dK (putK kvs (Sum.inr (mkS n)) (.int (0 + 1)))) := upd_same
          have h13 := kb _ _ h1
          have h23 := FAt.keep kb _ _ h2
          have hI4 := IAt.keep kb _ _ hI3
          have s3 : Same H (upd H2 aB (.dK (putK kvs (Sum.inr (mkS n)) (.int (0 + 1))))) := s2.later hB0
          have lp' : (putK kvs (Sum.inr (mkS n) : L2.Key) (.int (0 + 1))).length ≤ kvs.length + 1 := lp
          generalize putK kvs (Sum.inr (mkS n) : L2.Key) (.int (0 + 1)) = kv2 at hbk2 hF3 hL3 hB3 h13 h23 hI4 s3 lp' ⊢
          generalize upd H2 aB (.dK kv2) = H3 at hF3 hL3 hB3 h13 h23 hI4 s3 ⊢
          refine ⟨_, rfl, .inl ⟨rfl, _, SqL.of hL3⟩, _, rfl, p, _, 1, _, rfl, rfl, SqT.of h13, atI_nat (j := 1) rfl, by show 2 ≤ sizeLine; decide, fun t nt => ?_⟩
          have sT := same_upd (o := HO.tup [.str ("leave" : Str), .str (mkS n)]) nt
          refine ⟨_, rfl, p, _, 2, _, rfl, rfl, SqT.of (sT _ _ h13), atI_nat (j := 2) rfl, by show 2 ≤ sizeLine; decide, fun L3 nL3 => ?_⟩
          have sL3 := same_upd (o := HO.lst [.ref t, u]) nL3
          have s4 := sT.trans sL3
          have lI := IAt.len _ _ hI4
          have lr := Wi2_len r
          refine ⟨aL, L3, us'.reverse, [.ref t, u], rfl, rfl, s4 _ _ hL3, upd_same, small_sz (by rw [List.length_reverse]; show us'.length + 2 ≤ _; omega), ?_⟩
          have kl : KeepT (upd (upd H3 t (.tup [.str ("leave" : Str), .str (mkS n)])) L3 (.lst [.ref t, u])) (upd (upd (upd H3 t (.tup [.str ("leave" : Str), .str (mkS n)])) L3 (.lst [.ref t, u])) aL (.lst (us'.reverse ++ [.ref t, u]))) := KeepT.upd (s4 _ _ hL3) (by intro xs z; cases z)
          have k4 := (KeepT.of s4).trans kl
          refine ⟨Wi2 (.f f :: .leave n :: r), by simp only [Wi2, sz]; omega, ks, n :: bd, .f f :: .leave n :: r, u :: .ref t :: us', kv2, _, _, _, _, rfl, rfl, (s3.trans s4).later hL0, ?_, ?_, ?_, ⟨u, _, rfl, FAt.keep k4 _ _ h23, t, us', rfl, kl _ _ (sL3 _ _ upd_same), IAt.keep k4 _ _ hI4⟩, ⟨⟨bd' ++ [n], fun x => ?_, hwf2⟩, List.mem_cons_self, ?_⟩, hbk2, List.nodup_cons.mpr ⟨hnb', hnd⟩, ?_, ?_⟩
          · rw [upd_ne FL]
            exact s4 _ _ hF3
          · rw [upd_ne BL]
            exact s4 _ _ hB3
          · rw [upd_same, List.reverse_cons, List.reverse_cons, List.append_assoc]
            rfl
          · rw [List.mem_append, List.mem_singleton, hbd x, List.mem_cons]
            exact Or.comm
          · rw [List.erase_cons_head]
            exact hwf'
          · simp only [Wi2, sz] at hm ⊢
            omega
          · rw [← hres, res_qu]
end
end Lo
namespace Lo
open PySem L2 Fx
theorem fmod_in {i j : Int} (h : 0 < j) : 0 ≤ i.fmod j ∧ i.fmod j < j := by
  rw [Int.fmod_eq_emod_of_nonneg _ (Int.le_of_lt h)]
  exact ⟨Int.emod_nonneg _ (by omega), Int.emod_lt_of_pos _ h⟩
theorem dpInts {K : PySem.W.Frag} {H : Hp} : ∀ ns : List Int, DpAll K H (ns.map V.int) (ns.map PyData.int)
  | [] => .nil
  | n :: ns => .cons (.int n) (dpInts ns)
theorem eqv_nil (ns : List Int) : PyData.eqv (.list (ns.map PyData.int)) (.list []) = decide (ns = []) := by
  cases ns with
  | nil => rfl
  | cons n ns => exact (decide_eq_false (fun z => nomatch z)).symm
/-- int(e), e an int -/
theorem call_intI {X : Cx} : CallR X (.type "int") (fun xs H Q => ∃ i, xs = [.int i] ∧ Q (.int i) H) := fun pins s σ H xs us Q I r ⟨i, e, q⟩ => call_int1 pins s σ H xs us Q I r (.inl ⟨i, e, q⟩)
section
variable {P : Program} {w : World} {K : PySem.W.Frag} {mg : Str → Option Value} {base : Heap}
/-- the script at s -/
def Scr (K : PySem.W.Frag) (H : Hp) (s : Addr) : Prop := ∃ ns : List Int, SqL K H s (ns.map V.int) ∧ ns.length ≤ 63
theorem Scr.same {H H' : Hp} {s : Addr} (e : Same H H') (h : Scr K H s) : Scr K H' s := by
  obtain ⟨ns, h1, h2⟩ := h
  exact ⟨ns, e.seq h1, h2⟩
/-! ### _law_draw -/
def spDraw (K : PySem.W.Frag) : Sp := fun vs H Q _ => ∃ (s : Addr) (at_ many : Int), vs = [.ref s, .int at_, .int many] ∧ Scr K H s ∧ 1 ≤ many ∧ ∀ H' k, Same H H' → 0 ≤ k → k < many → Q (.int k) H'
abbrev nDraw : List Str := ["script", "at", "many", "row", "cell", "turn", "step", "mixed"]
theorem scDraw : FnScope nDraw ["script", "at", "many"] (defScope sDraw) := ⟨rfl, rfl, rfl, by decide +kernel, rfl, by decide +kernel, by decide +kernel⟩
theorem ok_draw {f : Addr} {fd : FuncData} (F : Fun K "_law_draw" "_law_draw" sDraw f fd) (T : Blt mg) : FnOk P w K mg base CX0 1 f fd ["script", "at", "many"] (spDraw K) := by
  refine F.ok scDraw (fun vs H Q E h => ?_) (fun cdv A outer s H vs Q E hr h => ?_)
  · obtain ⟨s, a, m, rfl, _⟩ := h
    rfl
  · obtain ⟨s, a, m, rfl, ⟨ns, hS, hlen⟩, hm, q⟩ := h
    have nd := scDraw.nd
    refine ⟨_, pss_cons (ps_set (i := 3) nd rfl (.inl rfl) (pe_ifExp (pt_cmpR (op_neD hr.units) (pv 0) (pe_lst pa_nil) (nomark _)) (pe_slice sl_list (pv 0) po_none (po_some pe_int)) (pe_lst (pa_cons pe_int pa_nil))))
      (pss_cons (ps_par (i := 4) (j := 5) rfl nd rfl rfl (by decide) rfl rfl (pa_cons (pe_ix ix_list (pv 3) (pe_op op_modN (pv 1) (pe_callB call_len_seq (by rfl) T.len PySem.boot_len (pa_cons (pv 3) pa_nil))) (fun _ _ => rfl))
          (pa_cons (pe_op op_fdivN (pv 1) (pe_callB call_len_seq (by rfl) T.len PySem.boot_len (pa_cons (pv 3) pa_nil))) pa_nil)) (by rfl))
      (pss_cons (ps_if (pt_cmpR op_ge (pv 4) (pe_op op_pow pe_int pe_int) (nomark _))
        (pss_cons (ps_set (i := 4) nd rfl (.inl rfl) (pe_op op_modN (pe_callTy call_intI (by rfl) T.int PyProof.Rows.boot_int (pa_cons (pv 4) pa_nil)) (pe_op op_pow pe_int pe_int)))
        (pss_cons (ps_for PassesOwn.never rfl (pi_range1 (by rfl) T.range (pa_cons (pe_op op_modN (pv 5) pe_int) pa_nil)) (pg_name (i := 6) nd rfl (.inl rfl)) (pss_one (ps_set (i := 4) nd rfl (.inl rfl) (pe_op op_fdivN (pv 4) pe_int))))
        (pss_one (ps_ret (pe_op op_modN (pe_op op_modN (pe_callTy call_intI (by rfl) T.int PyProof.Rows.boot_int (pa_cons (pv 4) pa_nil)) pe_int) (pv 2)))))) pss_nil)
      (pss_cons (ps_set (i := 7) nd rfl (.inl rfl) (pe_op op_add (pe_op op_mul (pe_op op_add (pe_op op_add (pe_op op_modN (pe_callTy call_intI (by rfl) T.int PyProof.Rows.boot_int (pa_cons (pe_op op_add (pv 4) (pe_op op_mul pe_int (pv 5))) pa_nil)) pe_int) (pe_op op_mul pe_int (pv 1))) pe_int) pe_int)
          (pe_op op_modN (pe_callTy call_intI (by rfl) T.int PyProof.Rows.boot_int (pa_cons (pe_op op_fdivN (pv 4) pe_int) pa_nil)) pe_int)))
      (pss_one (ps_ret (pe_op op_modN (pe_callTy call_intI (by rfl) T.int PyProof.Rows.boot_int (pa_cons (pe_op op_modN (pe_op op_mul (pe_op op_modN (pv 7) pe_int) pe_int) pe_int) pa_nil)) (pv 2))))))), ?_⟩
    -- the row: a list of ints, not empty
    have rowR : ∀ Q : V → Hp → Prop, (∀ (H2 : Hp) (rw_ : Addr) (rs : List Int), Same H H2 → H2 rw_ = some (.lst (rs.map V.int)) → rs ≠ [] → rs.length ≤ 63 → Q (.ref rw_) H2) →
        (tIf (tTest (tOp (rNeD K) (tVar 0) (tLst tNil))) (tSl (rSlL K) (tVar 0) tNoPart (tPart (tC (.int 60)))) (tLst (tCons (tC (.int 7)) tNil))) (L2.start nDraw [.ref s, .int a, .int m]) H Q := by
      intro Q hQ
      refine ⟨.ref s, rfl, Nat.zero_le _, fun e0 ne0 => ?_⟩
      have s1 : Same H (upd H e0 (.lst [])) := same_upd ne0
      refine ⟨_, _, .lst (s1.seq hS) (dpInts ns), .lst (SqL.of upd_same) .nil, PySem.W.ke_shaped_ints ns, PySem.W.ke_shaped_ints [], _, rfl, ?_⟩
      rw [eqv_nil]
      by_cases hn : ns = []
      · rw [decide_eq_true hn]
        refine iteF ⟨by show 1 ≤ sizeLine; decide, fun p np => ?_⟩
        exact hQ _ p [7] (s1.trans (same_upd np)) upd_same (List.cons_ne_nil _ _) (by decide)
      · rw [decide_eq_false hn]
        refine iteT ⟨.ref s, rfl, 60, rfl, s, _, rfl, s1.seq hS, fun p np => ?_⟩
        have ec : cutV (ns.map V.int) none (some 60) = (ns.take 60).map V.int := by
          unfold cutV
          rw [HT.sIx_none, show HT.sIx (ns.map V.int).length (ns.map V.int).length (some 60) = min 60 (ns.map V.int).length from HT.sIx_nat _ _ 60, List.drop_zero, Nat.sub_zero, List.map_take]
          rw [List.length_map]
          by_cases k : 60 ≤ ns.length
          · rw [Nat.min_eq_left k]
          · rw [Nat.min_eq_right (by omega), List.take_of_length_le (by rw [List.length_map]; exact Nat.le_refl _), List.take_of_length_le (by rw [List.length_map]; omega)]
        rw [ec]
        refine hQ _ p (ns.take 60) (s1.trans (same_upd np)) upd_same (fun z => hn ?_) (by rw [List.length_take]; omega)
        cases ns with
        | nil => rfl
        | cons x r => exact nomatch z
    refine rowR _ fun H2 rw_ rs s2 hrw hne hl => ?_
    have hpos : (0 : Int) < (rs.length : Nat) := by
      have := List.length_pos_iff.mpr hne
      omega
    obtain ⟨j, ej, hj⟩ : ∃ j : Nat, a.fmod (rs.length : Nat) = (j : Nat) ∧ j < rs.length := by
      obtain ⟨h0, h1⟩ := fmod_in (i := a) hpos
      exact ⟨(a.fmod (rs.length : Nat)).toNat, by omega, by omega⟩
    have elen : (((rs.map V.int).length : Nat) : Int) = (rs.length : Nat) := by rw [List.length_map]
    have hcell : (rs.map V.int)[j]? = some (.int rs[j]) := by
      rw [List.getElem?_map, List.getElem?_eq_getElem hj]
      rfl
    refine ⟨.ref rw_, rfl, .int a, rfl, .ref rw_, rfl, rw_, _, rfl, .inl (SqL.of hrw), _, _, rfl, rfl, ?_, rw_, _, (j : Nat), .int rs[j], rfl, ?_, SqL.of hrw, atI_nat hcell, ?_⟩
    · rw [elen]
      omega
    · rw [elen]
      show V.int (a.fmod (rs.length : Nat)) = _
      rw [ej]
    refine ⟨.int a, rfl, .ref rw_, rfl, rw_, _, rfl, .inl (SqL.of hrw), _, _, rfl, rfl, ?_, _, _, rfl, ?_⟩
    · rw [elen]
      exact ⟨by omega, by show (rs.length : Int).natAbs < 1073741824; omega⟩
    have fin : ∀ (H' : Hp) (i : Int), Same H H' → Q (.int (i.fmod m)) H' := fun H' i s' => by
      obtain ⟨h0, h1⟩ := fmod_in (i := i) (show 0 < m by omega)
      exact q H' _ s' h0 h1
    have nz : ∀ {i j : Int}, j ≠ 0 → (fun (_ j : Int) => j ≠ 0) i j := fun h => h
    have p40 : (97 : Int) ^ Int.toNat 40 ≠ 0 := by decide
    refine ⟨_, rfl, _, _, rfl, rfl, ⟨by decide, by decide, by decide⟩, _, _, rfl, rfl, _, rfl, ite2 (fun _ => ?_) (fun _ => ?_)⟩
    · refine ⟨_, rfl, _, rfl, _, _, rfl, rfl, ⟨by decide, by decide, by decide⟩, _, _, rfl, rfl, p40, ?_⟩
      refine ⟨_, rfl, _, _, rfl, rfl, (by decide : (40 : Int) ≠ 0), _, rfl, ?_, ?_, ?_⟩
      · obtain ⟨h0, h1⟩ := fmod_in (i := a.fdiv (((rs.map V.int).length : Nat) : Int)) (show (0 : Int) < 40 by decide)
        omega
      · obtain ⟨h0, h1⟩ := fmod_in (i := a.fdiv (((rs.map V.int).length : Nat) : Int)) (show (0 : Int) < 40 by decide)
        omega
      refine for_range (lo := 0) (fun i σ H' => ∃ (c : Int) (y : Option V), σ = [some (.ref s), some (.int a), some (.int m), some (.ref rw_), some (.int c), some (.int (a.fdiv (((rs.map V.int).length : Nat) : Int))), y, none] ∧ H' = H2) ⟨_, _, rfl, rfl⟩ ?_ ?_
      · rintro i σ H' hi ⟨c, y, rfl, rfl⟩
        exact ⟨_, rfl, _, _, rfl, rfl, ⟨by decide, by decide⟩, _, _, rfl, rfl⟩
      · rintro σ H' ⟨c, y, rfl, rfl⟩
        exact ⟨_, rfl, _, rfl, _, _, rfl, rfl, (by decide : (97 : Int) ≠ 0), _, rfl, _, _, rfl, rfl, (by omega : m ≠ 0), fin _ _ s2⟩
    · refine ⟨_, rfl, _, rfl, _, _, rfl, rfl, .inl ⟨by decide, by decide⟩, _, _, rfl, rfl, _, rfl, _, _, rfl, rfl, (by decide : (1000003 : Int) ≠ 0), ?_⟩
      refine ⟨_, rfl, _, _, rfl, rfl, .inl ⟨by decide, by decide⟩, _, _, rfl, rfl, _, _, rfl, rfl, _, _, rfl, rfl, .inr ⟨by decide, by decide⟩, ?_⟩
      refine ⟨_, rfl, _, _, rfl, rfl, ⟨by decide, by decide⟩, _, rfl, _, _, rfl, rfl, (by decide : (999983 : Int) ≠ 0), _, _, rfl, rfl, ?_⟩
      refine ⟨_, rfl, _, _, rfl, rfl, (by decide : (2147483647 : Int) ≠ 0), _, _, rfl, rfl, .inr ⟨by decide, by decide⟩, _, _, rfl, rfl, (by decide : (4294967291 : Int) ≠ 0), _, rfl, _, rfl, _, _, rfl, rfl, (by omega : m ≠ 0), fin _ _ s2⟩
/-! ### _law_atom, _law_compare -/
/-- names at p -/
def NmAt (K : PySem.W.Frag) (H : Hp) (p : Addr) (ns : List Cs) : Prop := SqT K H p ((ns.map mkS).map V.str)
theorem NmAt.same {H H' : Hp} {p : Addr} {ns : List Cs} (e : Same H H') (h : NmAt K H p ns) : NmAt K H' p ns := same_tup e h
def spAtomL (K : PySem.W.Frag) : Sp := fun vs H Q _ => ∃ (s p : Addr) (at_ : Int) (ns : List Cs), vs = [.ref s, .int at_, .ref p] ∧ Scr K H s ∧ NmAt K H p ns ∧ ns ≠ [] ∧ ns.length ≤ 20 ∧ (∀ n ∈ ns, nameOk n) ∧
  ∀ (H' : Hp) (a : Addr) (n : Cs) (k : Int), Same H H' → H' a = some (.tup [.str (mkS n), .int k]) → atomOk n k → Q (.ref a) H'
abbrev nLAtom : List Str := ["script", "at", "names", "ends"]
theorem scLAtom : FnScope nLAtom ["script", "at", "names"] (defScope sLAtom) := ⟨rfl, rfl, rfl, by decide +kernel, rfl, by decide +kernel, by decide +kernel⟩
theorem ok_latom {f fD : Addr} {fd fdD : FuncData} (F : Fun K "_law_atom" "_law_atom" sLAtom f fd) (T : Blt mg)
    (GD : FnOk P w K mg base CX0 1 fD fdD ["script", "at", "many"] (spDraw K)) (kD : PySem.W.keepIn K (.ref fD) = true) (bD : Binds K fdD ["script", "at", "many"] []) (gD : mg "_law_draw" = some (.ref fD)) : FnOk P w K mg base CX0 2 f fd ["script", "at", "names"] (spAtomL K) := by
  refine F.ok scLAtom (fun vs H Q E h => ?_) (fun cdv A outer s0 H vs Q E hr h => ?_)
  · obtain ⟨s, p, a, ns, rfl, _⟩ := h
    rfl
  · obtain ⟨s, p, a, ns, rfl, hS, hN, hne, hl, hok, q⟩ := h
    have nd := scLAtom.nd
    refine ⟨_, pss_cons (ps_set (i := 3) nd rfl (.inl rfl) (pe_op op_catT (pe_callTy call_tuple_of (by rfl) T.tuple PyProof.Rows.boot_tuple (pa_cons (pv 2) pa_nil)) (pe_tup (pa_cons pe_str pa_nil))))
      (pss_one (ps_ret (pe_tup (pa_cons (pe_ix ix_tup (pv 3) (pe_call GD hr (by rfl) gD kD bD .nil pass0 (pa_cons (pv 0) (pa_cons (pv 1) (pa_cons (pe_callB call_len_seq (by rfl) T.len PySem.boot_len (pa_cons (pv 3) pa_nil)) pa_nil)))) (fun _ _ => rfl))
        (pa_cons (pe_op op_sub (pe_call GD hr (by rfl) gD kD bD .nil pass0 (pa_cons (pv 0) (pa_cons (pe_op op_add (pv 1) pe_int) (pa_cons pe_int pa_nil)))) pe_int) pa_nil))))), ?_⟩
    refine ⟨_, rfl, p, _, rfl, .inr ⟨hN, ?_⟩⟩
    refine ⟨by show 1 ≤ sizeLine; decide, fun z nz => ?_⟩
    have sZ := same_upd (o := HO.tup [V.str "0"]) nz
    refine ⟨p, z, _, _, rfl, rfl, hN.same sZ, SqT.of upd_same, ?_, ?_, fun e => (nomatch e), fun _ en nen => ?_⟩
    · intro e
      exact hne (List.map_eq_nil_iff.mp (List.map_eq_nil_iff.mp e))
    · rw [List.length_map, List.length_map]
      exact small_sz (by show ns.length + 1 ≤ _; omega)
    have ee : ((ns.map mkS).map V.str) ++ [V.str "0"] = ((ns ++ [[48]]).map mkS).map V.str := by
      rw [mk_zero, List.map_append, List.map_append]
      rfl
    rw [ee]
    have s2 := sZ.trans (same_upd (o := HO.tup (((ns ++ [[48]]).map mkS).map V.str)) nen)
    have hen := upd_same (H := upd H z (.tup [V.str "0"])) (a := en) (o := HO.tup (((ns ++ [[48]]).map mkS).map V.str))
    generalize upd (upd H z (.tup [V.str "0"])) en (.tup (((ns ++ [[48]]).map mkS).map V.str)) = H2 at s2 hen ⊢
    have elen : ((((ns ++ [[48]]).map mkS).map V.str).length : Int) = ((ns.length + 1 : Nat) : Int) := by
      rw [List.length_map, List.length_map, List.length_append]
      rfl
    refine ⟨_, rfl, _, rfl, _, rfl, _, rfl, en, _, rfl, .inr (SqT.of hen), s, _, _, rfl, hS.same s2, by rw [elen]; omega, fun H3 k s3 k0 k1 => ?_⟩
    rw [elen] at k1
    obtain ⟨j, rfl⟩ : ∃ j : Nat, k = (j : Nat) := ⟨k.toNat, by omega⟩
    have hj : j < (ns ++ [[48]]).length := by
      rw [List.length_append]
      show j < ns.length + 1
      omega
    have hget : (((ns ++ [[48]]).map mkS).map V.str)[j]? = some (.str (mkS (ns ++ [[48]])[j])) := by
      rw [List.getElem?_map, List.getElem?_map, List.getElem?_eq_getElem hj]
      rfl
    refine ⟨en, _, _, _, rfl, rfl, SqT.of (s3 _ _ hen), atI_nat hget, ?_⟩
    refine ⟨_, rfl, _, rfl, _, _, rfl, rfl, s, _, _, rfl, (hS.same s2).same s3, by decide, fun H4 k2 s4 k20 k21 => ?_⟩
    refine ⟨_, _, rfl, rfl, by show 2 ≤ sizeLine; decide, fun t nt => ?_⟩
    refine q _ t (ns ++ [[48]])[j] (k2 - 2) (((s2.trans s3).trans s4).trans (same_upd nt)) upd_same ⟨?_, by omega⟩
    have hm : (ns ++ [[48]])[j] ∈ ns ++ [[48]] := List.getElem_mem hj
    rcases List.mem_append.mp hm with y | y
    · exact .inr (hok _ y)
    · exact .inl (List.mem_singleton.mp y)
def spCompL (K : PySem.W.Frag) : Sp := fun vs H Q _ => ∃ (s p : Addr) (at_ : Int) (ns : List Cs), vs = [.ref s, .int at_, .ref p] ∧ Scr K H s ∧ NmAt K H p ns ∧ ns ≠ [] ∧ ns.length ≤ 20 ∧ (∀ n ∈ ns, nameOk n) ∧
  ∀ (H' : Hp) (v : V) (op n1 n2 : Cs) (k1 k2 : Int), Same H H' → FAt H' (.cmp op n1 k1 n2 k2) v → wf [] (.cmp op n1 k1 n2 k2) → Q v H'
abbrev nLComp : List Str := ["script", "at", "names", "operators"]
theorem scLComp : FnScope nLComp ["script", "at", "names"] (defScope sLCompare) := ⟨rfl, rfl, rfl, by decide +kernel, rfl, by decide +kernel, by decide +kernel⟩
theorem ops_str : ([V.str ("=" : Str), .str ("!=" : Str), .str ("<" : Str), .str ("<=" : Str), .str (">" : Str), .str (">=" : Str)] : List V) = (ops.map mkS).map V.str := by decide +kernel
theorem ok_lcomp {f fD fA : Addr} {fd fdD fdA : FuncData} (F : Fun K "_law_compare" "_law_compare" sLCompare f fd)
    (GD : FnOk P w K mg base CX0 1 fD fdD ["script", "at", "many"] (spDraw K)) (kD : PySem.W.keepIn K (.ref fD) = true) (bD : Binds K fdD ["script", "at", "many"] []) (gD : mg "_law_draw" = some (.ref fD))
    (GA : FnOk P w K mg base CX0 2 fA fdA ["script", "at", "names"] (spAtomL K)) (kA : PySem.W.keepIn K (.ref fA) = true) (bA : Binds K fdA ["script", "at", "names"] []) (gA : mg "_law_atom" = some (.ref fA)) : FnOk P w K mg base CX0 3 f fd ["script", "at", "names"] (spCompL K) := by
  refine F.ok scLComp (fun vs H Q E h => ?_) (fun cdv A outer s0 H vs Q E hr h => ?_)
  · obtain ⟨s, p, a, ns, rfl, _⟩ := h
    rfl
  · obtain ⟨s, p, a, ns, rfl, hS, hN, hne, hl, hok, q⟩ := h
    have nd := scLComp.nd
    have r1 := hr.mono (show 1 ≤ 2 by decide)
    refine ⟨_, pss_cons (ps_set (i := 3) nd rfl (.inl rfl) (pe_tup (pa_cons pe_str (pa_cons pe_str (pa_cons pe_str (pa_cons pe_str (pa_cons pe_str (pa_cons pe_str pa_nil))))))))
      (pss_one (ps_ret (pe_tup (pa_cons pe_str (pa_cons (pe_ix ix_tup (pv 3) (pe_call GD r1 (by rfl) gD kD bD .nil pass0 (pa_cons (pv 0) (pa_cons (pv 1) (pa_cons pe_int pa_nil)))) (fun _ _ => rfl))
        (pa_cons (pe_call GA hr (by rfl) gA kA bA .nil pass0 (pa_cons (pv 0) (pa_cons (pe_op op_add (pv 1) pe_int) (pa_cons (pv 2) pa_nil)))) (pa_cons (pe_call GA hr (by rfl) gA kA bA .nil pass0 (pa_cons (pv 0) (pa_cons (pe_op op_add (pv 1) pe_int) (pa_cons (pv 2) pa_nil)))) pa_nil))))))), ?_⟩
    refine ⟨by show 6 ≤ sizeLine; decide, fun o no => ?_⟩
    have sO := same_upd (o := HO.tup [V.str ("=" : Str), .str ("!=" : Str), .str ("<" : Str), .str ("<=" : Str), .str (">" : Str), .str (">=" : Str)]) no
    have hO := upd_same (H := H) (a := o) (o := HO.tup [V.str ("=" : Str), .str ("!=" : Str), .str ("<" : Str), .str ("<=" : Str), .str (">" : Str), .str (">=" : Str)])
    generalize upd H o (.tup [V.str ("=" : Str), .str ("!=" : Str), .str ("<" : Str), .str ("<=" : Str), .str (">" : Str), .str (">=" : Str)]) = H1 at sO hO ⊢
    rw [ops_str] at hO
    refine ⟨_, rfl, _, rfl, _, rfl, s, _, _, rfl, hS.same sO, by decide, fun H2 k s2 k0 k1 => ?_⟩
    obtain ⟨j, rfl⟩ : ∃ j : Nat, k = (j : Nat) := ⟨k.toNat, by omega⟩
    have hj : j < ops.length := by show j < 6; omega
    have hget : ((ops.map mkS).map V.str)[j]? = some (.str (mkS ops[j])) := by
      rw [List.getElem?_map, List.getElem?_map, List.getElem?_eq_getElem hj]
      rfl
    have s12 := sO.trans s2
    refine ⟨o, _, _, _, rfl, rfl, SqT.of (s2 _ _ hO), atI_nat hget, ?_⟩
    refine ⟨_, rfl, _, rfl, _, _, rfl, rfl, _, rfl, s, p, _, ns, rfl, hS.same s12, hN.same s12, hne, hl, hok, fun H3 a3 n3 k3 s3 h3 o3 => ?_⟩
    refine ⟨_, rfl, _, rfl, _, _, rfl, rfl, _, rfl, s, p, _, ns, rfl, (hS.same s12).same s3, (hN.same s12).same s3, hne, hl, hok, fun H4 a4 n4 k4 s4 h4 o4 => ?_⟩
    refine ⟨by show 4 ≤ sizeLine; decide, fun t nt => ?_⟩
    have sT := same_upd (o := HO.tup [.str ("compare" : Str), .str (mkS ops[j]), .ref a3, .ref a4]) nt
    exact q _ (.ref t) ops[j] n3 n4 k3 k4 (((s12.trans s3).trans s4).trans sT) ⟨t, a3, a4, rfl, upd_same, sT _ _ (s4 _ _ h3), sT _ _ h4⟩ ⟨List.getElem_mem hj, o3, o4⟩
end
end Lo
namespace Lo
open PySem L2 Fx
/-! ### data of names, of formulas -/
theorem strOk_mk {l : Cs} (h : ∀ c ∈ l, c < 128) : PyData.strOk (mkS l) = true := by
  unfold PyData.strOk
  rw [Array.all_eq_true']
  intro c hc
  have hc' : c ∈ cs (mkS l) := Array.mem_toList_iff.mpr hc
  rw [cs_mkS] at hc'
  have := h c hc'
  exact decide_eq_true (by omega)
theorem name_ascii {n : Cs} (h : nameOk n) : ∀ c ∈ n, c < 128 := fun c hc => by
  have := isL_iff.mp (h.2.1 c hc)
  omega
theorem dpStrs {K : PySem.W.Frag} {H : Hp} : ∀ zs : List Str, DpAll K H (zs.map V.str) (zs.map PyData.str)
  | [] => .nil
  | z :: zs => .cons (.str z) (dpStrs zs)
theorem layStrs : ∀ zs : List Str, (∀ z ∈ zs, PyData.strOk z = true) → PyData.canLayAll0 (zs.map PyData.str) = true
  | [], _ => rfl
  | z :: zs, h => by
    have h1 := h z List.mem_cons_self
    have h2 := layStrs zs fun x hx => h x (List.mem_cons_of_mem _ hx)
    simp [PyData.canLayAll0, PyData.canLay0, h1, h2]
theorem deepStrs : ∀ zs : List Str, PyData.depthAll (zs.map PyData.str) = 0
  | [] => rfl
  | z :: zs => by simp [PyData.depthAll, PyData.depth, deepStrs zs]
theorem shapedT {zs : List Str} (h : ∀ z ∈ zs, PyData.strOk z = true) : SeqAt.shaped (.tuple (zs.map PyData.str)) = true := by
  simp [SeqAt.shaped, PyData.canLay0, PyData.depth, layStrs zs h, deepStrs]
theorem eqv_empty (zs : List Str) : PyData.eqv (.tuple (zs.map PyData.str)) (.tuple []) = decide (zs = []) := by
  cases zs with
  | nil => rfl
  | cons n ns => exact (decide_eq_false (fun z => nomatch z)).symm
theorem inV_ints (k : Int) : ∀ l : List Int, inV (.int k) (l.map V.int) = decide (k ∈ l)
  | [] => by simp [inV]
  | z :: zs => by
    have ih := inV_ints k zs
    unfold inV at ih ⊢
    rw [List.map_cons, List.any_cons, ih]
    show ((z == k) || decide (k ∈ zs)) = decide (k ∈ z :: zs)
    by_cases e : z = k
    · subst e
      simp
    · have e' : (z == k) = false := by simpa using e
      have e2 : k ≠ z := fun y => e y.symm
      simp [e', e2]
section
variable {P : Program} {w : World} {K : PySem.W.Frag} {mg : Str → Option Value} {base : Heap}
theorem sl_take1 {H : Hp} {q : Addr} {xs : List V} {Q : VK} (h : SqT K H q xs) (hQ : ∀ b H2, Same H H2 → SqT K H2 b (xs.take 1) → Q (.ref b) H2) : rSlA K (.ref q) none (some 1) H Q := by
  have e1 : HT.sIx xs.length xs.length (some 1) = min 1 xs.length := HT.sIx_nat _ _ 1
  have ec : cutV xs none (some 1) = xs.take 1 := by
    unfold cutV
    rw [HT.sIx_none, e1, List.drop_zero, Nat.sub_zero]
    cases xs with
    | nil => rfl
    | cons x xs => rfl
  refine ⟨q, xs, rfl, h, fun wh => ?_, fun _ p np => ?_⟩
  · refine hQ q H (fun b o e => e) ?_
    have : xs.take 1 = xs := List.take_of_length_le (by rw [e1] at wh; omega)
    rw [this]
    exact h
  · rw [ec]
    exact hQ p _ (same_upd np) (SqT.of upd_same)
theorem cut_drop1 (x : V) (xs : List V) : cutV (x :: xs) (some 1) none = xs := by
  have e1 : HT.sIx (x :: xs).length 0 (some 1) = 1 := by
    have : HT.sIx (x :: xs).length 0 (some 1) = min 1 (x :: xs).length := HT.sIx_nat _ _ 1
    rw [this, List.length_cons]
    omega
  unfold cutV
  rw [e1, HT.sIx_none]
  simp
theorem wfs_snoc {bd : List Cs} {f : Fm} (hf : wf bd f) : ∀ {gs : List Fm}, wfs bd gs → wfs bd (gs ++ [f])
  | [], _ => ⟨hf, trivial⟩
  | g :: gs, h => ⟨h.1, wfs_snoc hf h.2⟩
theorem sms_cons {e : Nat} {f : Fm} {gs : List Fm} : sms e (f :: gs) ↔ sm e f ∧ sms e gs := by rw [sms]
theorem sms_nil (e : Nat) : sms e [] := by rw [sms]; trivial
theorem sms_snoc {e : Nat} {f : Fm} (hf : sm e f) : ∀ {gs : List Fm}, sms e gs → sms e (gs ++ [f])
  | [], _ => sms_cons.mpr ⟨hf, sms_nil e⟩
  | g :: gs, h => sms_cons.mpr ⟨(sms_cons.mp h).1, sms_snoc hf (sms_cons.mp h).2⟩
/-! ### _law_tree -/
def spTree (K : PySem.W.Frag) (d : Nat) : Sp := fun vs H Q _ => ∃ (s p q : Addr) (at_ : Int) (ns fs bd : List Cs), vs = [.ref s, .int at_, .ref p, .ref q, .int (d : Nat)] ∧ Scr K H s ∧ NmAt K H p ns ∧ NmAt K H q fs ∧ ns ≠ [] ∧ ns.length + fs.length ≤ 20 ∧
  (∀ n ∈ ns, nameOk n) ∧ (∀ n ∈ fs, nameOk n ∧ n ∉ bd) ∧ fs.Nodup ∧ ∀ (H' : Hp) (v : V) (f : Fm), Same H H' → FAt H' f v → wf bd f → sm d f → Q v H'
def spTreeR (K : PySem.W.Frag) : Nat → Sp
  | 0 => fun _ _ _ _ => False
  | d + 1 => spTree K d
abbrev nLTree : List Str := ["script", "at", "names", "fresh", "depth", "kind", "parts", "turn", "body"]
abbrev pLTree : List Str := ["script", "at", "names", "fresh", "depth"]
theorem scLTree : FnScope nLTree pLTree (defScope sLTree) := ⟨rfl, rfl, rfl, by decide +kernel, rfl, by decide +kernel, by decide +kernel⟩
theorem sm_cmp (d : Nat) {op n1 n2 : Cs} {k1 k2 : Int} : sm d (.cmp op n1 k1 n2 k2) := by
  cases d <;> simp [sm]
theorem wf_cmp (bd : List Cs) {op n1 n2 : Cs} {k1 k2 : Int} (h : wf [] (.cmp op n1 k1 n2 k2)) : wf bd (.cmp op n1 k1 n2 k2) := h
theorem ok_ltree_step {f fD fC : Addr} {fd fdD fdC : FuncData} (d : Nat) (F : Fun K "_law_tree" "_law_tree" sLTree f fd) (T : Blt mg)
    (GD : FnOk P w K mg base CX0 1 fD fdD ["script", "at", "many"] (spDraw K)) (kD : PySem.W.keepIn K (.ref fD) = true) (bD : Binds K fdD ["script", "at", "many"] []) (gD : mg "_law_draw" = some (.ref fD))
    (GC : FnOk P w K mg base CX0 3 fC fdC ["script", "at", "names"] (spCompL K)) (kC : PySem.W.keepIn K (.ref fC) = true) (bC : Binds K fdC ["script", "at", "names"] []) (gC : mg "_law_compare" = some (.ref fC))
    (GR : FnOk P w K mg base CX0 (d + 3) f fd pLTree (spTreeR K d)) (kR : PySem.W.keepIn K (.ref f) = true) (bR : Binds K fd pLTree []) (gR : mg "_law_tree" = some (.ref f)) : FnOk P w K mg base CX0 (d + 4) f fd pLTree (spTree K d) := by
  refine F.ok scLTree (fun vs H Q E h => ?_) (fun cdv A outer s0 H vs Q E hr h => ?_)
  · obtain ⟨s, p, q, a, ns, fs, bd, rfl, _⟩ := h
    rfl
  · obtain ⟨s, p, q, a, ns, fs, bd, rfl, hS, hN, hF, hne, hl, hok, hfr, hnd, Qq⟩ := h
    have nd := scLTree.nd
    have r1 := hr.mono (show 1 ≤ d + 3 by omega)
    have r3 := hr.mono (show 3 ≤ d + 3 by omega)
    refine ⟨_, pss_cons (ps_set (i := 5) nd rfl (.inl rfl) (pe_call GD r1 (by rfl) gD kD bD .nil pass0 (pa_cons (pv 0) (pa_cons (pv 1) (pa_cons pe_int pa_nil)))))
      (C8.pss_cut (ps_if (PW.pt (pw_or (pt_cmpR op_eq (pv 4) pe_int (nomark _)) (pw_or1 (PW.pt (pw_and (pt_cmpR op_eq (pv 5) pe_int (nomark _)) (pw_and1 (pt_cmpR (op_eqD hr.units) (pv 3) (pe_tup pa_nil) (nomark _))))))))
        (pss_one (ps_ret (pe_call GC r3 (by rfl) gC kC bC .nil pass0 (pa_cons (pv 0) (pa_cons (pe_op op_add (pv 1) pe_int) (pa_cons (pv 2) pa_nil)))))) pss_nil)
      (pss_cons (ps_if (pt_cmpR op_eq (pv 5) pe_int (nomark _))
        (pss_one (ps_ret (pe_tup (pa_cons pe_str (pa_cons (pe_call GR hr (by rfl) gR kR bR .nil pass0 (pa_cons (pv 0) (pa_cons (pe_op op_add (pv 1) pe_int) (pa_cons (pv 2) (pa_cons (pv 3) (pa_cons (pe_op op_sub (pv 4) pe_int) pa_nil)))))) pa_nil))))) pss_nil)
      (pss_cons (ps_if (pt_cmpR op_in_seq (pv 5) (pe_tup (pa_cons pe_int (pa_cons pe_int (pa_cons pe_int pa_nil)))) (by rfl))
        (pss_cons (ps_setLc (i := 6) (own := [("turn", 7)]) (g := gName 7) (tt := tYes) rfl nd rfl rfl (sw_true rfl rfl rfl (by decide +kernel)) (pi_range1 (by rfl) T.range (pa_cons (pe_op op_add pe_int (pe_call GD r1 (by rfl) gD kD bD .nil pass0 (pa_cons (pv 0) (pa_cons (pe_op op_add (pv 1) pe_int) (pa_cons pe_int pa_nil))))) pa_nil)) (blkOk_by (N := nLTree) (sc := defScope sLTree) (by decide +kernel))
          (fun _ _ _ _ _ => pg_name (i := 7) nd rfl (.inl rfl)) (fun _ _ _ _ _ => pts_nil) (fun _ _ _ _ _ => pe_call GR hr (by rfl) gR kR bR .nil pass0 (pa_cons (pv 0) (pa_cons (pe_op op_add (pe_op op_add (pv 1) (pe_op op_mul pe_int (pv 7))) pe_int) (pa_cons (pv 2) (pa_cons (pv 3) (pa_cons (pe_op op_sub (pv 4) pe_int) pa_nil)))))))
        (pss_one (ps_ret (pe_tup (pa_cons (pe_ifExp (pt_cmpR op_eq (pv 5) pe_int (nomark _)) pe_str pe_str) (pa_cons (pe_callTy call_tuple_of (by rfl) T.tuple PyProof.Rows.boot_tuple (pa_cons (pv 6) pa_nil)) pa_nil)))))) pss_nil)
      (pss_cons (ps_if (pt_cmpR (op_eqD hr.units) (pv 3) (pe_tup pa_nil) (nomark _))
        (pss_one (ps_ret (pe_call GC r3 (by rfl) gC kC bC .nil pass0 (pa_cons (pv 0) (pa_cons (pe_op op_add (pv 1) pe_int) (pa_cons (pv 2) pa_nil)))))) pss_nil)
      (pss_cons (ps_set (i := 8) nd rfl (.inl rfl) (pe_call GR hr (by rfl) gR kR bR .nil pass0 (pa_cons (pv 0) (pa_cons (pe_op op_add (pv 1) pe_int) (pa_cons (pe_op op_catT (pe_callTy call_tuple_of (by rfl) T.tuple PyProof.Rows.boot_tuple (pa_cons (pv 2) pa_nil)) (pe_slice sl_tupA (pv 3) po_none (po_some pe_int))) (pa_cons (pe_slice sl_tupA (pv 3) (po_some pe_int) po_none) (pa_cons (pe_op op_sub (pv 4) pe_int) pa_nil)))))))
      (pss_one (ps_ret (pe_tup (pa_cons (pe_ifExp (pt_cmpR op_in_seq (pv 5) (pe_tup (pa_cons pe_int (pa_cons pe_int pa_nil))) (by rfl)) pe_str pe_str) (pa_cons (pe_ix ix_tup (pv 3) pe_int (fun _ _ => rfl)) (pa_cons (pv 8) pa_nil))))))))))), ?_⟩
    refine ⟨_, rfl, _, rfl, s, _, _, rfl, hS, by decide, fun H1 k s1 k0 k1 => ?_⟩
    have hfok : ∀ z ∈ fs.map mkS, PyData.strOk z = true := fun z hz => by
      obtain ⟨n, hn, rfl⟩ := List.mem_map.mp hz
      exact strOk_mk (name_ascii (hfr n hn).1)
    have lf : fs.length ≤ 20 := by omega
    have dF : ∀ {H2 : Hp}, Same H H2 → Dp K H2 (.ref q) (.tuple ((fs.map mkS).map PyData.str)) := fun e => .tup (hF.same e) (dpStrs _)
    have isE : PyData.eqv (.tuple ((fs.map mkS).map PyData.str)) (.tuple []) = decide (fs = []) := by
      rw [eqv_empty]
      exact decide_eq_decide.mpr ⟨fun z => List.map_eq_nil_iff.mp z, fun z => by rw [z]; rfl⟩
    refine ⟨fun σ' H' => σ' = [some (.ref s), some (.int a), some (.ref p), some (.ref q), some (.int (d : Nat)), some (.int k), none, none, none] ∧ Same H H' ∧ d ≠ 0, ?_, ?_⟩
    · refine ⟨_, rfl, rfl, _, rfl, ?_⟩
      by_cases hd : d = 0
      · rw [decide_eq_true (by rw [hd]; rfl)]
        exact iteT (iteT ⟨_, rfl, _, rfl, _, _, rfl, rfl, _, rfl, s, p, _, ns, rfl, hS.same s1, hN.same s1, hne, by omega, hok, fun H3 v op n1 n2 k1 k2 s3 hf hw => Qq H3 v (.cmp op n1 k1 n2 k2) (s1.trans s3) hf (wf_cmp bd hw) (sm_cmp d)⟩)
      · rw [decide_eq_false (fun z => hd (by have := V.int.inj z; omega))]
        refine iteF ⟨_, rfl, rfl, _, rfl, ?_⟩
        by_cases hk : k = 0
        · rw [decide_eq_true (by rw [hk])]
          refine iteT ⟨_, rfl, Nat.zero_le _, fun e0 ne0 => ?_⟩
          have sE := s1.trans (same_upd (o := HO.tup []) ne0)
          refine ⟨_, _, dF sE, .tup (SqT.of upd_same) .nil, shapedT hfok, by decide, _, rfl, ?_⟩
          rw [isE]
          by_cases hfe : fs = []
          · rw [decide_eq_true hfe]
            exact iteT ⟨_, rfl, _, rfl, _, _, rfl, rfl, _, rfl, s, p, _, ns, rfl, hS.same sE, hN.same sE, hne, by omega, hok, fun H3 v op n1 n2 k1 k2 s3 hf hw => Qq H3 v (.cmp op n1 k1 n2 k2) (sE.trans s3) hf (wf_cmp bd hw) (sm_cmp d)⟩
          · rw [decide_eq_false hfe]
            exact iteF ⟨rfl, sE, hd⟩
        · rw [decide_eq_false (fun z => hk (V.int.inj z))]
          exact iteF (iteF ⟨rfl, s1, hd⟩)
    rintro σ1 H2 ⟨rfl, s2, hd⟩
    obtain ⟨e, rfl⟩ : ∃ e, d = e + 1 := ⟨d - 1, by omega⟩
    have em : (((e + 1 : Nat) : Int) - 1) = ((e : Nat) : Int) := by omega
    refine ⟨_, rfl, rfl, _, rfl, ?_⟩
    by_cases hk1 : k = 1
    · rw [decide_eq_true (by rw [hk1])]
      refine iteT ⟨_, rfl, _, rfl, _, _, rfl, rfl, _, rfl, _, rfl, _, rfl, _, _, rfl, rfl, s, p, q, a + 7, ns, fs, bd, by show [V.ref s, V.int (a + 7), V.ref p, V.ref q, V.int (((e + 1 : Nat) : Int) - 1)] = _; rw [em], hS.same s2, hN.same s2, hF.same s2, hne, hl, hok, hfr, hnd, fun H3 v f s3 hf hw hs => ?_⟩
      refine ⟨by show 2 ≤ sizeLine; decide, fun t nt => ?_⟩
      have sT := same_upd (o := HO.tup [.str ("not" : Str), v]) nt
      exact Qq _ (.ref t) (.neg f) ((s2.trans s3).trans sT) ⟨t, v, rfl, upd_same, FAt.keep (KeepT.of sT) _ _ hf⟩ hw hs
    rw [decide_eq_false (fun z => hk1 (V.int.inj z))]
    refine iteF ⟨_, rfl, by show 3 ≤ sizeLine; decide, fun t3 nt3 => ?_⟩
    have sT3 := s2.trans (same_upd (o := HO.tup [.int 2, .int 3, .int 4]) nt3)
    refine ⟨t3, [.int 2, .int 3, .int 4], rfl, .inr (SqT.of upd_same), rfl, rfl, _, rfl, ?_⟩
    rw [if_neg Bool.false_ne_true, show inV (.int k) [.int 2, .int 3, .int 4] = decide (k ∈ [2, 3, 4]) from inV_ints k [2, 3, 4]]
    generalize upd H2 t3 (.tup [.int 2, .int 3, .int 4]) = H3 at sT3 ⊢
    by_cases h234 : k ∈ ([2, 3, 4] : List Int)
    · rw [decide_eq_true h234]
      refine iteT ?_
      refine ⟨_, rfl, _, rfl, _, _, rfl, rfl, s, _, _, rfl, hS.same sT3, by decide, fun H4 j s4 j0 j1 => ?_⟩
      have s14 := sT3.trans s4
      refine ⟨_, _, rfl, rfl, _, rfl, by omega, by omega, fun c nc => ?_⟩
      have nc0 := s14.free nc
      refine lc_range (lo := 0) (fun i H' => ∃ (gs : List Fm) (us : List V), Same H H' ∧ H' c = some (.lst us) ∧ gs.length = i ∧ FAts H' gs us ∧ wfs bd gs ∧ sms e gs)
        ⟨[], [], s14.trans (same_upd nc), upd_same, rfl, rfl, trivial, sms_nil e⟩ ?_ ?_
      · rintro i H5 hi ⟨gs, us, s5, hc, hgl, hat, hwf, hsm⟩
        refine ⟨rfl, ?_⟩
        unfold tYes
        refine iteT ?_
        refine ⟨_, rfl, _, rfl, _, rfl, _, _, rfl, rfl, .inl ⟨by decide, by decide⟩, _, _, rfl, rfl, _, _, rfl, rfl, _, rfl, _, rfl, _, rfl, _, _, rfl, rfl, s, p, q, a + 31 * (0 + (i : Nat)) + 11, ns, fs, bd, by show [V.ref s, V.int (a + 31 * (0 + ((i : Nat) : Int)) + 11), V.ref p, V.ref q, V.int (((e + 1 : Nat) : Int) - 1)] = _; rw [em], hS.same s5, hN.same s5, hF.same s5, hne, hl, hok, hfr, hnd, fun H6 v f s6 hf hw hs => ?_⟩
        have hc6 := s6 _ _ hc
        have lus := FAts.len _ _ hat
        have kc : KeepT H6 (upd H6 c (.lst (us ++ [v]))) := KeepT.upd hc6 (by intro xs z; cases z)
        refine ⟨us, hc6, Nat.lt_of_le_of_lt (show _ ≤ 1000000 by omega) (by decide), gs ++ [f], us ++ [v], (s5.trans s6).later nc0, upd_same, by rw [List.length_append, hgl]; rfl, FAts.snoc (FAt.keep kc _ _ hf) _ _ (FAts.keep ((KeepT.of s6).trans kc) _ _ hat), wfs_snoc hw hwf, sms_snoc hs hsm⟩
      · rintro H5 ⟨gs, us, s5, hc, hgl, hat, hwf, hsm⟩
        have lus := FAts.len _ _ hat
        have fin : ∀ (w' : Cs) (W : Str), W = mkS w' → (w' = wAnd ∨ w' = wOr) → ∀ (u t : Addr), H5 u = none → upd H5 u (.tup us) t = none → Q (.ref t) (upd (upd H5 u (.tup us)) t (.tup [.str W, .ref u])) := fun w' W eW hw' u t nu nt => by
          have sU := same_upd (o := HO.tup us) nu
          have sT := same_upd (o := HO.tup [.str W, .ref u]) nt
          have sUT := sU.trans sT
          refine Qq _ (.ref t) (.row w' gs) (s5.trans sUT) ⟨t, u, us, rfl, by rw [← eW]; exact upd_same, sT _ _ upd_same, FAts.keep (KeepT.of sUT) _ _ hat⟩ ⟨hw', by omega, hwf⟩ ⟨by omega, hsm⟩
        refine ⟨_, rfl, rfl, _, rfl, ?_⟩
        by_cases hk2 : k = 2
        · rw [decide_eq_true (by rw [hk2])]
          exact iteT ⟨_, rfl, c, _, rfl, .inl ⟨SqL.of hc, fun u nu => ⟨by show 2 ≤ sizeLine; decide, fun t nt => fin wOr _ (by decide +kernel) (.inr rfl) u t nu nt⟩⟩⟩
        · rw [decide_eq_false (fun z => hk2 (V.int.inj z))]
          exact iteF ⟨_, rfl, c, _, rfl, .inl ⟨SqL.of hc, fun u nu => ⟨by show 2 ≤ sizeLine; decide, fun t nt => fin wAnd _ (by decide +kernel) (.inl rfl) u t nu nt⟩⟩⟩
    rw [decide_eq_false h234]
    refine iteF ⟨_, rfl, Nat.zero_le _, fun e0 ne0 => ?_⟩
    have sE := sT3.trans (same_upd (o := HO.tup []) ne0)
    refine ⟨_, _, dF sE, .tup (SqT.of upd_same) .nil, shapedT hfok, by decide, _, rfl, ?_⟩
    rw [isE]
    generalize upd H3 e0 (.tup []) = H4 at sE ⊢
    cases fs with
    | nil =>
      rw [decide_eq_true rfl]
      exact iteT ⟨_, rfl, _, rfl, _, _, rfl, rfl, _, rfl, s, p, _, ns, rfl, hS.same sE, hN.same sE, hne, by omega, hok, fun H3 v op n1 n2 k1 k2 s3 hf hw => Qq H3 v (.cmp op n1 k1 n2 k2) (sE.trans s3) hf (wf_cmp bd hw) (sm_cmp _)⟩
    | cons n rest =>
      rw [decide_eq_false (List.cons_ne_nil _ _)]
      refine iteF ?_
      refine ⟨_, rfl, _, rfl, _, _, rfl, rfl, _, rfl, p, _, rfl, .inr ⟨hN.same sE, ?_⟩⟩
      refine ⟨_, rfl, 1, rfl, sl_take1 (hF.same sE) fun b H5 s5 hb => ?_⟩
      have s45 := sE.trans s5
      refine ⟨p, b, _, _, rfl, rfl, hN.same s45, hb, ?_, ?_, fun z => (nomatch z), fun _ p2 np2 => ?_⟩
      · intro z
        exact hne (List.map_eq_nil_iff.mp (List.map_eq_nil_iff.mp z))
      · rw [List.length_map, List.length_map]
        exact small_sz (by show ns.length + 1 ≤ _; omega)
      have sP := s45.trans (same_upd (o := HO.tup (((ns.map mkS).map V.str) ++ [V.str (mkS n)])) np2)
      have hP := upd_same (H := H5) (a := p2) (o := HO.tup (((ns.map mkS).map V.str) ++ [V.str (mkS n)]))
      have e1 : HT.sIx ((((n :: rest).map mkS).map V.str)).length 0 (some 1) = 1 := by
        have : HT.sIx ((((n :: rest).map mkS).map V.str)).length 0 (some 1) = min 1 ((((n :: rest).map mkS).map V.str)).length := HT.sIx_nat _ _ 1
        rw [this, List.length_map, List.length_map, List.length_cons]
        omega
      have ec : cutV (((n :: rest).map mkS).map V.str) (some 1) none = (rest.map mkS).map V.str := by
        exact cut_drop1 (V.str (mkS n)) ((rest.map mkS).map V.str)
      refine ⟨_, rfl, 1, rfl, q, _, rfl, hF.same sP, fun wh => absurd (e1.symm.trans wh.1) (by decide), fun _ q2 nq2 => ?_⟩
      rw [ec]
      have sQ := sP.trans (same_upd (o := HO.tup ((rest.map mkS).map V.str)) nq2)
      have hP2 := same_upd (o := HO.tup ((rest.map mkS).map V.str)) nq2 _ _ hP
      have hN2 : NmAt K (upd (upd H5 p2 (.tup (((ns.map mkS).map V.str) ++ [V.str (mkS n)]))) q2 (.tup ((rest.map mkS).map V.str))) p2 (ns ++ [n]) := by
        unfold NmAt
        rw [List.map_append, List.map_append]
        exact SqT.of hP2
      have hnn := (hfr n List.mem_cons_self).1
      refine ⟨_, rfl, _, _, rfl, rfl, s, p2, q2, a + 17, ns ++ [n], rest, bd ++ [n], by show [V.ref s, V.int (a + 17), V.ref p2, V.ref q2, V.int (((e + 1 : Nat) : Int) - 1)] = _; rw [em], hS.same sQ, hN2, SqT.of upd_same, by simp, ?_, ?_, ?_, (List.nodup_cons.mp hnd).2, fun H6 v f s6 hf hw hs => ?_⟩
      · rw [List.length_append, List.length_singleton]
        rw [List.length_cons] at hl
        omega
      · intro x hx
        rcases List.mem_append.mp hx with y | y
        · exact hok x y
        · rw [List.mem_singleton.mp y]
          exact hnn
      · intro x hx
        refine ⟨(hfr x (List.mem_cons_of_mem _ hx)).1, fun z => ?_⟩
        rcases List.mem_append.mp z with y | y
        · exact (hfr x (List.mem_cons_of_mem _ hx)).2 y
        · rw [List.mem_singleton.mp y] at hx
          exact (List.nodup_cons.mp hnd).1 hx
      have s16 := sQ.trans s6
      refine ⟨_, rfl, by show 2 ≤ sizeLine; decide, fun t2 nt2 => ?_⟩
      have sT2 := same_upd (o := HO.tup [.int 0, .int 5]) nt2
      refine ⟨t2, [.int 0, .int 5], rfl, .inr (SqT.of upd_same), rfl, rfl, _, rfl, ?_⟩
      have hf2 := FAt.keep (KeepT.of sT2) _ _ hf
      have s17 := s16.trans sT2
      rw [if_neg Bool.false_ne_true, show inV (.int k) [.int 0, .int 5] = decide (k ∈ [0, 5]) from inV_ints k [0, 5]]
      generalize upd H6 t2 (.tup [.int 0, .int 5]) = H7 at hf2 s17 ⊢
      have fin : ∀ (w' : Cs) (W : Str), W = mkS w' → (w' = wAll ∨ w' = wSome) → ∀ t, H7 t = none → Q (.ref t) (upd H7 t (.tup [.str W, .str (mkS n), v])) := fun w' W eW hw' t nt => by
        have sT := same_upd (o := HO.tup [.str W, .str (mkS n), v]) nt
        refine Qq _ (.ref t) (.qu w' n f) (s17.trans sT) ⟨t, v, rfl, by rw [← eW]; exact upd_same, FAt.keep (KeepT.of sT) _ _ hf2⟩ ⟨hw', hnn, (hfr n List.mem_cons_self).2, hw⟩ hs
      by_cases h05 : k ∈ ([0, 5] : List Int)
      · rw [decide_eq_true h05]
        exact iteT ⟨_, rfl, q, _, 0, _, rfl, rfl, hF.same s17, atI_nat (j := 0) rfl, _, rfl, by show 3 ≤ sizeLine; decide, fun t nt => fin wAll _ (by decide +kernel) (.inl rfl) t nt⟩
      · rw [decide_eq_false h05]
        exact iteF ⟨_, rfl, q, _, 0, _, rfl, rfl, hF.same s17, atI_nat (j := 0) rfl, _, rfl, by show 3 ≤ sizeLine; decide, fun t nt => fin wSome _ (by decide +kernel) (.inr rfl) t nt⟩
theorem ok_ltree {f fD fC : Addr} {fd fdD fdC : FuncData} (F : Fun K "_law_tree" "_law_tree" sLTree f fd) (T : Blt mg)
    (GD : FnOk P w K mg base CX0 1 fD fdD ["script", "at", "many"] (spDraw K)) (kD : PySem.W.keepIn K (.ref fD) = true) (bD : Binds K fdD ["script", "at", "many"] []) (gD : mg "_law_draw" = some (.ref fD))
    (GC : FnOk P w K mg base CX0 3 fC fdC ["script", "at", "names"] (spCompL K)) (kC : PySem.W.keepIn K (.ref fC) = true) (bC : Binds K fdC ["script", "at", "names"] []) (gC : mg "_law_compare" = some (.ref fC))
    (kR : PySem.W.keepIn K (.ref f) = true) (bR : Binds K fd pLTree []) (gR : mg "_law_tree" = some (.ref f)) : ∀ d, FnOk P w K mg base CX0 (d + 3) f fd pLTree (spTreeR K d)
  | 0 => F.ok scLTree (fun vs H Q E h => h.elim) (fun cdv A outer s H vs Q E hr h => h.elim)
  | d + 1 => ok_ltree_step d F T GD kD bD gD GC kC bC gC (ok_ltree F T GD kD bD gD GC kC bC gC kR bR gR d) kR bR gR
end
end Lo
namespace Lo
open PySem L2 Fx
mutual
theorem sm_up : ∀ (f : Fm) (d : Nat), sm d f → sm (d + 1) f
  | .cmp .., d, _ => sm_cmp _
  | .neg f, 0, h => by simp [sm] at h
  | .row _ fs, 0, h => by simp [sm] at h
  | .qu _ _ f, 0, h => by simp [sm] at h
  | .neg f, d + 1, h => by
    rw [sm] at h ⊢
    exact sm_up f d h
  | .row _ fs, d + 1, h => by
    rw [sm] at h ⊢
    exact ⟨h.1, sms_up fs d h.2⟩
  | .qu _ _ f, d + 1, h => by
    rw [sm] at h ⊢
    exact sm_up f d h
theorem sms_up : ∀ (fs : List Fm) (d : Nat), sms d fs → sms (d + 1) fs
  | [], d, _ => sms_nil _
  | f :: fs, d, h => sms_cons.mpr ⟨sm_up f d (sms_cons.mp h).1, sms_up fs d (sms_cons.mp h).2⟩
end
theorem strip_sm {w : Cs} : ∀ (f : Fm) (d : Nat), sm d f → sm d (strip w f).2 ∧ (strip w f).1.length ≤ d
  | .cmp .., d, h => ⟨h, Nat.zero_le _⟩
  | .neg _, d, h => ⟨h, Nat.zero_le _⟩
  | .row .., d, h => ⟨h, Nat.zero_le _⟩
  | .qu w' n f, 0, h => by simp [sm] at h
  | .qu w' n f, d + 1, h => by
    rw [strip_qu]
    by_cases e : w' = w
    · rw [if_pos e]
      rw [sm] at h
      have ih := strip_sm (w := w) f d h
      refine ⟨sm_up _ _ ih.1, ?_⟩
      rw [List.length_cons]
      omega
    · rw [if_neg e]
      exact ⟨h, Nat.zero_le _⟩
theorem enc_qu (w n : Cs) (f : Fm) : tx plain .enc (.qu w n f) = 40 :: (tx plain .top (.qu w n f) ++ [41]) := by
  rw [tx_qu, tx_qu, if_neg (by intro z; cases z), if_neg (by intro z; cases z)]
  simp [opnT, clsT, Fx.plain]
theorem enc_row (w : Cs) (fs : List Fm) : tx plain .enc (.row w fs) = 40 :: (tjT plain w fs ++ [41]) := by
  rw [tx_row]
  simp [opnT, clsT, Fx.plain]
theorem top_row (w : Cs) (fs : List Fm) : tx plain .top (.row w fs) = tjT plain w fs := by
  rw [tx_row]
  simp [opnT, clsT]
theorem join_row (w : Cs) : ∀ fs : List Fm, joinC (32 :: (w ++ [32])) (fs.map (tx plain .enc)) = tjT plain w fs
  | [] => by rw [tjT_nil]; rfl
  | [f] => by
    rw [tjT_cons]
    simp [joinC]
  | f :: g :: fs => by
    have ih := join_row w (g :: fs)
    rw [tjT_cons]
    show tx plain .enc f ++ ((32 :: (w ++ [32])) ++ joinC (32 :: (w ++ [32])) ((g :: fs).map (tx plain .enc))) = _
    rw [ih]
    simp [Fx.plain]
section
variable {P : Program} {w : World} {K : PySem.W.Frag} {mg : Str → Option Value} {base : Heap}
/-! ### _law_text_of -/
abbrev nLTextOf : List Str := ["atom", "name", "shift"]
theorem scLTextOf : FnScope nLTextOf ["atom"] (defScope sLTextOf) := ⟨rfl, rfl, rfl, by decide +kernel, rfl, by decide +kernel, by decide +kernel⟩
theorem ok_ltextof {f : Addr} {fd : FuncData} (F : Fun K "_law_text_of" "_law_text_of" sLTextOf f fd) (T : Blt mg) (TF : BltF mg) : FnOk P w K mg base CX0 1 f fd ["atom"] (spTermT K) := by
  refine F.ok scLTextOf (fun vs H Q E h => ?_) (fun cdv A outer s H vs Q E hr h => ?_)
  · obtain ⟨a, n, k, rfl, _⟩ := h
    rfl
  · obtain ⟨a, n, k, rfl, ha, ok, q⟩ := h
    have nd := scLTextOf.nd
    refine ⟨_, pss_cons (ps_asg (pv 0) (pg_tup rfl (pgs_cons (pg_name (i := 1) nd rfl (.inl rfl)) (pgs_cons (pg_name (i := 2) nd rfl (.inl rfl)) pgs_nil))))
      (pss_cons (ps_if (pt_cmpR op_eq (pv 1) pe_str (nomark _)) (pss_one (ps_ret (pe_callTy call_str_int (by rfl) T.str PyProof.Rows.boot_str (pa_cons (pv 2) pa_nil)))) pss_nil)
      (pss_cons (ps_if (pt_cmpR op_eq (pv 2) pe_int (nomark _)) (pss_one (ps_ret (pv 1))) pss_nil)
      (pss_one (ps_ret (pe_op op_add_str (pe_op op_add_str (pv 1) (pe_ifExp (pt_cmpR op_gt (pv 2) pe_int (nomark _)) pe_str pe_str)) (pe_callTy call_str_int (by rfl) T.str PyProof.Rows.boot_str (pa_cons (pe_callB call_abs (by rfl) TF.abs PyProof.Rows.boot_abs (pa_cons (pv 2) pa_nil)) pa_nil))))))), ?_⟩
    refine ⟨_, rfl, a, _, rfl, SqT.of ha, rfl, _, _, rfl, _, _, rfl, rfl, ?_⟩
    refine ⟨_, rfl, rfl, _, rfl, ?_⟩
    rw [mk_zero, dec_mk]
    unfold atomT at q
    have lk := log9 ok.2
    have ln := name_len ok
    by_cases h0 : n = [48]
    · rw [decide_eq_true h0]
      rw [if_pos (show n = w0 from h0)] at q
      refine iteT ⟨_, rfl, k, rfl, lk, ?_⟩
      rw [str_int ok.2]
      exact q
    · rw [decide_eq_false h0]
      rw [if_neg (show ¬ n = w0 from h0)] at q
      refine iteF ⟨_, rfl, rfl, _, rfl, ?_⟩
      by_cases hk : k = 0
      · rw [decide_eq_true (by rw [hk])]
        rw [if_pos hk] at q
        exact iteT ⟨_, rfl, q⟩
      · rw [decide_eq_false (fun z => hk (V.int.inj z))]
        rw [if_neg hk] at q
        refine iteF ⟨_, rfl, _, rfl, _, _, rfl, rfl, _, rfl, ?_⟩
        have e1 : (" - " : Str) = mkS [32, 45, 32] := by decide +kernel
        have e2 : (" + " : Str) = mkS [32, 43, 32] := by decide +kernel
        have dl : (dig k).length = 1 := by simp [dig]
        by_cases hn : k < 0
        · rw [decide_eq_false (by omega : ¬ (0 : Int) < k)]
          rw [if_pos hn] at q
          refine iteF ⟨_, _, rfl, rfl, by rw [e1, mkS_len, mkS_len]; exact small_sz (by simp; omega), _, rfl, k, rfl, ?_⟩
          rw [if_pos hn]
          refine ⟨-k, rfl, by rw [Int.natAbs_neg]; exact lk, ?_⟩
          rw [str_int (by rw [Int.natAbs_neg]; exact ok.2), if_neg (by omega), dig_neg, e1, mkS_app]
          refine ⟨_, _, rfl, rfl, by rw [mkS_len, mkS_len, dl]; exact small_sz (by simp; omega), ?_⟩
          rw [mkS_app]
          have e3 : n ++ [32, 45, 32] ++ dig k = n ++ (plain.sp ++ 45 :: (plain.sp ++ dig k)) := by simp [Fx.plain]
          rw [e3]
          exact q
        · rw [decide_eq_true (by omega : (0 : Int) < k)]
          rw [if_neg hn] at q
          refine iteT ⟨_, _, rfl, rfl, by rw [e2, mkS_len, mkS_len]; exact small_sz (by simp; omega), _, rfl, k, rfl, ?_⟩
          rw [if_neg hn]
          refine ⟨k, rfl, lk, ?_⟩
          rw [str_int ok.2, if_neg hn, e2, mkS_app]
          refine ⟨_, _, rfl, rfl, by rw [mkS_len, mkS_len, dl]; exact small_sz (by simp; omega), ?_⟩
          rw [mkS_app]
          have e3 : n ++ [32, 43, 32] ++ dig k = n ++ (plain.sp ++ 43 :: (plain.sp ++ dig k)) := by simp [Fx.plain]
          rw [e3]
          exact q
/-! ### _law_text -/
theorem hd_quiet {w' : Cs} {g' : Fm} {bd : List Cs} (hw1 : w' = wAll ∨ w' = wSome) (hw' : wf bd g') (h : ∀ n' f', g' ≠ .qu w' n' f') : decide (hd g' = mkS w') = false ∧ strip w' g' = ([], g') := by
  cases g' with
  | cmp a b c d e =>
    refine ⟨?_, rfl⟩
    show decide (("compare" : Str) = mkS w') = false
    rcases hw1 with rfl | rfl <;> decide +kernel
  | neg a =>
    refine ⟨?_, rfl⟩
    show decide (("not" : Str) = mkS w') = false
    rcases hw1 with rfl | rfl <;> decide +kernel
  | row a b =>
    refine ⟨?_, rfl⟩
    show decide (mkS a = mkS w') = false
    have ha := hw'.1
    rcases hw1 with rfl | rfl <;> rcases ha with rfl | rfl <;> decide +kernel
  | qu a b c =>
    have hne : a ≠ w' := fun z => h b c (by rw [z])
    refine ⟨decide_eq_false fun z => hne (mkS_inj z), ?_⟩
    rw [strip_qu, if_neg hne]
theorem sms_mem {e : Nat} {g : Fm} : ∀ {fs : List Fm}, sms e fs → g ∈ fs → sm e g
  | f :: fs, h, m => by
    rcases List.mem_cons.mp m with rfl | m
    · exact (sms_cons.mp h).1
    · exact sms_mem (sms_cons.mp h).2 m
theorem szs_mem {g : Fm} : ∀ {fs : List Fm}, g ∈ fs → sz g ≤ szs fs
  | f :: fs, m => by
    rcases List.mem_cons.mp m with rfl | m
    · simp only [szs]
      omega
    · have := szs_mem m
      simp only [szs]
      omega
theorem flat_tx {bd : List Cs} : ∀ {fs : List Fm}, wfs bd fs → (fs.map (tx Fx.plain .enc)).flatten.length ≤ 64 * szs fs
  | [], _ => Nat.zero_le _
  | f :: fs, h => by
    have ih := flat_tx h.2
    have e := len_tx plain_len f .enc bd h.1
    simp only [List.map_cons, List.flatten_cons, List.length_append, szs]
    omega
theorem spaced_len : ∀ {l : List Cs}, (∀ n ∈ l, n.length ≤ 8) → (spaced l).length ≤ 9 * l.length
  | [], _ => Nat.le_refl _
  | x :: l, h => by
    have ih := spaced_len (l := l) fun n hn => h n (List.mem_cons_of_mem _ hn)
    have hx := h x List.mem_cons_self
    show (32 :: x ++ spaced l).length ≤ _
    rw [List.length_append, List.length_cons, List.length_cons]
    omega
theorem spaced_snoc (x : Cs) : ∀ l : List Cs, spaced (l ++ [x]) = spaced l ++ (32 :: x)
  | [] => by simp [spaced]
  | y :: l => by
    show 32 :: y ++ spaced (l ++ [x]) = 32 :: y ++ spaced l ++ (32 :: x)
    rw [spaced_snoc x l]
    simp
def spLText (K : PySem.W.Frag) (d : Nat) : Sp := fun vs H Q _ => ∃ (v : V) (b : Bool) (f : Fm), vs = [v, .bl b] ∧ FAt H f v ∧ (∃ bd, wf bd f) ∧ sm d f ∧ sz f ≤ 1000 ∧ ∀ H', Same H H' → Q (.str (mkS (tx Fx.plain (if b then .enc else .top) f))) H'
def spLTextR (K : PySem.W.Frag) : Nat → Sp
  | 0 => fun _ _ _ _ => False
  | d + 1 => spLText K d
abbrev nLText : List Str := ["tree", "inside", "kind", "names", "body", "step", "found", "part"]
abbrev pLText : List Str := ["tree", "inside"]
theorem scLText : FnScope nLText pLText (defScope sLText) := ⟨rfl, rfl, rfl, by decide +kernel, rfl, by decide +kernel, by decide +kernel⟩
theorem ok_ltext_step {f fA : Addr} {fd fdA : FuncData} (d : Nat) (hd6 : d ≤ 6) (F : Fun K "_law_text" "_law_text" sLText f fd) (T : Blt mg)
    (GA : FnOk P w K mg base CX0 1 fA fdA ["atom"] (spTermT K)) (kA : PySem.W.keepIn K (.ref fA) = true) (bA : Binds K fdA ["atom"] []) (gA : mg "_law_text_of" = some (.ref fA))
    (GR : FnOk P w K mg base CX0 (d + 1) f fd pLText (spLTextR K d)) (kR : PySem.W.keepIn K (.ref f) = true) (bR : Binds K fd pLText []) (gR : mg "_law_text" = some (.ref f)) : FnOk P w K mg base CX0 (d + 2) f fd pLText (spLText K d) := by
  refine F.ok scLText (fun vs H Q E h => ?_) (fun cdv A outer s0 H vs Q E hr h => ?_)
  · obtain ⟨v, b, g, rfl, _⟩ := h
    rfl
  · obtain ⟨v, b, g, rfl, hg, ⟨bd, hw⟩, hs, hsz, q⟩ := h
    have nd := scLText.nd
    have r1 := hr.mono (show 1 ≤ d + 1 by omega)
    refine ⟨_, pss_cons (ps_set (i := 2) nd rfl (.inl rfl) (pe_ix ix_tup (pv 0) pe_int (fun _ _ => rfl)))
      (pss_cons (ps_if (pt_cmpR op_eq (pv 2) pe_str (nomark _))
        (pss_one (ps_ret (pe_op op_add_str (pe_op op_add_str (pe_op op_add_str (pe_op op_add_str (pe_call GA r1 (by rfl) gA kA bA .nil pass0 (pa_cons (pe_ix ix_tup (pv 0) pe_int (fun _ _ => rfl)) pa_nil)) pe_str) (pe_ix ix_tup (pv 0) pe_int (fun _ _ => rfl))) pe_str) (pe_call GA r1 (by rfl) gA kA bA .nil pass0 (pa_cons (pe_ix ix_tup (pv 0) pe_int (fun _ _ => rfl)) pa_nil))))) pss_nil)
      (pss_cons (ps_if (pt_cmpR op_eq (pv 2) pe_str (nomark _))
        (pss_one (ps_ret (pe_op op_add_str pe_str (pe_call GR hr (by rfl) gR kR bR .nil pass0 (pa_cons (pe_ix ix_tup (pv 0) pe_int (fun _ _ => rfl)) (pa_cons pe_bl pa_nil)))))) pss_nil)
      (C8.pss_cut (ps_if (pt_cmpR op_in_seq (pv 2) (pe_tup (pa_cons pe_str (pa_cons pe_str pa_nil))) (by rfl))
        (pss_cons (ps_par (i := 3) (j := 4) rfl nd rfl rfl (by decide) rfl rfl (pa_cons (pe_op op_add_str (pe_op op_add_str (pv 2) pe_str) (pe_ix ix_tup (pv 0) pe_int (fun _ _ => rfl))) (pa_cons (pe_ix ix_tup (pv 0) pe_int (fun _ _ => rfl)) pa_nil)) (by rfl))
        (pss_cons (ps_for PassesOwn.never rfl (pi_range1 (by rfl) T.range (pa_cons pe_int pa_nil)) (pg_name (i := 5) nd rfl (.inl rfl))
          (pss_one (ps_if (pt_cmpR op_eq (pe_ix ix_tup (pv 4) pe_int (fun _ _ => rfl)) (pv 2) (nomark _))
            (pss_one (ps_par (i := 3) (j := 4) rfl nd rfl rfl (by decide) rfl rfl (pa_cons (pe_op op_add_str (pe_op op_add_str (pv 3) pe_str) (pe_ix ix_tup (pv 4) pe_int (fun _ _ => rfl))) (pa_cons (pe_ix ix_tup (pv 4) pe_int (fun _ _ => rfl)) pa_nil)) (by rfl))) pss_nil)))
        (pss_one (ps_set (i := 6) nd rfl (.inl rfl) (pe_op op_add_str (pe_op op_add_str (pv 3) pe_str) (pe_call GR hr (by rfl) gR kR bR .nil pass0 (pa_cons (pv 4) (pa_cons pe_bl pa_nil))))))))
        (pss_one (ps_set (i := 6) nd rfl (.inl rfl) (pe_join (pe_op op_add_str (pe_op op_add_str pe_str (pv 2)) pe_str) (pe_lc (own := [("part", 7)]) (g := gName 7) (tt := tYes) rfl nd (pi_tup (pe_ix ix_tup (pv 0) pe_int (fun _ _ => rfl))) (blkOk_by (N := nLText) (sc := defScope sLText) (by decide +kernel))
          (fun _ _ _ _ _ => pg_name (i := 7) nd rfl (.inl rfl)) (fun _ _ _ _ _ => pts_nil) (fun _ _ _ _ _ => pe_call GR hr (by rfl) gR kR bR .nil pass0 (pa_cons (pv 7) (pa_cons pe_bl pa_nil))))))))
      (pss_one (ps_ret (pe_ifExp (pt_val (pv 1)) (pe_op op_add_str (pe_op op_add_str pe_str (pv 6)) pe_str) (pv 6))))))), ?_⟩
    have vs1 : ∀ a b : Str, decide (V.str a = V.str b) = decide (a = b) := fun a b => decide_eq_decide.mpr ⟨fun z => V.str.inj z, fun z => by rw [z]⟩
    have ltop := len_tx plain_len g .top bd hw
    have lenc := len_tx plain_len g .enc bd hw
    obtain ⟨p, xs, rfl, hp⟩ := fat_hd hg
    obtain ⟨d1, d2⟩ := hd_in hw
    refine ⟨_, rfl, p, _, 0, _, rfl, rfl, SqT.of hp, atI_nat (j := 0) rfl, ?_⟩
    refine ⟨_, rfl, rfl, _, rfl, ?_⟩
    rw [vs1, d1]
    have esp : (" " : Str) = mkS [32] := by decide +kernel
    cases g with
    | cmp op n1 k1 n2 k2 =>
      obtain ⟨p', a, b2, e, h1, h2, h3⟩ := hg
      obtain rfl : p = p' := V.ref.inj e
      obtain ⟨ho, a1, a2⟩ := hw
      have l1 := len_atom plain_len a1
      have l2 := len_atom plain_len a2
      have lo : op.length ≤ 2 := ops_all (P := fun o => o.length ≤ 2) (by decide) op ho
      rw [esp]
      refine iteT ⟨_, rfl, p, _, 2, _, rfl, rfl, SqT.of h1, atI_nat (j := 2) rfl, a, n1, k1, rfl, h2, a1, ?_⟩
      refine ⟨_, _, rfl, rfl, by rw [mkS_len, mkS_len]; exact small_sz (by simp; omega), ?_⟩
      rw [mkS_app]
      refine ⟨_, rfl, p, _, 1, _, rfl, rfl, SqT.of h1, atI_nat (j := 1) rfl, _, _, rfl, rfl, by rw [mkS_len, mkS_len]; exact small_sz (by simp; omega), ?_⟩
      rw [mkS_app]
      refine ⟨_, _, rfl, rfl, by rw [mkS_len, mkS_len]; exact small_sz (by simp; omega), ?_⟩
      rw [mkS_app]
      refine ⟨_, rfl, p, _, 3, _, rfl, rfl, SqT.of h1, atI_nat (j := 3) rfl, b2, n2, k2, rfl, h3, a2, ?_⟩
      refine ⟨_, _, rfl, rfl, by rw [mkS_len, mkS_len]; exact small_sz (by simp; omega), ?_⟩
      rw [mkS_app]
      have := q H fun b o e => e
      cases b <;> (rw [tx_cmp] at this; simpa [preT, Fx.plain] using this)
    | neg f2 =>
      obtain ⟨p', u, e, h1, h2⟩ := hg
      obtain rfl : p = p' := V.ref.inj e
      cases d with
      | zero => simp [sm] at hs
      | succ d =>
      rw [sm] at hs
      have hsz' : sz f2 + 1 ≤ 1000 := hsz
      refine iteF ⟨_, rfl, rfl, _, rfl, ?_⟩
      rw [vs1, d2]
      have lf := len_tx plain_len f2 .enc bd hw
      have en : ("not " : Str) = mkS (Fx.wNot ++ [32]) := by decide +kernel
      refine iteT ⟨_, rfl, p, _, 1, _, rfl, rfl, SqT.of h1, atI_nat (j := 1) rfl, u, true, f2, rfl, h2, ⟨bd, hw⟩, hs, by omega, fun H2 s2 => ?_⟩
      rw [if_pos rfl, en]
      refine ⟨_, _, rfl, rfl, by rw [mkS_len, mkS_len]; exact small_sz (by simp; omega), ?_⟩
      rw [mkS_app]
      have := q H2 s2
      cases b <;> (rw [tx_neg] at this; simpa [preT, Fx.plain] using this)
    | row w' fs =>
      obtain ⟨p', a, us, e, h1, h2, h3⟩ := hg
      obtain rfl : p = p' := V.ref.inj e
      obtain ⟨hw1, hw2, hw3⟩ := hw
      cases d with
      | zero => simp [sm] at hs
      | succ d =>
      rw [sm] at hs
      have lus := FAts.len _ _ h3
      have hsz' : szs fs + 1 ≤ 1000 := hsz
      have lw : w'.length ≤ 4 := len_word (w := w') (hw1.elim (fun z => .inr (.inr (.inr (.inl z)))) fun z => .inr (.inr (.inr (.inr z))))
      refine iteF ⟨_, rfl, rfl, _, rfl, ?_⟩
      rw [vs1, d2]
      refine iteF ?_
      refine ⟨fun σ' H' => ∃ (tt : Cs) (y3 y4 y5 y7 : Option V), σ' = [some (.ref p), some (.bl b), some (.str (mkS w')), y3, y4, y5, some (.str (mkS tt)), y7] ∧ Same H H' ∧ tt = tx Fx.plain .top (.row w' fs) ∧ tx Fx.plain .enc (.row w' fs) = 40 :: (tt ++ [41]), ?_, ?_⟩
      rotate_left
      · rintro σ2 H2 ⟨tt, y3, y4, y5, y7, rfl, s2, et, ee⟩
        rw [← et] at ltop
        have := q H2 s2
        refine ⟨_, rfl, b, rfl, ?_⟩
        cases b with
        | true =>
          rw [if_pos rfl, ee] at this
          refine iteT ⟨_, rfl, _, _, rfl, rfl, by rw [mk_open, mkS_len, mkS_len]; exact small_sz (by simp; omega), ?_⟩
          rw [mk_open, mkS_app]
          refine ⟨_, _, rfl, rfl, by rw [mk_close, mkS_len, mkS_len]; exact small_sz (by simp; omega), ?_⟩
          rw [mk_close, mkS_app]
          simpa using this
        | false =>
          rw [if_neg Bool.false_ne_true, ← et] at this
          exact iteF ⟨_, rfl, this⟩
      refine ⟨_, rfl, by show 2 ≤ sizeLine; decide, fun t nt => ?_⟩
      have sT := same_upd (o := HO.tup [.str ("all" : Str), .str ("some" : Str)]) nt
      refine ⟨t, [.str ("all" : Str), .str ("some" : Str)], rfl, .inr (SqT.of upd_same), rfl, rfl, _, rfl, ?_⟩
      have nk : inV (.str (hd (.row w' fs))) [.str ("all" : Str), .str ("some" : Str)] = false := by
        rw [show ([.str ("all" : Str), .str ("some" : Str)] : List V) = ([wAll, wSome].map mkS).map V.str from by decide +kernel]
        show inV (.str (mkS w')) _ = false
        rw [inV_mk]
        rcases hw1 with rfl | rfl <;> decide
      rw [if_neg Bool.false_ne_true, nk]
      have h1' := sT _ _ h1
      have h2' := sT _ _ h2
      have h3' := FAts.keep (KeepT.of sT) _ _ h3
      generalize upd H t (.tup [.str ("all" : Str), .str ("some" : Str)]) = H1 at sT h1' h2' h3' ⊢
      rw [esp]
      refine iteF ⟨_, rfl, _, _, rfl, rfl, by show (mkS [32]).length + (mkS w').length ≤ _; rw [mkS_len, mkS_len]; exact small_sz (by simp; omega), ?_⟩
      refine ⟨_, _, rfl, rfl, ?_, ?_⟩
      · show (mkS [32] ++ mkS w').length + (mkS [32]).length ≤ _
        rw [mkS_app, mkS_len, mkS_len]
        exact small_sz (by simp; omega)
      refine ⟨⟨_, rfl⟩, _, rfl, p, _, 1, _, rfl, rfl, SqT.of h1', atI_nat (j := 1) rfl, a, rfl, ⟨_, SqT.of h2'⟩, fun D nD => ?_⟩
      have nD0 := nD
      refine lc_tup (K := K) (a := a) (xs := us) (fun i H' => Same H1 H' ∧ H' D = some (.lst ((((fs.take i).map (tx Fx.plain .enc)).map mkS).map V.str))) ⟨same_upd nD, upd_same⟩ (fun i H' _ h => SqT.of (h.1 _ _ h2')) ?_ ?_
      · rintro i x H2 hi ⟨s2, hD⟩
        obtain ⟨g, hgi, hgx⟩ := FAts.get h3' i x hi
        have hgm : g ∈ fs := List.mem_of_getElem? hgi
        have il := (List.getElem?_eq_some_iff.mp hgi).1
        have et : fs.take (i + 1) = fs.take i ++ [g] := by rw [List.take_add_one, hgi]; rfl
        have hzg := szs_mem hgm
        have lfs := szs_len fs
        refine ⟨rfl, ?_⟩
        unfold tYes
        refine iteT ?_
        refine ⟨_, rfl, x, true, g, rfl, FAt.keep (KeepT.of s2) _ _ hgx, ⟨bd, wfs_mem hw3 hgm⟩, sms_mem hs.2 hgm, by omega, fun H3 s3 => ?_⟩
        refine ⟨_, s3 _ _ hD, ?_, (s2.trans s3).later nD, ?_⟩
        · rw [List.length_map, List.length_map, List.length_map, List.length_take]
          exact Nat.lt_of_le_of_lt (show _ ≤ 1000000 by omega) (by decide)
        · rw [upd_same, et, if_pos rfl, List.map_append, List.map_append, List.map_append]
          rfl
      · rintro H2 ⟨s2, hD⟩
        rw [lus, List.take_length] at hD
        have fl := flat_tx hw3
        have lj := szs_len fs
        refine ⟨_, D, (fs.map (tx Fx.plain .enc)).map mkS, rfl, rfl, .inl (SqL.of hD), ?_, ?_⟩
        · rw [sum_flat]
          show _ + _ * (mkS [32] ++ mkS w' ++ mkS [32]).length ≤ _
          rw [mkS_app, mkS_app, mkS_len, List.length_map, List.length_map]
          have h6 : ([32] ++ w' ++ [32]).length ≤ 6 := by simp; omega
          have h7 : fs.length * ([32] ++ w' ++ [32]).length ≤ fs.length * 6 := Nat.mul_le_mul_left _ h6
          have h8 : (List.map (tx Fx.plain Md.enc) fs).flatten.length ≤ 64000 := by omega
          omega
        · have ej : Txt.join (mkS [32] ++ mkS w' ++ mkS [32]) ((fs.map (tx Fx.plain .enc)).map mkS) = mkS (tjT Fx.plain w' fs) := by
            rw [mkS_app, mkS_app, join_cs, ← join_row w' fs]
            rfl
          refine ⟨tjT Fx.plain w' fs, none, none, none, none, ?_, sT.trans s2, (top_row w' fs).symm, enc_row w' fs⟩
          rw [← ej]
          rfl
    | qu w' n f2 =>
      obtain ⟨p', u, e, h1, h2⟩ := hg
      obtain rfl : p = p' := V.ref.inj e
      cases d with
      | zero => simp [sm] at hs
      | succ d =>
      rw [sm] at hs
      have hsz' : sz f2 + 1 ≤ 1000 := hsz
      obtain ⟨hw1, hn, hnb, hf⟩ := hw
      refine iteF ⟨_, rfl, rfl, _, rfl, ?_⟩
      rw [vs1, d2]
      refine iteF ?_
      refine ⟨fun σ' H' => ∃ (tt : Cs) (y3 y4 y5 y7 : Option V), σ' = [some (.ref p), some (.bl b), some (.str (mkS w')), y3, y4, y5, some (.str (mkS tt)), y7] ∧ Same H H' ∧ tt = tx Fx.plain .top (.qu w' n f2) ∧ tx Fx.plain .enc (.qu w' n f2) = 40 :: (tt ++ [41]), ?_, ?_⟩
      rotate_left
      · rintro σ2 H2 ⟨tt, y3, y4, y5, y7, rfl, s2, et, ee⟩
        rw [← et] at ltop
        have := q H2 s2
        refine ⟨_, rfl, b, rfl, ?_⟩
        cases b with
        | true =>
          rw [if_pos rfl, ee] at this
          refine iteT ⟨_, rfl, _, _, rfl, rfl, by rw [mk_open, mkS_len, mkS_len]; exact small_sz (by simp; omega), ?_⟩
          rw [mk_open, mkS_app]
          refine ⟨_, _, rfl, rfl, by rw [mk_close, mkS_len, mkS_len]; exact small_sz (by simp; omega), ?_⟩
          rw [mk_close, mkS_app]
          simpa using this
        | false =>
          rw [if_neg Bool.false_ne_true, ← et] at this
          exact iteF ⟨_, rfl, this⟩
      have lw : w'.length ≤ 4 := len_word (w := w') (hw1.elim .inl fun z => .inr (.inl z))
      refine ⟨_, rfl, by show 2 ≤ sizeLine; decide, fun t nt => ?_⟩
      have sT := same_upd (o := HO.tup [.str ("all" : Str), .str ("some" : Str)]) nt
      refine ⟨t, [.str ("all" : Str), .str ("some" : Str)], rfl, .inr (SqT.of upd_same), rfl, rfl, _, rfl, ?_⟩
      have nk : inV (.str (hd (.qu w' n f2))) [.str ("all" : Str), .str ("some" : Str)] = true := by
        rw [show ([.str ("all" : Str), .str ("some" : Str)] : List V) = ([wAll, wSome].map mkS).map V.str from by decide +kernel]
        show inV (.str (mkS w')) _ = true
        rw [inV_mk]
        rcases hw1 with rfl | rfl <;> decide
      rw [if_neg Bool.false_ne_true, nk]
      have h1' := sT _ _ h1
      have h2' := FAt.keep (KeepT.of sT) _ _ h2
      generalize upd H t (.tup [.str ("all" : Str), .str ("some" : Str)]) = H1 at sT h1' h2' ⊢
      have names8 := strip_small (w := w') f2 _ hf
      have nn8 : n.length ≤ 8 := hn.2.2.1
      obtain ⟨ssm, slen⟩ := strip_sm (w := w') f2 d hs
      have ssz := strip_sz w' f2
      rw [esp]
      refine iteT ⟨_, rfl, _, _, rfl, rfl, by show (mkS w').length + (mkS [32]).length ≤ _; rw [mkS_len, mkS_len]; exact small_sz (by simp; omega), ?_⟩
      refine ⟨_, rfl, p, _, 1, _, rfl, rfl, SqT.of h1', atI_nat (j := 1) rfl, _, _, rfl, rfl, ?_, ?_⟩
      · show (mkS w' ++ mkS [32]).length + (mkS n).length ≤ _
        rw [mkS_app, mkS_len, mkS_len]
        exact small_sz (by simp; omega)
      refine ⟨_, rfl, p, _, 2, _, rfl, rfl, SqT.of h1', atI_nat (j := 2) rfl, ?_⟩
      have e0 : mkS w' ++ mkS [32] ++ mkS n = mkS (w' ++ spaced [n]) := by
        rw [mkS_app, mkS_app]
        simp [spaced]
      refine ⟨_, _, rfl, _, rfl, by decide, by decide, ?_⟩
      refine for_range (lo := 0) (fun i σ H' => ∃ (ns : List Cs) (g' : Fm) (v' : V) (y5 : Option V), σ = [some (.ref p), some (.bl b), some (.str (mkS w')), some (.str (mkS (w' ++ spaced (n :: ns)))), some v', y5, none, none] ∧ H' = H1 ∧ FAt H1 g' v' ∧ (∃ bd', wf bd' g') ∧ (strip w' f2).1 = ns ++ (strip w' g').1 ∧ (strip w' f2).2 = (strip w' g').2 ∧ (strip w' g').1.length + i ≤ 6)
        ⟨[], f2, u, none, ?_, rfl, h2', ⟨_, hf⟩, rfl, rfl, by omega⟩ ?_ ?_
      · rw [← e0]
        rfl
      · rintro i σ H2 hi ⟨ns, g', v', y5, rfl, rfl, hg', ⟨bd', hw'⟩, e1, e2, li⟩
        obtain ⟨p2, xs2, rfl, hp2⟩ := fat_hd hg'
        refine ⟨_, rfl, p2, _, 0, _, rfl, rfl, SqT.of hp2, atI_nat (j := 0) rfl, _, rfl, rfl, _, rfl, ?_⟩
        rw [vs1]
        by_cases hq : ∃ n' f', g' = .qu w' n' f'
        · obtain ⟨n', f', rfl⟩ := hq
          rw [decide_eq_true (show hd (.qu w' n' f') = mkS w' from rfl)]
          obtain ⟨p3, u3, e3, g1, g2⟩ := hg'
          obtain rfl : p2 = p3 := V.ref.inj e3
          have eS : strip w' (.qu w' n' f') = (n' :: (strip w' f').1, (strip w' f').2) := by rw [strip_qu, if_pos rfl]
          rw [eS] at e1 e2 li
          have n8 : ∀ x ∈ n :: ns, x.length ≤ 8 := fun x hx => (List.mem_cons.mp hx).elim (fun z => z ▸ nn8) fun z => names8 x (by rw [e1]; exact List.mem_append_left _ z)
          have n8' : n'.length ≤ 8 := names8 n' (by rw [e1]; exact List.mem_append_right _ List.mem_cons_self)
          have sl := spaced_len n8
          have nsl : ns.length ≤ 6 := by
            have := congrArg List.length e1
            rw [List.length_append] at this
            omega
          rw [List.length_cons] at sl
          refine iteT ⟨_, rfl, _, _, rfl, rfl, by rw [mkS_len, mkS_len]; exact small_sz (by simp; omega), _, rfl, p2, _, 1, _, rfl, rfl, SqT.of g1, atI_nat (j := 1) rfl, _, _, rfl, rfl, ?_, _, rfl, p2, _, 2, _, rfl, rfl, SqT.of g1, atI_nat (j := 2) rfl, _, _, rfl, ?_⟩
          · rw [mkS_app, mkS_len, mkS_len]
            exact small_sz (by simp; omega)
          · refine ⟨ns ++ [n'], f', u3, some (.int (0 + (i : Nat))), ?_, rfl, g2, ⟨_, hw'.2.2.2⟩, ?_, e2, ?_⟩
            · have ee : mkS (w' ++ spaced (n :: ns)) ++ mkS [32] ++ mkS n' = mkS (w' ++ spaced (n :: (ns ++ [n']))) := by
                rw [mkS_app, mkS_app]
                have := spaced_snoc n' (n :: ns)
                rw [List.cons_append] at this
                rw [this]
                simp
              rw [← ee]
              rfl
            · rw [e1, List.append_assoc]
              rfl
            · rw [List.length_cons] at li
              omega
        · obtain ⟨qd, qs⟩ := hd_quiet hw1 hw' fun n' f' e => hq ⟨n', f', e⟩
          rw [qd]
          refine iteF ⟨ns, g', _, _, rfl, rfl, hg', ⟨bd', hw'⟩, e1, e2, ?_⟩
          rw [qs]
          show 0 + (i + 1) ≤ 6
          omega
      · rintro σ H2 ⟨ns, g', v', y5, rfl, rfl, hg', ⟨bd', hw'⟩, e1, e2, li⟩
        have z1 : (strip w' g').1 = [] := List.length_eq_zero_iff.mp (by omega)
        have z2 : (strip w' g').2 = g' := by
          by_cases hq : ∃ n' f', g' = .qu w' n' f'
          · obtain ⟨n', f', rfl⟩ := hq
            rw [strip_qu, if_pos rfl] at z1
            cases z1
          · rw [(hd_quiet hw1 hw' fun n' f' e => hq ⟨n', f', e⟩).2]
        rw [z1, List.append_nil] at e1
        rw [z2] at e2
        have n8 : ∀ x ∈ n :: ns, x.length ≤ 8 := fun x hx => (List.mem_cons.mp hx).elim (fun z => z ▸ nn8) fun z => names8 x (by rw [e1]; exact z)
        have sl := spaced_len n8
        have nsl : ns.length ≤ 6 := by
          have := congrArg List.length e1
          omega
        rw [List.length_cons] at sl
        have lg := len_tx plain_len g' .top bd' hw'
        rw [e2] at ssm ssz
        have ecl : (": " : Str) = mkS [58, 32] := by decide +kernel
        rw [ecl]
        refine ⟨_, rfl, _, _, rfl, rfl, by rw [mkS_len, mkS_len]; exact small_sz (by simp; omega), _, rfl, v', false, g', rfl, hg', ⟨bd', hw'⟩, ssm, by omega, fun H3 s3 => ?_⟩
        rw [if_neg Bool.false_ne_true, mkS_app]
        refine ⟨_, _, rfl, rfl, by rw [mkS_len, mkS_len]; exact small_sz (by simp; omega), ?_⟩
        rw [mkS_app]
        have et : w' ++ spaced (n :: ns) ++ [58, 32] ++ tx Fx.plain .top g' = tx Fx.plain .top (.qu w' n f2) := by
          rw [qu_text, e1, e2]
          simp
        exact ⟨_, _, _, _, _, rfl, sT.trans s3, et, by rw [et]; exact enc_qu w' n f2⟩
theorem ok_ltext {f fA : Addr} {fd fdA : FuncData} (F : Fun K "_law_text" "_law_text" sLText f fd) (T : Blt mg)
    (GA : FnOk P w K mg base CX0 1 fA fdA ["atom"] (spTermT K)) (kA : PySem.W.keepIn K (.ref fA) = true) (bA : Binds K fdA ["atom"] []) (gA : mg "_law_text_of" = some (.ref fA))
    (kR : PySem.W.keepIn K (.ref f) = true) (bR : Binds K fd pLText []) (gR : mg "_law_text" = some (.ref f)) : ∀ d, d ≤ 7 → FnOk P w K mg base CX0 (d + 1) f fd pLText (spLTextR K d)
  | 0, _ => F.ok scLText (fun vs H Q E h => h.elim) (fun cdv A outer s H vs Q E hr h => h.elim)
  | d + 1, h => ok_ltext_step d (by omega) F T GA kA bA gA (ok_ltext F T GA kA bA gA kR bR gR d (by omega)) kR bR gR
end
end Lo
namespace Lo
open PySem L2 Fx
section
variable {P : Program} {w : World} {K : PySem.W.Frag} {mg : Str → Option Value} {base : Heap}
/-! ### _law_known -/
def knownI : List (Str × Int) := (("" : Str), 1) :: (("i" : Str), 2) :: (("i =" : Str), 4) :: (("all : i = i" : Str), 5) :: (("all i i: i = 0" : Str), 7) :: (("all i: some i: i = 0" : Str), 13) :: (("i = 00" : Str), 5) :: (("i = 12345" : Str), 5) :: (("abcdefghi = 0" : Str), 1) :: (("i = j k = 0" : Str), 7) :: (("not" : Str), 4) :: (("(i = 0" : Str), 7) :: (("i = 0)" : Str), 6) :: (("i < = 0" : Str), 5) :: (("i =< 0" : Str), 4) :: (("i = 0 and" : Str), 10) :: (("and = 0" : Str), 1) :: (("i = 0 or or i = 1" : Str), 10) :: (("i + j = 0" : Str), 5) :: (("3 + i = 0" : Str), 3) :: (("I = 0" : Str), 1) :: (("i = 0;" : Str), 6) :: (("i = 0\n" : Str), 6) :: (("all i j = 0" : Str), 9) :: (("i ! j" : Str), 3) :: (("   " : Str), 4) :: (("some: i = 0" : Str), 5) :: (("i = 0 not i = 1" : Str), 7) :: (("all i: i = 0 all j: j = 0" : Str), 14) :: (("i = 0 and #" : Str), 11) :: (("((i = 0) or i = 1" : Str), 18) :: (("i = --1" : Str), 6) :: (("i - -1 = 0" : Str), 5) :: (("alli: i = 0" : Str), 5) :: []
theorem knownI_eq : knownI = known.map fun p => (p.1, ((p.2 : Nat) : Int)) := by with_unfolding_all rfl
inductive TaK : List (Str × Int) → TA → Prop
  | nil : TaK [] tNil
  | cons {x : Str} {c : Int} {r : List (Str × Int)} {t : TA} : TaK r t → TaK ((x, c) :: r) (tCons (tTup (tCons (tC (.str x)) (tCons (tC (.int c)) tNil))) t)
theorem TaK.args {l : List (Str × Int)} {t : TA} (k : TaK l t) : ∀ (σ : L2.St) (H : Hp) (Q : List V → Hp → Prop),
    (∀ (H' : Hp) (ps : List Addr), Same H H' → ps.length = l.length → (∀ (i : Nat) (p : Addr) (q : Str × Int), ps[i]? = some p → l[i]? = some q → H' p = some (.tup [.str q.1, .int q.2])) → Q (ps.map V.ref) H') → t σ H Q := by
  induction k with
  | nil => exact fun σ H Q h => h H [] (fun b o e => e) rfl fun i p q e => nomatch e
  | @cons x c r t k ih =>
    intro σ H Q h
    refine ⟨by show 2 ≤ sizeLine; decide, fun u nu => ?_⟩
    have sT := same_upd (o := HO.tup [.str x, .int c]) nu
    refine ih _ _ _ fun H' ps s' hl hat => h H' (u :: ps) (sT.trans s') (by rw [List.length_cons, List.length_cons, hl]) fun i p q hp hq => ?_
    cases i with
    | zero =>
      obtain rfl := Option.some.inj hp
      obtain rfl := Option.some.inj hq
      exact s' _ _ upd_same
    | succ i => exact hat i p q hp hq
theorem TaK.run {l : List (Str × Int)} {t : TA} (k : TaK l t) {σ : L2.St} {H : Hp} {D : L2.Ends} {g : TG} {rest : TS}
    (hl : l.length ≤ sizeLine) (h : ∀ (H' : Hp) (ps : List Addr), Same H H' → ps.length = l.length → (∀ (i : Nat) (p : Addr) (q : Str × Int), ps[i]? = some p → l[i]? = some q → H' p = some (.tup [.str q.1, .int q.2])) → ∀ p, H' p = none → g (.ref p) σ (upd H' p (.tup (ps.map V.ref))) (fun σ' H2 => rest D σ' H2)) : tSeq (tAsg (tTup t) g) rest D σ H :=
  k.args σ H _ fun H' ps s' e hat => ⟨by rw [List.length_map, e]; exact hl, fun p np => h H' ps s' e hat p np⟩
def spKnown : Sp := fun vs H Q _ => ∃ (j : Nat), vs = [.int (j : Nat)] ∧ j < 34 ∧ ∀ (H' : Hp) (p : Addr) (q : Str × Nat), Same H H' → known[j]? = some q → H' p = some (.tup [.str q.1, .int (q.2 : Nat)]) → Q (.ref p) H'
abbrev nLKnown : List Str := ["turn", "rows"]
theorem scLKnown : FnScope nLKnown ["turn"] (defScope sLKnown) := ⟨rfl, rfl, rfl, by decide +kernel, rfl, by decide +kernel, by decide +kernel⟩
theorem ok_lknown {f : Addr} {fd : FuncData} (F : Fun K "_law_known" "_law_known" sLKnown f fd) (T : Blt mg) : FnOk P w K mg base CX0 1 f fd ["turn"] spKnown := by
  refine F.ok scLKnown (fun vs H Q E h => ?_) (fun cdv A outer s0 H vs Q E hr h => ?_)
  · obtain ⟨j, rfl, _⟩ := h
    rfl
  · obtain ⟨j, rfl, hj, q⟩ := h
    have nd := scLKnown.nd
    refine ⟨_, pss_cons (ps_set (i := 1) nd rfl (.inl rfl) (pe_tup (pa_cons (pe_tup (pa_cons pe_str (pa_cons pe_int pa_nil))) (pa_cons (pe_tup (pa_cons pe_str (pa_cons pe_int pa_nil))) (pa_cons (pe_tup (pa_cons pe_str (pa_cons pe_int pa_nil))) (pa_cons (pe_tup (pa_cons pe_str (pa_cons pe_int pa_nil))) (pa_cons (pe_tup (pa_cons pe_str (pa_cons pe_int pa_nil))) (pa_cons (pe_tup (pa_cons pe_str (pa_cons pe_int pa_nil))) (pa_cons (pe_tup (pa_cons pe_str (pa_cons pe_int pa_nil))) (pa_cons (pe_tup (pa_cons pe_str (pa_cons pe_int pa_nil))) (pa_cons (pe_tup (pa_cons pe_str (pa_cons pe_int pa_nil))) (pa_cons (pe_tup (pa_cons pe_str (pa_cons pe_int pa_nil))) (pa_cons (pe_tup (pa_cons pe_str (pa_cons pe_int pa_nil))) (pa_cons (pe_tup (pa_cons pe_str (pa_cons pe_int pa_nil))) (pa_cons (pe_tup (pa_cons pe_str (pa_cons pe_int pa_nil))) (pa_cons (pe_tup (pa_cons pe_str (pa_cons pe_int pa_nil))) (pa_cons (pe_tup (pa_cons pe_str (pa_cons pe_int pa_nil))) (pa_cons (pe_tup (pa_cons pe_str (pa_cons pe_int pa_nil))) (pa_cons (pe_tup (pa_cons pe_str (pa_cons pe_int pa_nil))) (pa_cons (pe_tup (pa_cons pe_str (pa_cons pe_int pa_nil))) (pa_cons (pe_tup (pa_cons pe_str (pa_cons pe_int pa_nil))) (pa_cons (pe_tup (pa_cons pe_str (pa_cons pe_int pa_nil))) (pa_cons (pe_tup (pa_cons pe_str (pa_cons pe_int pa_nil))) (pa_cons (pe_tup (pa_cons pe_str (pa_cons pe_int pa_nil))) (pa_cons (pe_tup (pa_cons pe_str (pa_cons pe_int pa_nil))) (pa_cons (pe_tup (pa_cons pe_str (pa_cons pe_int pa_nil))) (pa_cons (pe_tup (pa_cons pe_str (pa_cons pe_int pa_nil))) (pa_cons (pe_tup (pa_cons pe_str (pa_cons pe_int pa_nil))) (pa_cons (pe_tup (pa_cons pe_str (pa_cons pe_int pa_nil))) (pa_cons (pe_tup (pa_cons pe_str (pa_cons pe_int pa_nil))) (pa_cons (pe_tup (pa_cons pe_str (pa_cons pe_int pa_nil))) (pa_cons (pe_tup (pa_cons pe_str (pa_cons pe_int pa_nil))) (pa_cons (pe_tup (pa_cons pe_str (pa_cons pe_int pa_nil))) (pa_cons (pe_tup (pa_cons pe_str (pa_cons pe_int pa_nil))) (pa_cons (pe_tup (pa_cons pe_str (pa_cons pe_int pa_nil))) (pa_cons (pe_tup (pa_cons pe_str (pa_cons pe_int pa_nil))) (pa_nil)))))))))))))))))))))))))))))))))))))
      (pss_one (ps_ret (pe_ix ix_tup (pv 1) (pe_op op_modN (pv 0) (pe_callB call_len_seq (by rfl) T.len PySem.boot_len (pa_cons (pv 1) pa_nil))) (fun _ _ => rfl)))), ?_⟩
    refine TaK.run (l := knownI) ?k (by decide) fun H1 ps s1 hl0 hat0 t nt => ?_
    case k =>
      unfold knownI
      repeat (first | exact .nil | refine .cons ?_)
    have hl : ps.length = known.length := by rw [hl0, knownI_eq, List.length_map]
    have hat : ∀ (i : Nat) (p : Addr) (q : Str × Nat), ps[i]? = some p → known[i]? = some q → H1 p = some (.tup [.str q.1, .int (q.2 : Nat)]) := fun i p q x y => hat0 i p (q.1, ((q.2 : Nat) : Int)) x (by rw [knownI_eq, List.getElem?_map, y]; rfl)
    have sT := s1.trans (same_upd (o := HO.tup (ps.map V.ref)) nt)
    have hT := upd_same (H := H1) (a := t) (o := HO.tup (ps.map V.ref))
    have hat2 : ∀ (i : Nat) (p : Addr) (q : Str × Nat), ps[i]? = some p → known[i]? = some q → upd H1 t (.tup (ps.map V.ref)) p = some (.tup [.str q.1, .int (q.2 : Nat)]) := fun i p q x y => same_upd nt _ _ (hat i p q x y)
    have hj2 : j < ps.length := by rw [hl, known_len]; exact hj
    have hj3 : j < known.length := by rw [known_len]; exact hj
    have el : (((ps.map V.ref).length : Nat) : Int) = 34 := by rw [List.length_map, hl, known_len]; rfl
    have hget : (ps.map V.ref)[j]? = some (.ref ps[j]) := by rw [List.getElem?_map, List.getElem?_eq_getElem hj2]; rfl
    refine ⟨_, rfl, _, rfl, _, rfl, t, _, rfl, .inr (SqT.of hT), _, _, rfl, rfl, by rw [el]; show (34 : Int) ≠ 0; decide, t, _, (j : Nat), _, rfl, ?_, SqT.of hT, atI_nat hget, ?_⟩
    · rw [el]
      show V.int (((j : Nat) : Int).fmod 34) = _
      rw [Int.fmod_eq_emod_of_nonneg _ (by decide), Int.emod_eq_of_lt (by omega) (by omega)]
    · exact q _ _ known[j] sT (List.getElem?_eq_getElem hj3) (hat2 j _ _ (List.getElem?_eq_getElem hj2) (List.getElem?_eq_getElem hj3))
/-! ### isinstance of a caught error that has fields; _law_refused -/
def rIsF (K : PySem.W.Frag) (a : Addr) (cls : Value) (d : Option Addr) (C : Addr) : List V → Hp → VK → Prop := fun xs H Q => ∃ (c : V) (cv : Value) (b : Bool) (dd : Addr) (fs : List (Str × V)), xs = [.ref a, c] ∧ cls = .ref C ∧ d = some dd ∧ H dd = some (.xd fs) ∧ (∀ u, RelV c u → u = cv) ∧ PySem.W.kitOne K (.ref C) cv = some b ∧ Q (.bl b) H
theorem call_isF {X : Cx} {a C : Addr} {oe : Obj} {cls : Value} {d : Option Addr} {pn : List (Addr × Obj)} (T : ExcC X.K C) (hz : Zc cls d oe) (hf : ∃ vs, oe.data = .fields vs) : CallR (X.suite a ((a, oe) :: pn)) (.builtin "isinstance") (rIsF X.K a cls d C) := by
  intro pins s σ H xs us Q I r h
  obtain ⟨c, cv, b, dd, fs, rfl, rfl, rfl, ea, hcv, e, q⟩ := h
  cases r with
  | cons rx rr =>
    cases rr with
    | cons rt rr =>
      cases rr
      cases rx
      have ec := hcv _ rt
      subst ec
      obtain ⟨hget, _⟩ := I.pin (a, oe) (List.mem_append.mpr (.inl List.mem_cons_self))
      obtain ⟨vs, hv⟩ := hf
      have hx : ObjOk X.prog X.w H s.heap dd (.xd fs) := I.hok dd _ ea
      obtain ⟨mA, hns, _⟩ := hx
      obtain ⟨od, ho, _⟩ := lookIn_ns hns
      have J : PySem.W.InstAt s.heap a oe C (some od) := ⟨hget, hz.1, by unfold PySem.W.notCls; rw [hv] <;> rfl, by rw [hz.2]; exact ho⟩
      have hcl : (PySem.W.clsIn X.K C).isSome = true := by
        obtain ⟨cd, hc, _⟩ := PySem.W.any_some T.hd
        rw [hc]
        rfl
      exact PySem.W.kia_one (PySem.W.kitx_exc hcl T.hg T.hk T.hs T.ha T.hn T.ht T.hm) I.kIn J e (fun z => nomatch z) fun tk => ⟨.bl b, H, I.kept (t' := tk) fun _ _ z => z, rfl, q⟩
theorem bt_line (c : Nat) : (btF c).lookup ("line" : Str) = some (.int 1) := by
  have h : (("line" : Str) == ("column" : Str)) = false := by decide +kernel
  unfold btF
  rw [List.lookup_cons, h, List.lookup_cons]
  have h2 : (("line" : Str) == ("line" : Str)) = true := by decide +kernel
  rw [h2]
theorem bt_col (c : Nat) : (btF c).lookup ("column" : Str) = some (.int (c : Nat)) := by
  have h : (("column" : Str) == ("column" : Str)) = true := by decide +kernel
  unfold btF
  rw [List.lookup_cons, h]
/-- what the law's defs say of the error's classes -/
structure RefC (K : PySem.W.Frag) (mg : Str → Option Value) (CB CE : Addr) : Prop where
  xf : XfC K CB
  ex : ExcC K CB
  no1 : PySem.W.findIn K (.ref CB) "line" = some none
  no2 : PySem.W.findIn K (.ref CB) "column" = some none
  mgB : mg "BadText" = some (.ref CB)
  mgE : mg "LoopshedsError" = some (.ref CE)
  one : PySem.W.kitOne K (.ref CB) (.ref CE) = some true
  te : PySem.W.exmOne K (.ref CB) (.ref CB) = some true
def spRefused : Sp := fun vs H Q _ => ∃ (t : Str) (c : Nat), vs = [.str t, .int (c : Nat)] ∧ t.length ≤ 1000000 ∧ readF (cs t) = .error c ∧ ∀ H', Same H H' → Q (.bl true) H'
abbrev nLRef : List Str := ["text", "column", "error"]
theorem scLRef : FnScope nLRef ["text", "column"] (defScope sLRefused) := ⟨rfl, rfl, rfl, by decide +kernel, rfl, by decide +kernel, by decide +kernel⟩
theorem ok_lrefused {f fR CB CE : Addr} {fd fdR : FuncData} (F : Fun K "_law_refused" "_law_refused" sLRefused f fd) (T : Blt mg) (R : RefC K mg CB CE)
    (GR : FnOk P w K mg base (L2.CX P w) 9 fR fdR ["text"] (spReadF CB)) (kR : PySem.W.keepIn K (.ref fR) = true) (bR : Binds K fdR ["text"] []) (gR : mg "read_formula" = some (.ref fR)) : FnOk P w K mg base CX0 10 f fd ["text", "column"] spRefused := by
  refine F.ok scLRef (fun vs H Q E h => ?_) (fun cdv A outer s0 H vs Q E hr h => ?_)
  · obtain ⟨t, c, rfl, _⟩ := h
    rfl
  · obtain ⟨t, c, rfl, ht, he, q⟩ := h
    have nd := scLRef.nd
    refine ⟨_, pss_one (L2.ps_try_as (i := 2) (c := .ref CB) rfl rfl nd rfl rfl ⟨rfl, by decide, .inl R.mgB⟩ takes0
      (fun W pn xe tk _ => pss_cons (ps_expr (pe_callS GR hr (by rfl) gR kR bR (fun σ => passAt tk σ) (pa_cons (pv 0) pa_nil))) (pss_one (ps_ret pe_bl)))
      (fun a oe cls d pn hz hf => pss_one (ps_ret (pe_and (pe_cmpR op_eq (pe_xf R.xf R.no1 hz hf (pv 2)) pe_int (nomark _)) (pe_and (pe_cmpR op_eq (pe_xf R.xf R.no2 hz hf (pv 2)) (pv 1) (nomark _))
        (pe_one (pe_callB (call_isF R.ex hz hf) (by rfl) T.isi PyProof.Rows.boot_isinstance (pa_cons (pv 2) (pa_cons (pe_glob (v := .ref CE) (by rfl) R.mgE rfl) pa_nil))))))))), ?_⟩
    refine ⟨_, rfl, t, rfl, ht, fun f e => absurd (he.symm.trans e) (by intro z; cases z), fun c' e H' dd s' nd' hx => ?_⟩
    obtain rfl : c = c' := by
      have := he.symm.trans e
      exact Except.error.inj this
    refine ⟨true, R.te, fun _ a ha => ?_, fun q => nomatch q⟩
    refine ⟨_, rfl, rfl, rfl, dd, _, _, rfl, hx, bt_line c, rfl, _, rfl, iteT ?_⟩
    refine ⟨_, rfl, rfl, rfl, dd, _, _, rfl, hx, bt_col c, _, rfl, rfl, _, rfl, ?_⟩
    rw [decide_eq_true rfl]
    refine iteT ⟨_, rfl, .ref CE, .ref CE, true, dd, _, rfl, rfl, rfl, hx, fun u hu => hu, R.one, ?_⟩
    exact q H' s'
mutual
theorem fr_len : ∀ (f : Fm) (bd : List Cs), (fr bd f).length ≤ 2 * sz f
  | .cmp _ n1 _ n2 _, bd => by
    rw [fr]
    have := List.length_filter_le (fnName bd) [n1, n2]
    simp only [List.length_cons, List.length_nil] at this
    simp only [sz]
    omega
  | .neg f, bd => by
    rw [fr]
    have := fr_len f bd
    simp only [sz]
    omega
  | .row _ fs, bd => by
    rw [fr]
    have := frs_len fs bd
    simp only [sz]
    omega
  | .qu _ n f, bd => by
    rw [fr]
    have := fr_len f (n :: bd)
    simp only [sz]
    omega
theorem frs_len : ∀ (fs : List Fm) (bd : List Cs), (Fx.frs bd fs).length ≤ 2 * szs fs
  | [], bd => by rw [Fx.frs]; exact Nat.zero_le _
  | f :: fs, bd => by
    rw [Fx.frs, List.length_append]
    have := fr_len f bd
    have := frs_len fs bd
    simp only [szs]
    omega
end
theorem frs_snoc (bd : List Cs) (f : Fm) : ∀ l : List Fm, Fx.frs bd (l ++ [f]) = Fx.frs bd l ++ fr bd f
  | [] => by
    show Fx.frs bd [f] = Fx.frs bd [] ++ fr bd f
    rw [Fx.frs, Fx.frs]
    simp [Fx.frs]
  | x :: l => by
    show Fx.frs bd (x :: (l ++ [f])) = _
    rw [Fx.frs, frs_snoc bd f l, Fx.frs, List.append_assoc]
theorem szs_take : ∀ (fs : List Fm) (i : Nat), szs (fs.take i) ≤ szs fs
  | [], i => by simp
  | f :: fs, 0 => Nat.zero_le _
  | f :: fs, i + 1 => by
    have := szs_take fs i
    simp only [List.take_succ_cons, szs]
    omega
/-! ### _law_free -/
def spLFree (K : PySem.W.Frag) (d : Nat) : Sp := fun vs H Q _ => ∃ (v : V) (bl : Addr) (bds : List Cs) (f : Fm), vs = [v, .ref bl] ∧ H bl = some (.lst ((bds.map mkS).map V.str)) ∧ FAt H f v ∧ (∃ bd, wf bd f) ∧ sm d f ∧ bds.length + d ≤ 20 ∧ sz f ≤ 1000 ∧
  ∀ H' p, Same H H' → H p = none → H' p = some (.lst (((fr bds f).map mkS).map V.str)) → Q (.ref p) H'
def spLFreeR (K : PySem.W.Frag) : Nat → Sp
  | 0 => fun _ _ _ _ => False
  | d + 1 => spLFree K d
abbrev nLFree : List Str := ["tree", "bound", "atom", "found", "part"]
abbrev pLFree : List Str := ["tree", "bound"]
theorem scLFree : FnScope nLFree pLFree (defScope sLFree) := ⟨rfl, rfl, rfl, by decide +kernel, rfl, by decide +kernel, by decide +kernel⟩
theorem ok_lfree_step {f : Addr} {fd : FuncData} (d : Nat) (F : Fun K "_law_free" "_law_free" sLFree f fd)
    (GR : FnOk P w K mg base CX0 (d + 1) f fd pLFree (spLFreeR K d)) (kR : PySem.W.keepIn K (.ref f) = true) (bR : Binds K fd pLFree []) (gR : mg "_law_free" = some (.ref f)) : FnOk P w K mg base CX0 (d + 2) f fd pLFree (spLFree K d) := by
  refine F.ok scLFree (fun vs H Q E h => ?_) (fun cdv A outer s0 H vs Q E hr h => ?_)
  · obtain ⟨v, bl, bds, g, rfl, _⟩ := h
    rfl
  · obtain ⟨v, bl, bds, g, rfl, hbl, hg, ⟨bd, hw⟩, hs, hbd, hsz, q⟩ := h
    have nd := scLFree.nd
    refine ⟨_, pss_cons (ps_if (pt_cmpR op_eq (pe_ix ix_tup (pv 0) pe_int (fun _ _ => rfl)) pe_str (nomark _))
        (pss_one (ps_ret (pe_lc (own := [("atom", 2)]) (g := gName 2) rfl nd (pi_tup (pe_slice sl_tup (pv 0) (po_some pe_int) po_none)) (blkOk_by (N := nLFree) (sc := defScope sLFree) (by decide +kernel))
          (fun _ _ _ _ _ => pg_name (i := 2) nd rfl (.inl rfl)) (fun _ _ _ _ _ => pts_one (PW.pt (pw_and (pt_cmpR op_ne (pe_ix (r := rIxT K) ix_tup (pv 2) pe_int (fun _ _ => rfl)) pe_str (nomark _)) (pw_and1 (pt_cmpR (r := rIn K true) op_notIn_seq (pe_ix (r := rIxT K) ix_tup (pv 2) pe_int (fun _ _ => rfl)) (pv 1) (by rfl)))))) (fun _ _ _ _ _ => pe_ix (r := rIxT K) ix_tup (pv 2) pe_int (fun _ _ => rfl))))) pss_nil)
      (pss_cons (ps_if (pt_cmpR op_eq (pe_ix ix_tup (pv 0) pe_int (fun _ _ => rfl)) pe_str (nomark _))
        (pss_one (ps_ret (pe_call GR hr (by rfl) gR kR bR .nil pass0 (pa_cons (pe_ix ix_tup (pv 0) pe_int (fun _ _ => rfl)) (pa_cons (pv 1) pa_nil))))) pss_nil)
      (pss_cons (ps_if (pt_cmpR op_in_seq (pe_ix ix_tup (pv 0) pe_int (fun _ _ => rfl)) (pe_tup (pa_cons pe_str (pa_cons pe_str pa_nil))) (by rfl))
        (pss_one (ps_ret (pe_call GR hr (by rfl) gR kR bR .nil pass0 (pa_cons (pe_ix ix_tup (pv 0) pe_int (fun _ _ => rfl)) (pa_cons (pe_op op_cat (pv 1) (pe_lst (pa_cons (pe_ix ix_tup (pv 0) pe_int (fun _ _ => rfl)) pa_nil))) pa_nil))))) pss_nil)
      (pss_cons (ps_set (i := 3) nd rfl (.inl rfl) (pe_lst pa_nil))
      (pss_cons (ps_for PassesOwn.never rfl (pi_tup (pe_ix ix_tup (pv 0) pe_int (fun _ _ => rfl))) (pg_name (i := 4) nd rfl (.inl rfl))
        (pss_one (ps_set (i := 3) nd rfl (.inl rfl) (pe_op op_cat (pv 3) (pe_call GR hr (by rfl) gR kR bR .nil pass0 (pa_cons (pv 4) (pa_cons (pv 1) pa_nil)))))))
      (pss_one (ps_ret (pv 3))))))), ?_⟩
    have vs1 : ∀ a b : Str, decide (V.str a = V.str b) = decide (a = b) := fun a b => decide_eq_decide.mpr ⟨fun z => V.str.inj z, fun z => by rw [z]⟩
    obtain ⟨p, xs, rfl, hp⟩ := fat_hd hg
    obtain ⟨d1, d2⟩ := hd_in hw
    refine ⟨_, rfl, p, _, 0, _, rfl, rfl, SqT.of hp, atI_nat (j := 0) rfl, rfl, _, rfl, ?_⟩
    rw [vs1, d1]
    cases g with
    | cmp op n1 k1 n2 k2 =>
      obtain ⟨p', a, b, e2, h1, h2, h3⟩ := hg
      obtain rfl : p = p' := V.ref.inj e2
      refine iteT ⟨_, rfl, 2, rfl, p, _, rfl, SqT.of h1, fun z => absurd z.1 (show ¬ (2 : Nat) = 0 by decide), fun sl nsl => ?_⟩
      have ecut : cutV [V.str ("compare" : Str), .str (mkS op), .ref a, .ref b] (some 2) none = [V.ref a, .ref b] := rfl
      rw [ecut]
      have sS := same_upd (o := HO.tup [V.ref a, .ref b]) nsl
      have hS := upd_same (H := H) (a := sl) (o := HO.tup [V.ref a, .ref b])
      have h23 := sS _ _ h2
      have h33 := sS _ _ h3
      have hbl3 := sS _ _ hbl
      generalize upd H sl (.tup [V.ref a, .ref b]) = H3 at sS hS h23 h33 hbl3 ⊢
      refine ⟨sl, rfl, ⟨_, SqT.of hS⟩, fun D nD => ?_⟩
      refine lc_tup (K := K) (a := sl) (xs := [V.ref a, .ref b]) (fun i H' => Same H3 H' ∧ H' D = some (.lst (((([n1, n2].take i).filter (fnName bds)).map mkS).map V.str))) ⟨same_upd nD, upd_same⟩ (fun i H' _ h => SqT.of (h.1 _ _ hS)) ?_ ?_
      · rintro i x H4 hi ⟨s4, hD⟩
        obtain ⟨n, k, a', rfl, ha', hni⟩ : ∃ (n : Cs) (k : Int) (a' : Addr), x = .ref a' ∧ H4 a' = some (.tup [.str (mkS n), .int k]) ∧ [n1, n2][i]? = some n := by
          match i, hi with
          | 0, hi => exact ⟨n1, k1, a, (Option.some.inj hi).symm, s4 _ _ h23, rfl⟩
          | 1, hi => exact ⟨n2, k2, b, (Option.some.inj hi).symm, s4 _ _ h33, rfl⟩
          | i + 2, hi => simp at hi
        have et : [n1, n2].take (i + 1) = [n1, n2].take i ++ [n] := by rw [List.take_add_one, hni]; rfl
        have il : i < 2 := (List.getElem?_eq_some_iff.mp hni).1
        have lf := List.length_filter_le (fnName bds) ([n1, n2].take i)
        rw [List.length_take] at lf
        rw [et, List.filter_append]
        refine ⟨rfl, ?_⟩
        refine ⟨_, rfl, a', _, 0, _, rfl, rfl, SqT.of ha', atI_nat (j := 0) rfl, rfl, _, rfl, ?_⟩
        rw [mk_zero, dec_mk]
        by_cases h0 : n = [48]
        · have ef : fnName bds n = false := by simp [fnName, h0]
          rw [decide_eq_true h0, List.filter_cons, ef]
          refine iteF (iteF ⟨s4, ?_⟩)
          rw [if_neg Bool.false_ne_true, List.filter_nil, List.append_nil]
          exact hD
        · rw [decide_eq_false h0]
          refine iteT ⟨_, rfl, a', _, 0, _, rfl, rfl, SqT.of ha', atI_nat (j := 0) rfl, _, rfl, bl, _, rfl, .inl (SqL.of (s4 _ _ hbl3)), rfl, flat_strs _, _, rfl, ?_⟩
          rw [if_pos rfl, inV_mk]
          by_cases hm : n ∈ bds
          · have ef : fnName bds n = false := by simp [fnName, hm]
            rw [decide_eq_true hm, List.filter_cons, ef]
            refine iteF ⟨s4, ?_⟩
            rw [if_neg Bool.false_ne_true, List.filter_nil, List.append_nil]
            exact hD
          · have ef : fnName bds n = true := by simp [fnName, hm, h0]
            rw [decide_eq_false hm, List.filter_cons, ef]
            refine iteT ⟨_, rfl, a', _, 0, _, rfl, rfl, SqT.of ha', atI_nat (j := 0) rfl, _, hD, ?_, s4.later nD, ?_⟩
            · rw [List.length_map, List.length_map]
              exact Nat.lt_of_le_of_lt (show _ ≤ 1000000 by omega) (by decide)
            · rw [upd_same, if_pos rfl, List.map_append, List.map_append]
              rfl
      · rintro H4 ⟨s4, hD⟩
        refine q _ D (sS.trans s4) (sS.free nD) ?_
        rw [fr]
        exact hD
    | neg f2 =>
      obtain ⟨p', u, e2, h1, h2⟩ := hg
      obtain rfl : p = p' := V.ref.inj e2
      cases d with
      | zero => simp [sm] at hs
      | succ d =>
      rw [sm] at hs
      have hsz' : sz f2 + 1 ≤ 1000 := hsz
      refine iteF ⟨_, rfl, p, _, 0, _, rfl, rfl, SqT.of hp, atI_nat (j := 0) rfl, rfl, _, rfl, ?_⟩
      rw [vs1, d2]
      refine iteT ⟨_, rfl, p, _, 1, _, rfl, rfl, SqT.of h1, atI_nat (j := 1) rfl, _, rfl, u, bl, bds, f2, rfl, hbl, h2, ⟨bd, hw⟩, hs, by omega, by omega, fun H' p s' n e => q H' p s' n ?_⟩
      rw [fr]
      exact e
    | row w' fs =>
      obtain ⟨p', a, us, e2, h1, h2, h3⟩ := hg
      obtain rfl : p = p' := V.ref.inj e2
      obtain ⟨hw1, hw2, hw3⟩ := hw
      cases d with
      | zero => simp [sm] at hs
      | succ d =>
      rw [sm] at hs
      have lus := FAts.len _ _ h3
      have hsz' : szs fs + 1 ≤ 1000 := hsz
      refine iteF ⟨_, rfl, p, _, 0, _, rfl, rfl, SqT.of hp, atI_nat (j := 0) rfl, rfl, _, rfl, ?_⟩
      rw [vs1, d2]
      refine iteF ⟨_, rfl, p, _, 0, _, rfl, rfl, SqT.of hp, atI_nat (j := 0) rfl, by show 2 ≤ sizeLine; decide, fun t nt => ?_⟩
      have sT := same_upd (o := HO.tup [.str ("all" : Str), .str ("some" : Str)]) nt
      refine ⟨t, [.str ("all" : Str), .str ("some" : Str)], rfl, .inr (SqT.of upd_same), rfl, rfl, _, rfl, ?_⟩
      have nk : inV (.str (hd (.row w' fs))) [.str ("all" : Str), .str ("some" : Str)] = false := by
        rw [show ([.str ("all" : Str), .str ("some" : Str)] : List V) = ([wAll, wSome].map mkS).map V.str from by decide +kernel]
        show inV (.str (mkS w')) _ = false
        rw [inV_mk]
        rcases hw1 with rfl | rfl <;> decide
      rw [if_neg Bool.false_ne_true, nk]
      have h1' := sT _ _ h1
      have h2' := sT _ _ h2
      have h3' := FAts.keep (KeepT.of sT) _ _ h3
      have hbl' := sT _ _ hbl
      generalize upd H t (.tup [.str ("all" : Str), .str ("some" : Str)]) = H1 at sT h1' h2' h3' hbl' ⊢
      refine iteF ⟨Nat.zero_le _, fun L0 nL0 => ?_⟩
      have sL0 := same_upd (o := HO.lst []) nL0
      have sH2 := sT.trans sL0
      have h12 := sL0 _ _ h1'
      have h22 := sL0 _ _ h2'
      have h32 := FAts.keep (KeepT.of sL0) _ _ h3'
      have hbl2 := sL0 _ _ hbl'
      have hL0 := upd_same (H := H1) (a := L0) (o := HO.lst [])
      generalize upd H1 L0 (.lst []) = H2 at sL0 sH2 h12 h22 h32 hbl2 hL0 ⊢
      refine ⟨_, rfl, p, _, 1, _, rfl, rfl, SqT.of h12, atI_nat (j := 1) rfl, a, rfl, ⟨_, SqT.of h22⟩, for_tup (K := K) (a := a) (xs := us) (fun i σ H' => ∃ (Lf : Addr) (y4 : Option V), σ = [some (.ref p), some (.ref bl), none, some (.ref Lf), y4] ∧ Same H2 H' ∧ H Lf = none ∧ H' Lf = some (.lst (((Fx.frs bds (fs.take i)).map mkS).map V.str)))
        ⟨L0, none, rfl, Same.refl _, sT.free nL0, by rw [List.take_zero, Fx.frs]; exact hL0⟩ (fun i σ H' _ ⟨_, _, _, s', _⟩ => SqT.of (s' _ _ h22)) ?_ ?_⟩
      · rintro i x σ H3 hi ⟨Lf, y4, rfl, s3, nLf, hLf⟩
        obtain ⟨g, hgi, hgx⟩ := FAts.get h32 i x hi
        have hgm : g ∈ fs := List.mem_of_getElem? hgi
        have et : fs.take (i + 1) = fs.take i ++ [g] := by rw [List.take_add_one, hgi]; rfl
        have hzg := szs_mem hgm
        have l1 := frs_len (fs.take i) bds
        have l2 := szs_take fs i
        have l3 := fr_len g bds
        refine ⟨_, rfl, _, rfl, _, rfl, x, bl, bds, g, rfl, s3 _ _ hbl2, FAt.keep (KeepT.of s3) _ _ hgx, ⟨bd, wfs_mem hw3 hgm⟩, sms_mem hs.2 hgm, by omega, by omega, fun H4 p4 s4 n4 e4 => ?_⟩
        refine ⟨Lf, p4, _, _, rfl, rfl, s4 _ _ hLf, e4, ?_, fun M nM => ?_⟩
        · rw [List.length_map, List.length_map, List.length_map, List.length_map]
          exact small_sz (by omega)
        · refine ⟨M, _, rfl, (s3.trans s4).later (s3.free (s4.free nM)), (sH2.trans (s3.trans s4)).free nM, ?_⟩
          rw [upd_same, et, frs_snoc, List.map_append, List.map_append]
      · rintro σ H3 ⟨Lf, y4, rfl, s3, nLf, hLf⟩
        rw [lus, List.take_length] at hLf
        refine ⟨_, rfl, q H3 Lf (sH2.trans s3) nLf ?_⟩
        rw [fr]
        exact hLf
    | qu w' n f2 =>
      obtain ⟨p', u, e2, h1, h2⟩ := hg
      obtain rfl : p = p' := V.ref.inj e2
      cases d with
      | zero => simp [sm] at hs
      | succ d =>
      rw [sm] at hs
      have hsz' : sz f2 + 1 ≤ 1000 := hsz
      obtain ⟨hw1, hn, hnb, hf⟩ := hw
      refine iteF ⟨_, rfl, p, _, 0, _, rfl, rfl, SqT.of hp, atI_nat (j := 0) rfl, rfl, _, rfl, ?_⟩
      rw [vs1, d2]
      refine iteF ⟨_, rfl, p, _, 0, _, rfl, rfl, SqT.of hp, atI_nat (j := 0) rfl, by show 2 ≤ sizeLine; decide, fun t nt => ?_⟩
      have sT := same_upd (o := HO.tup [.str ("all" : Str), .str ("some" : Str)]) nt
      refine ⟨t, [.str ("all" : Str), .str ("some" : Str)], rfl, .inr (SqT.of upd_same), rfl, rfl, _, rfl, ?_⟩
      have nk : inV (.str (hd (.qu w' n f2))) [.str ("all" : Str), .str ("some" : Str)] = true := by
        rw [show ([.str ("all" : Str), .str ("some" : Str)] : List V) = ([wAll, wSome].map mkS).map V.str from by decide +kernel]
        show inV (.str (mkS w')) _ = true
        rw [inV_mk]
        rcases hw1 with rfl | rfl <;> decide
      rw [if_neg Bool.false_ne_true, nk]
      have h1' := sT _ _ h1
      have h2' := FAt.keep (KeepT.of sT) _ _ h2
      have hbl' := sT _ _ hbl
      generalize upd H t (.tup [.str ("all" : Str), .str ("some" : Str)]) = H1 at sT h1' h2' hbl' ⊢
      refine iteT ⟨_, rfl, p, _, 2, _, rfl, rfl, SqT.of h1', atI_nat (j := 2) rfl, _, rfl, _, rfl, p, _, 1, _, rfl, rfl, SqT.of h1', atI_nat (j := 1) rfl, by show 1 ≤ sizeLine; decide, fun L nL => ?_⟩
      have sL := same_upd (o := HO.lst [V.str (mkS n)]) nL
      refine ⟨bl, L, _, _, rfl, rfl, sL _ _ hbl', upd_same, ?_, fun M nM => ?_⟩
      · rw [List.length_map, List.length_map]
        exact small_sz (by show bds.length + 1 ≤ _; omega)
      have sM := sL.trans (same_upd (o := HO.lst (((bds.map mkS).map V.str) ++ [V.str (mkS n)])) nM)
      refine ⟨u, M, bds ++ [n], f2, rfl, ?_, FAt.keep (KeepT.of sM) _ _ h2', ⟨_, hf⟩, hs, by rw [List.length_append, List.length_singleton]; omega, by omega, fun H' p s' ne e => q H' p ((sT.trans sM).trans s') ((sT.trans sM).free ne) ?_⟩
      · rw [upd_same, List.map_append, List.map_append]
        rfl
      · rw [fr, fr_congr f2 (n :: bds) (bds ++ [n]) fun x => by simp [or_comm]]
        exact e
theorem ok_lfree {f : Addr} {fd : FuncData} (F : Fun K "_law_free" "_law_free" sLFree f fd) (kR : PySem.W.keepIn K (.ref f) = true) (bR : Binds K fd pLFree []) (gR : mg "_law_free" = some (.ref f)) : ∀ d, FnOk P w K mg base CX0 (d + 1) f fd pLFree (spLFreeR K d)
  | 0 => F.ok scLFree (fun vs H Q E h => h.elim) (fun cdv A outer s H vs Q E hr h => h.elim)
  | d + 1 => ok_lfree_step d F (ok_lfree F kR bR gR d) kR bR gR
end
end Lo
namespace Ru
open PySem PySem.Spec PyProof.Rows L2
/-! # rules of my own: x = f(.., ('a', ..), ..) leaves a token out -/
def PEG (X : Cx) (e : Expr) (t : TE) : Prop :=
  ∀ (pins : List (Addr × Obj)) (s : Shared) (σ : L2.St) (H : Hp) (Q : VK), Inv X pins σ H s → t σ H Q → wpAny (model X.prog X.w) X.A (eval e X.env) (fun v s' => 1 ≤ s'.toks ∧ EP X pins σ Q v s') X.xe s
def PAG (X : Cx) (es : List Expr) (t : TA) : Prop :=
  ∀ (pos : Pos) (pins : List (Addr × Obj)) (s : Shared) (σ : L2.St) (H : Hp) (Q : List V → Hp → Prop), Inv X pins σ H s → t σ H Q → wpAny (model X.prog X.w) X.A (spliced (backTo pos (starEach es X.env))) (fun us s' => 1 ≤ s'.toks ∧ AP X pins σ Q us s') X.xe s
section
variable {X : Cx} {e : Expr} {es : List Expr} {te : TE} {t : TA} {pos : Pos}
theorem peg_str {x : Str} {j : Nat} {p : Pos} : PEG X (.Constant (.str x) j p) (tC (.str x)) := fun _ s _ H _ I h => Calls.Constant_str ⟨by show 1 ≤ s.toks + 1; omega, .str x, H, I.tok _, ⟨_, rfl⟩, h⟩
theorem pag_here (ha : PEG X e te) (hr : PA X es t) (hs : starEach (e :: es) X.env = (false, eval e X.env) :: starEach es X.env := by rfl) : PAG X (e :: es) (tCons te t) := by
  intro pos pins s σ H Q I h
  rw [hs]
  show wpAny _ _ (spliced ((false, eval e X.env) :: backTo pos (starEach es X.env))) _ _ s
  refine Calls.spliced_cons (thn (ha pins s σ H _ I h) fun u s1 ⟨h0, x, H1, I1, r1, q1⟩ => ?_)
  refine wpAny_mono (PySem.wpAny_toks (hr.run pos pins s1 σ H1 _ I1 q1)) (fun us s2 q => ?_) fun _ _ z => z.2
  obtain ⟨hk, xs, H2, I2, r2, q2⟩ := q
  exact ⟨Nat.le_trans h0 hk, x :: xs, H2, I2, .cons r1 r2, q2⟩
theorem pag_later (ha : PE X e te) (hr : PAG X es t) (hs : starEach (e :: es) X.env = (false, eval e X.env) :: starEach es X.env := by rfl) : PAG X (e :: es) (tCons te t) := by
  intro pos pins s σ H Q I h
  rw [hs]
  show wpAny _ _ (spliced ((false, eval e X.env) :: backTo pos (starEach es X.env))) _ _ s
  refine Calls.spliced_cons (thn (ha.run pins s σ H _ I h) fun u s1 ⟨x, H1, I1, r1, q1⟩ => ?_)
  exact thn (hr pos pins s1 σ H1 _ I1 q1) fun us s2 ⟨h0, xs, H2, I2, r2, q2⟩ => ⟨h0, x :: xs, H2, I2, .cons r1 r2, q2⟩
theorem peg_tup {x1} (h : PAG X es t) : PEG X (.Tuple es x1 pos) (tTup t) := by
  intro pins s σ H Q I hq
  refine wpAny_Tuple_spliced (thn (h pos pins s σ H _ I hq) fun us s1 ⟨h0, xs, H1, I1, r, z, q⟩ => ⟨by rw [← r.length]; exact z, h0, ?_⟩)
  have hf : H1 s1.heap.objs.size = none := I1.hok.fresh (Nat.le_refl _)
  refine ⟨.ref s1.heap.objs.size, upd H1 s1.heap.objs.size (.tup xs), I1.laid (t' := s1.toks) (fun b u e => Heap.get?_push_of_some _ e) (Nat.le_refl _) ?_, rfl, q _ hf⟩
  exact ⟨z, us, r, ⟨_, Heap.get?_push_size _ rfl, rfl, _, rfl⟩⟩
end
section
variable {X : Cx} {CX : CXT} {k : Nat} {f : Addr} {fd : FuncData} {ps : List Str} {sp : Sp} {ds : List Value} {dvs : List V} {E : XK} {x : Str} {e : Expr} {es : List Expr} {t : TA} {p pos : Pos}
theorem peg_call (F : FnOk X.prog X.w X.K X.mg X.base CX k f fd ps sp) (hr : Room k X.A) (hg : Gl X x) (hm : X.mg x = some (.ref f)) (hk : PySem.W.keepIn X.K (.ref f) = true) (hb : Binds X.K fd ps ds) (hd : Vals dvs ds) (hx : Passes CX X E)
    (ha : PAG X (e :: es) t) (hdb : (x == ("__debug__" : Str)) = false := by decide) (he : starEach (e :: es) X.env = (false, eval e X.env) :: starEach es X.env := by rfl) (hpl : (backTo pos (starEach es X.env)).any (·.1) = false := by rfl) :
    PEG X (.Call (.Name x p) (e :: es) [] pos) (tCall sp dvs E t) := by
  intro pins s σ H Q I h
  refine wpAny_Call_Name_kw (ld_glob I hg hm ?_ hdb)
  refine PySem.W.callWith_K (h₀ := X.base) I.ok.mod.kin hk (thn (ha pos pins s σ H _ I h) fun us s1 ⟨h0, vs, H1, I1, r, q⟩ => ⟨I1.kIn, ?_⟩) he hpl
  exact wpAny_mono (PySem.wpAny_toks (run_fn F hr hb hd hx I1 r q)) (fun v s2 z => ⟨Nat.le_trans h0 z.1, z.2⟩) fun _ _ z => z.2
end
section
variable {X : Cx} {rest : List Stmt} {u : TS}
theorem pss_setG {i : Nat} {x : Str} {e : Expr} {te : TE} {pos pos' : Pos} (hN : X.N.Nodup) (hi : X.N[i]? = some x) (hx : Loc X.env.scope x) (he : PEG X e te) (hrest : L2.PSsT X rest u) (hs : swapsWith e (some (.Name x pos')) pos.line X.env = pure false := by rfl) (hf : X.fn x = true ∨ X.env.scope.names.lookup x = some .local := by first | exact .inl rfl | exact .inr rfl | assumption) :
    PSs X (.Assign [.Name x pos'] e pos :: rest) (tSeq (tAsg te (gName i)) u) := by
  refine ⟨fun pins s σ H D I h => ?_⟩
  refine wpAny_execs_cons (wpAny_Assign_Name (thn (he pins s σ H _ I h) fun v s1 ⟨h0, y, H1, I1, r1, q1⟩ => ?_) hs)
  refine wpAny_mono (PySem.wpAny_toks (store_ok (v := y) (u := v) (Q := fun _ s2 => Inv X pins (σ.set i (some y)) H1 s2) I1 hN hi hx r1 (fun _ I2 => I2) hf)) (fun _ s2 q => ?_) fun _ _ z => z.2
  exact hrest pins s2 _ H1 D (Nat.le_trans h0 q.1) q.2 q1
end
section
variable {X : Cx}
def PTT (X : Cx) (e : Expr) (t : TT) : Prop :=
  ∀ (pins : List (Addr × Obj)) (s : Shared) (σ : L2.St) (H : Hp) (Q : Bool → Hp → Prop), 1 ≤ s.toks → Inv X pins σ H s → t σ H Q → wpAny (model X.prog X.w) X.A (isTrue e X.env (eval e X.env)) (TP X pins σ Q) X.xe s
def PWT (X : Cx) (e : Expr) (t : TT) : Prop :=
  ∀ (whole : Sem Value) (pins : List (Addr × Obj)) (s : Shared) (σ : L2.St) (H : Hp) (Q : Bool → Hp → Prop), 1 ≤ s.toks → Inv X pins σ H s → t σ H Q → wpAny (model X.prog X.w) X.A (isTrue e X.env whole) (TP X pins σ Q) X.xe s
theorem PWT.pt {e : Expr} {t : TT} (h : PWT X e t) : PTT X e t := h _
variable {a b : Expr} {rest : List Expr} {ta tb : TE} {tA tB : TT} {pos : Pos}
theorem ptT_cmpR {op : CmpOp} {r : R2} (ho : OpR X (compareOp op) r) (ha : PET X a ta) (hb : PE X b tb) (hm : behindInMarks op b = false) : PTT X (.Compare a [op] [b] pos) (tTest (tOp r ta tb)) := by
  intro pins s σ H Q h0 I h
  refine wpAny_isTrue_Compare1 (thn (ha pins s σ H _ h0 I h) fun v s1 ⟨x, H1, I1, r1, q1⟩ => thn (hb.run pins s1 σ H1 _ I1 q1) fun u s2 ⟨y, H2, I2, r2, q2⟩ =>
    thn (ho pins s2 σ H2 x y v u _ I2 r1 r2 q2) fun c s3 ⟨z, H3, I3, r3, k, e, q3⟩ => ?_) hm
  subst e
  cases r3
  exact wpAny_truthy_bool ⟨H3, I3, q3⟩
theorem pwT_or1 (ha : PTT X a tA) : PWT X (.BoolOp .Or [a] pos) tA := by
  intro wh pins s σ H Q h0 I h
  refine isTrue_or (thn (ha pins s σ H Q h0 I h) fun c s1 e => ?_)
  cases c with
  | false => exact isTrue_or_nil e
  | true => exact e
theorem pwT_or (ha : PT X a tA) (hb : PWT X (.BoolOp .Or (b :: rest) pos) tB) : PWT X (.BoolOp .Or (a :: b :: rest) pos) (tOr tA tB) := by
  intro wh pins s σ H Q h0 I h
  refine isTrue_or (wpAny_mono (PySem.wpAny_toks (ha.run pins s σ H _ I h)) (fun c s1 z => ?_) fun _ _ z => z.2)
  obtain ⟨hk, H1, I1, q1⟩ := z
  cases c with
  | true => exact ⟨H1, I1, q1⟩
  | false => exact hb wh pins s1 σ H1 Q (Nat.le_trans h0 hk) I1 q1
theorem pst_ifT {c : Expr} {p q : List Stmt} {tc : TT} {t u : TS} (hc : PTT X c tc) (ha : PSsT X p t) (hb : PSsT X q u) : PST X (.If c p q pos) (tIfS tc t u) := by
  intro pins s σ H D h0 I h
  refine wpAny_If (wpAny_mono (PySem.wpAny_toks (hc pins s σ H _ h0 I h)) (fun d s1 q => ?_) fun _ _ z => z.2)
  obtain ⟨hk, H1, I1, q1⟩ := q
  cases d with
  | true => exact ha pins s1 σ H1 D (Nat.le_trans h0 hk) I1 q1
  | false => exact hb pins s1 σ H1 D (Nat.le_trans h0 hk) I1 q1
theorem pst_set {i : Nat} {x : Str} {e : Expr} {te : TE} {pos pos' : Pos} (hN : X.N.Nodup) (hi : X.N[i]? = some x) (hx : Loc X.env.scope x) (he : PET X e te) (hs : swapsWith e (some (.Name x pos')) pos.line X.env = pure false := by rfl) (hf : X.fn x = true ∨ X.env.scope.names.lookup x = some .local := by first | exact .inl rfl | exact .inr rfl | assumption) :
    PST X (.Assign [.Name x pos'] e pos) (tAsg te (gName i)) := by
  intro pins s σ H D h0 I h
  refine wpAny_Assign_Name (thn (he pins s σ H _ h0 I h) fun v s1 ⟨y, H1, I1, r1, q1⟩ => ?_) hs
  exact store_ok I1 hN hi hx r1 (fun s2 I2 => ⟨_, H1, I2, q1⟩) hf
theorem psst_nil : PSsT X [] tNext := PSsT.of pss_nil
theorem psst_one {st : Stmt} {t : TS} (h : PST X st t) : PSsT X [st] t := psst_cons h psst_nil
end
section
variable {X : Cx} {CX : CXT} {k : Nat} {f : Addr} {fd : FuncData} {ps : List Str} {sp : Sp} {ds : List Value} {dvs : List V} {E : XK} {x : Str} {e : Expr} {es : List Expr} {t : TA} {p pos : Pos}
theorem pet_call (F : FnOk X.prog X.w X.K X.mg X.base CX k f fd ps sp) (hr : Room k X.A) (hg : Gl X x) (hm : X.mg x = some (.ref f)) (hk : PySem.W.keepIn X.K (.ref f) = true) (hb : Binds X.K fd ps ds) (hd : Vals dvs ds) (hx : Passes CX X E)
    (ha : PAT X (e :: es) t) (hdb : (x == ("__debug__" : Str)) = false := by decide) (he : starEach (e :: es) X.env = (false, eval e X.env) :: starEach es X.env := by rfl) (hpl : (backTo pos (starEach es X.env)).any (·.1) = false := by rfl) :
    PET X (.Call (.Name x p) (e :: es) [] pos) (tCall sp dvs E t) := by
  intro pins s σ H Q h0 I h
  refine wpAny_Call_Name_kw (ld_glob I hg hm ?_ hdb)
  refine PySem.W.callWith_K (h₀ := X.base) I.ok.mod.kin hk (thn (ha pos pins s σ H _ h0 I h) fun us s1 ⟨vs, H1, I1, r, q⟩ => ⟨I1.kIn, ?_⟩) he hpl
  exact run_fn F hr hb hd hx I1 r q
theorem passF {X : Cx} : Passes (L2.CX X.prog X.w) X (fun _ _ _ => False) := fun _ _ _ _ _ _ _ h => by
  obtain ⟨_, _, _, _, _, _, _, _, _, _, _, _, z⟩ := h
  exact z.elim
end
end Ru
namespace Lo
open PySem L2 Fx
theorem repl_mk {y z : Str} {a b l : Cs} (hy : 1 ≤ y.length) (ey : cs y = a) (ez : cs z = b) : Txt.replace (mkS l) y z = mkS (PySem.StrLaws.replL a b l) := by
  refine cs_inj ?_
  rw [cs_mkS, ← ey, ← ez]
  have h := PySem.StrLaws.replace_list (x := mkS l) (y := y) (z := z) hy
  have e : (mkS l).cps.toList = l := cs_mkS l
  rw [e] at h
  exact h
/-! ### formulas as data -/
mutual
def fmD : Fm → PyData
  | .cmp op n1 k1 n2 k2 => .tuple [.str ("compare" : Str), .str (mkS op), .tuple [.str (mkS n1), .int k1], .tuple [.str (mkS n2), .int k2]]
  | .neg f => .tuple [.str ("not" : Str), fmD f]
  | .row w fs => .tuple [.str (mkS w), .tuple (fmDs fs)]
  | .qu w n f => .tuple [.str (mkS w), .str (mkS n), fmD f]
def fmDs : List Fm → List PyData
  | [] => []
  | f :: fs => fmD f :: fmDs fs
end
mutual
theorem dp_fm {K : PySem.W.Frag} {H : Hp} : ∀ (f : Fm) (v : V), FAt H f v → Dp K H v (fmD f)
  | .cmp op n1 k1 n2 k2, v, h => by
    obtain ⟨p, a, b, rfl, h1, h2, h3⟩ := h
    rw [fmD]
    exact .tup (SqT.of h1) (.cons (.str _) (.cons (.str _) (.cons (.tup (SqT.of h2) (.cons (.str _) (.cons (.int _) .nil))) (.cons (.tup (SqT.of h3) (.cons (.str _) (.cons (.int _) .nil))) .nil))))
  | .neg f, v, h => by
    obtain ⟨p, u, rfl, h1, h2⟩ := h
    rw [fmD]
    exact .tup (SqT.of h1) (.cons (.str _) (.cons (dp_fm f u h2) .nil))
  | .row w fs, v, h => by
    obtain ⟨p, q, us, rfl, h1, h2, h3⟩ := h
    rw [fmD]
    exact .tup (SqT.of h1) (.cons (.str _) (.cons (.tup (SqT.of h2) (dp_fms fs us h3)) .nil))
  | .qu w n f, v, h => by
    obtain ⟨p, u, rfl, h1, h2⟩ := h
    rw [fmD]
    exact .tup (SqT.of h1) (.cons (.str _) (.cons (.str _) (.cons (dp_fm f u h2) .nil)))
theorem dp_fms {K : PySem.W.Frag} {H : Hp} : ∀ (fs : List Fm) (us : List V), FAts H fs us → DpAll K H us (fmDs fs)
  | [], us, h => by
    cases h
    rw [fmDs]
    exact .nil
  | f :: fs, us, h => by
    obtain ⟨u, us', rfl, h1, h2⟩ := h
    rw [fmDs]
    exact .cons (dp_fm f u h1) (dp_fms fs us' h2)
end
mutual
theorem eqv_fm : ∀ f : Fm, PyData.eqv (fmD f) (fmD f) = true
  | .cmp op n1 k1 n2 k2 => by simp [fmD, PyData.eqv, PyData.eqvAll]
  | .neg f => by simp [fmD, PyData.eqv, PyData.eqvAll, eqv_fm f]
  | .row w fs => by simp [fmD, PyData.eqv, PyData.eqvAll, eqv_fms fs]
  | .qu w n f => by simp [fmD, PyData.eqv, PyData.eqvAll, eqv_fm f]
theorem eqv_fms : ∀ fs : List Fm, PyData.eqvAll (fmDs fs) (fmDs fs) = true
  | [] => by simp [fmDs, PyData.eqvAll]
  | f :: fs => by simp [fmDs, PyData.eqvAll, eqv_fm f, eqv_fms fs]
end
theorem op_ascii {o : Cs} (h : o ∈ ops) : ∀ c ∈ o, c < 128 := ops_all (P := fun o => ∀ c ∈ o, c < 128) (by decide) o h
theorem kw_ascii {w : Cs} (h : w = wAll ∨ w = wSome ∨ w = Fx.wNot ∨ w = wAnd ∨ w = wOr) : ∀ c ∈ w, c < 128 := by
  rcases h with rfl | rfl | rfl | rfl | rfl <;> decide
theorem atom_ascii {n : Cs} {k : Int} (a : atomOk n k) : ∀ c ∈ n, c < 128 := by
  rcases a.1 with rfl | h
  · decide
  · exact name_ascii h
theorem cmp_ok : PyData.strOk ("compare" : Str) = true := by decide +kernel
theorem not_ok : PyData.strOk ("not" : Str) = true := by decide +kernel
mutual
theorem lay_fm : ∀ (f : Fm) (bd : List Cs), wf bd f → (fmD f).canLay0 = true
  | .cmp op n1 k1 n2 k2, bd, h => by
    simp [fmD, PyData.canLay0, PyData.canLayAll0, cmp_ok, strOk_mk (op_ascii h.1), strOk_mk (atom_ascii h.2.1), strOk_mk (atom_ascii h.2.2)]
  | .neg f, bd, h => by simp [fmD, PyData.canLay0, PyData.canLayAll0, not_ok, lay_fm f bd h]
  | .row w fs, bd, h => by
    simp [fmD, PyData.canLay0, PyData.canLayAll0, strOk_mk (kw_ascii (h.1.elim (fun z => .inr (.inr (.inr (.inl z)))) fun z => .inr (.inr (.inr (.inr z))))), lay_fms fs bd h.2.2]
  | .qu w n f, bd, h => by
    simp [fmD, PyData.canLay0, PyData.canLayAll0, strOk_mk (kw_ascii (h.1.elim .inl fun z => .inr (.inl z))), strOk_mk (name_ascii h.2.1), lay_fm f _ h.2.2.2]
theorem lay_fms : ∀ (fs : List Fm) (bd : List Cs), wfs bd fs → PyData.canLayAll0 (fmDs fs) = true
  | [], bd, _ => by simp [fmDs, PyData.canLayAll0]
  | f :: fs, bd, h => by simp [fmDs, PyData.canLayAll0, lay_fm f bd h.1, lay_fms fs bd h.2]
end
mutual
theorem deep_fm : ∀ (f : Fm) (d : Nat), sm d f → (fmD f).depth ≤ 2 * d + 2
  | .cmp op n1 k1 n2 k2, d, h => by
    simp [fmD, PyData.depth, PyData.depthAll]
  | .neg f, 0, h => by simp [sm] at h
  | .row _ fs, 0, h => by simp [sm] at h
  | .qu _ _ f, 0, h => by simp [sm] at h
  | .neg f, d + 1, h => by
    rw [sm] at h
    have := deep_fm f d h
    simp [fmD, PyData.depth, PyData.depthAll]
    omega
  | .row _ fs, d + 1, h => by
    rw [sm] at h
    have := deep_fms fs d h.2
    simp [fmD, PyData.depth, PyData.depthAll]
    omega
  | .qu _ _ f, d + 1, h => by
    rw [sm] at h
    have := deep_fm f d h
    simp [fmD, PyData.depth, PyData.depthAll]
    omega
theorem deep_fms : ∀ (fs : List Fm) (d : Nat), sms d fs → PyData.depthAll (fmDs fs) ≤ 2 * d + 2
  | [], d, _ => by simp [fmDs, PyData.depthAll]
  | f :: fs, d, h => by
    have h1 := deep_fm f d (sms_cons.mp h).1
    have h2 := deep_fms fs d (sms_cons.mp h).2
    simp [fmDs, PyData.depthAll]
    omega
end
theorem shaped_fm {f : Fm} {bd : List Cs} (h : wf bd f) (s : sm 4 f) : SeqAt.shaped (fmD f) = true := by
  have := deep_fm f 4 s
  simp [SeqAt.shaped, lay_fm f bd h]
  omega
theorem eqv_strs : ∀ zs : List Str, PyData.eqvAll (zs.map PyData.str) (zs.map PyData.str) = true
  | [] => rfl
  | z :: zs => by simp [PyData.eqvAll, PyData.eqv, eqv_strs zs]
theorem sm_le : ∀ (k d : Nat) (f : Fm), sm d f → sm (d + k) f
  | 0, d, f, h => h
  | k + 1, d, f, h => sm_up f (d + k) (sm_le k d f h)
theorem sm_four {d : Nat} {f : Fm} (h : sm d f) (hd : d ≤ 4) : sm 4 f := by
  have := sm_le (4 - d) d f h
  rwa [show d + (4 - d) = 4 by omega] at this
mutual
theorem fr_ok : ∀ (f : Fm) (bd b2 : List Cs), wf bd f → ∀ n ∈ fr b2 f, nameOk n
  | .cmp _ n1 _ n2 _, bd, b2, h, n, hn => by
    rw [fr, List.mem_filter] at hn
    have hz : n ≠ w0 := fun z => by simp [fnName, z] at hn
    have hm := hn.1
    simp only [List.mem_cons, List.not_mem_nil, or_false] at hm
    rcases hm with rfl | rfl
    · exact h.2.1.1.resolve_left hz
    · exact h.2.2.1.resolve_left hz
  | .neg f, bd, b2, h, n, hn => by
    rw [fr] at hn
    exact fr_ok f bd b2 h n hn
  | .row _ fs, bd, b2, h, n, hn => by
    rw [fr] at hn
    exact frs_ok fs bd b2 h.2.2 n hn
  | .qu _ m f, bd, b2, h, n, hn => by
    rw [fr] at hn
    exact fr_ok f _ _ h.2.2.2 n hn
theorem frs_ok : ∀ (fs : List Fm) (bd b2 : List Cs), wfs bd fs → ∀ n ∈ Fx.frs b2 fs, nameOk n
  | [], bd, b2, _, n, hn => by
    rw [Fx.frs] at hn
    exact absurd hn List.not_mem_nil
  | f :: fs, bd, b2, h, n, hn => by
    rw [Fx.frs] at hn
    exact (List.mem_append.mp hn).elim (fr_ok f bd b2 h.1 n) (frs_ok fs bd b2 h.2 n)
end
/-! ### slices of texts -/
theorem cut_take (l : Cs) {n : Nat} (h : n ≤ l.length) : cutS (mkS l) none (some (n : Nat)) = mkS (l.take n) := by
  refine cs_inj ?_
  rw [cs_mkS]
  have e1 : HT.sIx (mkS l).length (mkS l).length (some ((n : Nat) : Int)) = min n (mkS l).length := HT.sIx_nat _ _ n
  have e : (mkS l).cps.toList = l := cs_mkS l
  show ((((mkS l).cps.toList.drop (HT.sIx (mkS l).length 0 none)).take _)) = _
  rw [e1, HT.sIx_none, List.drop_zero, Nat.sub_zero, mkS_len, Nat.min_eq_left h, e]
theorem cut_drop (l : Cs) {n : Nat} (h : n ≤ l.length) : cutS (mkS l) (some (n : Nat)) none = mkS (l.drop n) := by
  refine cs_inj ?_
  rw [cs_mkS]
  have e1 : HT.sIx (mkS l).length 0 (some ((n : Nat) : Int)) = min n (mkS l).length := HT.sIx_nat _ _ n
  have e : (mkS l).cps.toList = l := cs_mkS l
  show ((((mkS l).cps.toList.drop (HT.sIx (mkS l).length 0 (some ((n : Nat) : Int)))).take _)) = _
  rw [e1, HT.sIx_none, mkS_len, Nat.min_eq_left h, e]
  rw [List.take_of_length_le]
  rw [List.length_drop]
  exact Nat.le_refl _
theorem sIx_last (n d : Nat) : HT.sIx n d (some (-1)) = n - 1 := by
  show (if (-1 : Int) < 0 then ((-1 : Int) + (n : Int)).toNat else min (-1 : Int).toNat n) = _
  rw [if_pos (by decide)]
  omega
theorem cut_but (l : Cs) : cutS (mkS l) none (some (-1)) = mkS l.dropLast := by
  refine cs_inj ?_
  rw [cs_mkS]
  have e : (mkS l).cps.toList = l := cs_mkS l
  show ((((mkS l).cps.toList.drop (HT.sIx (mkS l).length 0 none)).take _)) = _
  rw [sIx_last, HT.sIx_none, List.drop_zero, Nat.sub_zero, mkS_len, e, List.dropLast_eq_take]
theorem cut_last (l : Cs) : decide (V.str (cutS (mkS l) (some (-1)) none) = V.str ("!" : Str)) = decide (l.getLast? = some 33) := by
  have ex : ("!" : Str) = mkS [33] := by decide +kernel
  have e : (mkS l).cps.toList = l := cs_mkS l
  have ec : cutS (mkS l) (some (-1)) none = mkS (l.drop (l.length - 1)) := by
    refine cs_inj ?_
    rw [cs_mkS]
    show ((((mkS l).cps.toList.drop (HT.sIx (mkS l).length 0 (some (-1)))).take _)) = _
    rw [sIx_last, HT.sIx_none, mkS_len, e, List.take_of_length_le]
    rw [List.length_drop]
    exact Nat.le_refl _
  rw [ec, ex, dec_mk]
  refine decide_eq_decide.mpr ?_
  rcases List.eq_nil_or_concat l with rfl | ⟨l', x, rfl⟩
  · simp
  · simp
end Lo
namespace Lo
open PySem L2 Fx
section
variable {P : Program} {w : World} {K : PySem.W.Frag} {mg : Str → Option Value} {base : Heap}
def nmT : List (List Cs) := [[[105], [106]], [[110], [97, 98, 99, 100, 101, 102, 103, 104]], [[120], [97, 108, 108, 115]]]
theorem nmT_ok : ∀ ns ∈ nmT, ns ≠ [] ∧ ns.length = 2 ∧ ∀ n ∈ ns, n ≠ [] ∧ (∀ c ∈ n, isL c = true) ∧ n.length ≤ 8 ∧ n ∉ resv := by decide +kernel
def fresh3 : List Cs := [[107], [117], [119]]
theorem fresh_ok : ∀ n ∈ fresh3, n ≠ [] ∧ (∀ c ∈ n, isL c = true) ∧ n.length ≤ 8 ∧ n ∉ resv := by decide +kernel
theorem addAll_len : ∀ (l a : List Cs), (addAll a l).length ≤ a.length + l.length
  | [], a => Nat.le_refl _
  | x :: l, a => by
    have h1 := addAll_len l (add1 a x)
    have h2 := add1_len a x
    show (addAll (add1 a x) l).length ≤ _
    rw [List.length_cons]
    omega
theorem firsts_len (l : List Cs) : (firsts l).length ≤ l.length := by
  have := addAll_len l []
  rw [List.length_nil, Nat.zero_add] at this
  exact this
theorem atI_last (l : Cs) (x : Nat) : atI (l ++ [x]) (-1) = some x := by
  unfold atI ixN
  simp only [List.length_append, List.length_singleton]
  rw [if_neg (by decide), if_pos (by omega), show ((-1 : Int) + ((l.length + 1 : Nat) : Int)).toNat = l.length by omega]
  simp
abbrev ALN : Str := ("abcdefghijklmnopqrstuvwxyz0123456789" : Str)
theorem aln_in : ∀ c : Nat, c < 128 → alnum c = true → ALN.cps.contains c = true := by decide +kernel
theorem aln_lt {c : Nat} (h : alnum c = true) : c < 128 := by
  unfold alnum at h
  rcases Bool.or_eq_true_iff.mp h with h | h
  · have := isL_iff.mp h
    omega
  · have := isD_iff.mp h
    omega
theorem aln_all : ∀ c ∈ ALN.cps.toList, alnum c = true := by decide +kernel
theorem aln_out {x : Nat} (h : alnum x = false) : ALN.cps.contains x = false := by
  refine Bool.eq_false_iff.mpr fun z => ?_
  have hm : x ∈ ALN.cps.toList := by simpa using z
  rw [aln_all x hm] at h
  cases h
theorem rdO {l : Cs} {g : Fm} {H' : Hp} {Qc : VK} (hok : readF l = .ok g) (hq : ∀ H'' v', Same H' H'' → FAt H'' g v' → Qc v' H'') : ∀ f, readF (cs (mkS l)) = .ok f → ∀ H'' v', Same H' H'' → FAt H'' f v' → Qc v' H'' := fun f ef H'' v' s'' hf => by
  rw [cs_mkS, hok] at ef
  cases ef
  exact hq H'' v' s'' hf
theorem rdE {l : Cs} {g : Fm} (hok : readF l = .ok g) {c : Nat} (ec : readF (cs (mkS l)) = .error c) : False := by
  rw [cs_mkS, hok] at ec
  cases ec
def spTreeA (K : PySem.W.Frag) : Sp := fun vs H Q E => ∃ d, d ≤ 4 ∧ spTree K d vs H Q E
theorem ok_ltreeA {f : Addr} {fd : FuncData} (G : ∀ d, FnOk P w K mg base CX0 (d + 3) f fd pLTree (spTreeR K d)) : FnOk P w K mg base CX0 8 f fd pLTree (spTreeA K) :=
  ⟨fun vs H Q E ⟨d, hd, h⟩ => (G (d + 1)).len vs H Q E h, fun A outer s H args us vs Q E hr e0 hb r ⟨d, hd, h⟩ => (G (d + 1)).run A outer s H args us vs Q E (hr.mono (by omega)) e0 hb r h⟩
def spLaw (K : PySem.W.Frag) : Sp := fun vs H Q _ => ∃ (s : Addr), vs = [.ref s] ∧ Scr K H s ∧ ∀ H', Q (.bl true) H'
abbrev nLaw : List Str := ["script", "names", "turn", "tree", "text", "due", "free", "at", "name", "wide", "sign", "column", "last"]
theorem scLaw : FnScope nLaw ["script"] (defScope sLaw) := ⟨rfl, rfl, rfl, by decide +kernel, rfl, by decide +kernel, by decide +kernel⟩
theorem ok_law {CB fD fT fW fX fR fF fN fQ fK f : Addr} {fd fdD fdT fdW fdX fdR fdF fdN fdQ fdK : FuncData} (F : Fun K "law" "law" sLaw f fd) (T : Blt mg)
    (GD : FnOk P w K mg base CX0 1 fD fdD ["script", "at", "many"] (spDraw K)) (kD : PySem.W.keepIn K (.ref fD) = true) (bD : Binds K fdD ["script", "at", "many"] []) (gD : mg "_law_draw" = some (.ref fD))
    (GT : FnOk P w K mg base CX0 8 fT fdT pLTree (spTreeA K)) (kT : PySem.W.keepIn K (.ref fT) = true) (bT : Binds K fdT pLTree []) (gT : mg "_law_tree" = some (.ref fT))
    (GW : FnOk P w K mg base CX0 3 fW fdW ["formula"] spWriteF) (kW : PySem.W.keepIn K (.ref fW) = true) (bW : Binds K fdW ["formula"] []) (gW : mg "write_formula" = some (.ref fW))
    (GX : FnOk P w K mg base CX0 6 fX fdX pLText (spLText K 4)) (kX : PySem.W.keepIn K (.ref fX) = true) (bX : Binds K fdX pLText []) (gX : mg "_law_text" = some (.ref fX))
    (GR : FnOk P w K mg base (L2.CX P w) 9 fR fdR ["text"] (spReadF CB)) (kR : PySem.W.keepIn K (.ref fR) = true) (bR : Binds K fdR ["text"] []) (gR : mg "read_formula" = some (.ref fR))
    (GF : FnOk P w K mg base CX0 6 fF fdF pLFree (spLFree K 4)) (kF : PySem.W.keepIn K (.ref fF) = true) (bF : Binds K fdF pLFree []) (gF : mg "_law_free" = some (.ref fF))
    (GN : FnOk P w K mg base CX0 1 fN fdN ["formula"] spFree) (kN : PySem.W.keepIn K (.ref fN) = true) (bN : Binds K fdN ["formula"] []) (gN : mg "free_names" = some (.ref fN))
    (GQ : FnOk P w K mg base CX0 10 fQ fdQ ["text", "column"] spRefused) (kQ : PySem.W.keepIn K (.ref fQ) = true) (bQ : Binds K fdQ ["text", "column"] []) (gQ : mg "_law_refused" = some (.ref fQ))
    (GK : FnOk P w K mg base CX0 1 fK fdK ["turn"] spKnown) (kK : PySem.W.keepIn K (.ref fK) = true) (bK : Binds K fdK ["turn"] []) (gK : mg "_law_known" = some (.ref fK)) :
    FnOk P w K mg base CX0 11 f fd ["script"] (spLaw K) := by
  refine F.ok scLaw (fun vs H Q E h => ?_) (fun cdv A outer s0 H vs Q E hr h => ?_)
  · obtain ⟨s, rfl, _⟩ := h
    rfl
  · obtain ⟨s, rfl, hS, q⟩ := h
    have nd := scLaw.nd
    have r1 := hr.mono (show 1 ≤ 10 by decide)
    have r3 := hr.mono (show 3 ≤ 10 by decide)
    have r6 := hr.mono (show 6 ≤ 10 by decide)
    have r8 := hr.mono (show 8 ≤ 10 by decide)
    have r9 := hr.mono (show 9 ≤ 10 by decide)
    refine ⟨_, C8.pss_cut (ps_set (i := 1) nd rfl (.inl rfl) (pe_ix ix_tup (pe_tup (pa_cons (pe_tup (pa_cons pe_str (pa_cons pe_str pa_nil))) (pa_cons (pe_tup (pa_cons pe_str (pa_cons pe_str pa_nil))) (pa_cons (pe_tup (pa_cons pe_str (pa_cons pe_str pa_nil))) pa_nil)))) (pe_call GD r1 (by rfl) gD kD bD .nil pass0 (pa_cons (pv 0) (pa_cons pe_int (pa_cons pe_int pa_nil)))) (fun _ _ => rfl)))
      (pss_cons (ps_for PassesOwn.never rfl (pi_range1 (by rfl) T.range (pa_cons pe_int pa_nil)) (pg_name (i := 2) nd rfl (.inl rfl))
        (Ru.pss_setG (i := 3) nd rfl (.inl rfl) (Ru.peg_call GT r8 (by rfl) gT kT bT .nil pass0 (Ru.pag_later (pv 0) (Ru.pag_later (pe_op op_add pe_int (pe_op op_mul pe_int (pv 2))) (Ru.pag_later (pv 1) (Ru.pag_here (Ru.peg_tup (Ru.pag_here Ru.peg_str (pa_cons pe_str (pa_cons pe_str pa_nil)))) (pa_cons (pe_op op_add pe_int (pe_call GD r1 (by rfl) gD kD bD .nil pass0 (pa_cons (pv 0) (pa_cons (pe_op op_add pe_int (pv 2)) (pa_cons pe_int pa_nil))))) pa_nil))))))
        (psst_cons (PST.of (ps_par (i := 4) (j := 5) rfl nd rfl rfl (by decide) rfl rfl (pa_cons (pe_call GW r3 (by rfl) gW kW bW .nil pass0 (pa_cons (pv 3) pa_nil)) (pa_cons (pe_call GX r6 (by rfl) gX kX bX .nil pass0 (pa_cons (pv 3) (pa_cons pe_bl pa_nil))) pa_nil)) (by rfl)))
        (psst_cons (PST.of (ps_if (PW.pt (pw_or (pt_cmpR op_ne (pv 4) (pv 5) (nomark _)) (pw_or1 (pt_cmpR (op_neD hr.units) (pe_call GR r9 (by rfl) gR kR bR .nil Ru.passF (pa_cons (pv 4) pa_nil)) (pv 3) (nomark _))))) (pss_one (ps_ret pe_bl)) pss_nil))
        (psst_cons (PST.of (ps_set (i := 6) nd rfl (.inr rfl) (pe_call GF r6 (by rfl) gF kF bF .nil pass0 (pa_cons (pv 3) (pa_cons (pe_lst pa_nil) pa_nil)))))
        (psst_cons (PST.of (ps_if (pt_cmpR (op_neD hr.units) (pe_call GN r1 (by rfl) gN kN bN .nil pass0 (pa_cons (pv 3) pa_nil)) (pe_callTy call_tuple_of (by rfl) T.tuple PyProof.Rows.boot_tuple (pa_cons
            (pe_lc (own := [("at", 7), ("name", 8)]) (g := gTup K 2 (gCons (gName 7) (gCons (gName 8) gNil))) rfl nd (pi_enum (by rfl) T.enum (pa_cons (pv 6) pa_nil)) (blkOk_by (N := nLaw) (sc := defScope sLaw) (by decide +kernel))
              (fun _ _ _ _ _ => pg_tup rfl (pgs_cons (pg_name (i := 7) nd rfl (.inl rfl)) (pgs_cons (pg_name (i := 8) nd rfl (.inl rfl)) pgs_nil))) (fun _ _ _ _ _ => pts_one (pt_cmpR (r := rIn K true) op_notIn_seq (pv 8) (pe_slice (r := rSlL K) sl_list (pv 6) po_none (po_some (pv 7))) (by rfl))) (fun _ _ _ _ _ => pv 8)) pa_nil)) (nomark _)) (pss_one (ps_ret pe_bl)) pss_nil))
        (psst_cons (Ru.pst_set (i := 9) nd rfl (.inl rfl) (CwR.pet_replT (CwR.pet_replT (CwR.pet_replC (pv 4)))))
        (psst_cons (Ru.pst_ifT (Ru.PWT.pt (Ru.pwT_or (pt_cmpR (op_neD hr.units) (pe_call GR r9 (by rfl) gR kR bR .nil Ru.passF (pa_cons (pe_op op_add_str (pe_op op_add_str pe_str (pv 9)) pe_str) pa_nil)) (pv 3) (nomark _))
            (Ru.pwT_or1 (Ru.ptT_cmpR (op_neD hr.units) (Ru.pet_call GR r9 (by rfl) gR kR bR .nil Ru.passF (pat_cons (CwR.pet_replT (CwR.pet_replC (pv 4))) pat_nil)) (pv 3) (nomark _))))) (PSsT.of (pss_one (ps_ret pe_bl))) (PSsT.of pss_nil))
        (PSsT.of (pss_cons (ps_set (i := 7) nd rfl (.inl rfl) (pe_call GD r1 (by rfl) gD kD bD .nil pass0 (pa_cons (pv 0) (pa_cons (pe_op op_add pe_int (pv 2)) (pa_cons (pe_op op_add (pe_callB call_len_str (by rfl) T.len PySem.boot_len (pa_cons (pv 4) pa_nil)) pe_int) pa_nil)))))
        (pss_cons (ps_set (i := 10) nd rfl (.inl rfl) (pe_ix ix_tup (pe_tup (pa_cons pe_str (pa_cons pe_str (pa_cons pe_str (pa_cons pe_str (pa_cons pe_str (pa_cons pe_str (pa_cons pe_str pa_nil)))))))) (pe_call GD r1 (by rfl) gD kD bD .nil pass0 (pa_cons (pv 0) (pa_cons (pe_op op_add pe_int (pv 2)) (pa_cons pe_int pa_nil)))) (fun _ _ => rfl)))
        (C8.pss_cut (ps_set (i := 11) nd rfl (.inl rfl) (pe_ifExp (pt_cmpR op_eq (pe_slice sl_str (pe_slice sl_str (pv 4) po_none (po_some (pv 7))) (po_some (pe_un un_neg pe_int)) po_none) pe_str (nomark _)) (pv 7) (pe_op op_add (pv 7) pe_int)))
        (pss_cons (ps_if (PW.pt (pw_or (pt_not (pt_val (pe_call GQ hr (by rfl) gQ kQ bQ .nil pass0 (pa_cons (pe_op op_add_str (pe_op op_add_str (pe_op op_add_str (pe_slice sl_str (pv 4) po_none (po_some (pv 7))) (pv 10)) pe_str) (pe_slice sl_str (pv 4) (po_some (pv 7)) po_none)) (pa_cons (pv 11) pa_nil)))))
            (pw_or1 (pt_not (pt_val (pe_call GQ hr (by rfl) gQ kQ bQ .nil pass0 (pa_cons (pe_op op_add_str (pv 4) pe_str) (pa_cons (pe_op op_add (pe_callB call_len_str (by rfl) T.len PySem.boot_len (pa_cons (pv 4) pa_nil)) pe_int) pa_nil)))))))) (pss_one (ps_ret pe_bl)) pss_nil)
        (C8.pss_cut (ps_set (i := 12) nd rfl (.inl rfl) (pe_ifExp (pt_cmpR op_eq (pe_ix ix_str (pv 4) (pe_un un_neg pe_int) (fun _ _ => rfl)) pe_str (nomark _)) (pe_slice sl_str (pv 4) po_none (po_some (pe_un un_neg pe_int))) (pe_bm PySem.F.plainAttrs_str PySem.F.slot_str_rstrip PySem.F.type_str_rstrip mt_rstripChars (pv 4) (pa_cons pe_str pa_nil))))
        (pss_cons (ps_if (pt_not (pt_val (pe_call GQ hr (by rfl) gQ kQ bQ .nil pass0 (pa_cons (pv 12) (pa_cons (pe_op op_add (pe_callB call_len_str (by rfl) T.len PySem.boot_len (pa_cons (pv 12) pa_nil)) pe_int) pa_nil))))) (pss_one (ps_ret pe_bl)) pss_nil)
        (pss_cons (ps_asg (pe_call GK r1 (by rfl) gK kK bK .nil pass0 (pa_cons (pe_call GD r1 (by rfl) gD kD bD .nil pass0 (pa_cons (pv 0) (pa_cons (pe_op op_add pe_int (pv 2)) (pa_cons pe_int pa_nil)))) pa_nil)) (pg_tup rfl (pgs_cons (pg_name (i := 4) nd rfl (.inl rfl)) (pgs_cons (pg_name (i := 11) nd rfl (.inl rfl)) pgs_nil))))
        (pss_one (ps_if (pt_not (pt_val (pe_call GQ hr (by rfl) gQ kQ bQ .nil pass0 (pa_cons (pv 4) (pa_cons (pv 11) pa_nil))))) (pss_one (ps_ret pe_bl)) pss_nil))))))))))))))))))
      (pss_one (ps_ret pe_bl))), ?_⟩
    have sz1 : 1 ≤ sizeLine := by decide
    have sz2 : 2 ≤ sizeLine := by decide
    have sz3 : 3 ≤ sizeLine := by decide
    have sz7 : 7 ≤ sizeLine := by decide
    refine ⟨fun σ' H' => ∃ (np : Addr) (ns : List Cs), σ' = [some (.ref s), some (.ref np), none, none, none, none, none, none, none, none, none, none, none] ∧ Same H H' ∧ NmAt K H' np ns ∧ ns ∈ nmT, ?_, ?_⟩
    · refine ⟨sz2, fun t1 m1 => ⟨sz2, fun t2 m2 => ⟨sz2, fun t3 m3 => ⟨sz3, fun t mt => ?_⟩⟩⟩⟩
      have s1 := same_upd (o := HO.tup [V.str ("i" : Str), .str ("j" : Str)]) m1
      have s2 := same_upd (o := HO.tup [V.str ("n" : Str), .str ("abcdefgh" : Str)]) m2
      have s3 := same_upd (o := HO.tup [V.str ("x" : Str), .str ("alls" : Str)]) m3
      have s4 := same_upd (o := HO.tup [V.ref t1, .ref t2, .ref t3]) mt
      have h1 := s4 _ _ (s3 _ _ (s2 _ _ (upd_same (H := H) (a := t1) (o := HO.tup [V.str ("i" : Str), .str ("j" : Str)]))))
      have h2 := s4 _ _ (s3 _ _ (upd_same (H := upd H t1 (.tup [V.str ("i" : Str), .str ("j" : Str)])) (a := t2) (o := HO.tup [V.str ("n" : Str), .str ("abcdefgh" : Str)])))
      have h3 := s4 _ _ (upd_same (H := upd (upd H t1 (.tup [V.str ("i" : Str), .str ("j" : Str)])) t2 (.tup [V.str ("n" : Str), .str ("abcdefgh" : Str)])) (a := t3) (o := HO.tup [V.str ("x" : Str), .str ("alls" : Str)]))
      have h4 := upd_same (H := upd (upd (upd H t1 (.tup [V.str ("i" : Str), .str ("j" : Str)])) t2 (.tup [V.str ("n" : Str), .str ("abcdefgh" : Str)])) t3 (.tup [V.str ("x" : Str), .str ("alls" : Str)])) (a := t) (o := HO.tup [V.ref t1, .ref t2, .ref t3])
      have sA := ((s1.trans s2).trans s3).trans s4
      generalize upd (upd (upd (upd H t1 (.tup [V.str ("i" : Str), .str ("j" : Str)])) t2 (.tup [V.str ("n" : Str), .str ("abcdefgh" : Str)])) t3 (.tup [V.str ("x" : Str), .str ("alls" : Str)])) t (.tup [V.ref t1, .ref t2, .ref t3]) = H1 at h1 h2 h3 h4 sA ⊢
      refine ⟨_, rfl, s, _, _, rfl, hS.same sA, by decide, fun H2 k s5 k0 k1 => ?_⟩
      have e1 : ([V.str ("i" : Str), .str ("j" : Str)] : List V) = (([[105], [106]] : List Cs).map mkS).map V.str := by decide +kernel
      have e2 : ([V.str ("n" : Str), .str ("abcdefgh" : Str)] : List V) = (([[110], [97, 98, 99, 100, 101, 102, 103, 104]] : List Cs).map mkS).map V.str := by decide +kernel
      have e3 : ([V.str ("x" : Str), .str ("alls" : Str)] : List V) = (([[120], [97, 108, 108, 115]] : List Cs).map mkS).map V.str := by decide +kernel
      rw [e1] at h1
      rw [e2] at h2
      rw [e3] at h3
      have h012 : k = 0 ∨ k = 1 ∨ k = 2 := by omega
      rcases h012 with rfl | rfl | rfl
      · exact ⟨t, _, _, _, rfl, rfl, SqT.of (s5 _ _ h4), atI_nat (j := 0) rfl, t1, _, rfl, sA.trans s5, SqT.of (s5 _ _ h1), List.mem_cons_self⟩
      · exact ⟨t, _, _, _, rfl, rfl, SqT.of (s5 _ _ h4), atI_nat (j := 1) rfl, t2, _, rfl, sA.trans s5, SqT.of (s5 _ _ h2), List.mem_cons_of_mem _ List.mem_cons_self⟩
      · exact ⟨t, _, _, _, rfl, rfl, SqT.of (s5 _ _ h4), atI_nat (j := 2) rfl, t3, _, rfl, sA.trans s5, SqT.of (s5 _ _ h3), List.mem_cons_of_mem _ (List.mem_cons_of_mem _ List.mem_cons_self)⟩
    rintro σ0 H0 ⟨np, ns, rfl, sH0, hN, hns⟩
    obtain ⟨nne, nl, nok⟩ := nmT_ok ns hns
    refine ⟨_, rfl, by decide, by decide, ?_⟩
    refine for_range (lo := 0) (fun i σ H' => ∃ (y2 y3 y4 y5 y6 y7 y8 y9 y10 y11 y12 : Option V), σ = [some (.ref s), some (.ref np), y2, y3, y4, y5, y6, y7, y8, y9, y10, y11, y12] ∧ Same H0 H') ⟨_, _, _, _, _, _, _, _, _, _, _, rfl, Same.refl _⟩ ?_ ?_
    · rintro i σ Ha hi ⟨y2, y3, y4, y5, y6, y7, y8, y9, y10, y11, y12, rfl, sa⟩
      have sHa := sH0.trans sa
      -- the tree
      refine ⟨_, rfl, _, rfl, _, _, rfl, rfl, .inl ⟨by decide, by decide⟩, _, _, rfl, rfl, _, rfl, sz3, fun fr0 nfr => ?_⟩
      have sF := same_upd (o := HO.tup [V.str ("k" : Str), .str ("u" : Str), .str ("w" : Str)]) nfr
      have hF := upd_same (H := Ha) (a := fr0) (o := HO.tup [V.str ("k" : Str), .str ("u" : Str), .str ("w" : Str)])
      have eF : ([V.str ("k" : Str), .str ("u" : Str), .str ("w" : Str)] : List V) = (fresh3.map mkS).map V.str := by decide +kernel
      have sHb := sHa.trans sF
      have sb := sa.trans sF
      generalize upd Ha fr0 (.tup [V.str ("k" : Str), .str ("u" : Str), .str ("w" : Str)]) = Hb at sF hF sHb sb ⊢
      rw [eF] at hF
      refine ⟨_, rfl, _, rfl, _, _, rfl, rfl, s, _, _, rfl, hS.same sHb, by decide, fun Hc k sbc k0 k1 => ?_⟩
      obtain ⟨j, rfl⟩ : ∃ j : Nat, k = (j : Nat) := ⟨k.toNat, by omega⟩
      have sHc := sHb.trans sbc
      refine ⟨_, _, rfl, rfl, j + 1, by omega, s, np, fr0, 10 + 200 * (0 + (i : Nat)), ns, fresh3, [], ?_, hS.same sHc, hN.same (sb.trans sbc), SqT.of (sbc _ _ hF), nne, by rw [nl]; decide, nok, fun n hn => ⟨fresh_ok n hn, List.not_mem_nil⟩, by decide, fun Hd v g scd hg hw hsm => ?_⟩
      · show [V.ref s, V.int (10 + 200 * (0 + ((i : Nat) : Int))), V.ref np, V.ref fr0, V.int (1 + ((j : Nat) : Int))] = _
        rw [show (1 + ((j : Nat) : Int)) = ((j + 1 : Nat) : Int) by omega]
      have sHd := sHc.trans scd
      have sd := (sb.trans sbc).trans scd
      have hs4 : sm 4 g := sm_four hsm (by omega)
      clear sF hF eF nfr hsm sb sbc scd sHb sHc sHa k0 k1
      have hsz : sz g ≤ 1000 := Nat.le_trans (sm_sz g 4 hs4) (by decide)
      have l1000 : (tx Fx.plain .top g).length ≤ 20000 := len_small plain_len hw hs4
      have rp : readF (tx Fx.plain .top g) = .ok g := read_style plain_ok hw
      -- text, due
      refine ⟨_, rfl, v, g, rfl, hg, ⟨[], hw⟩, hsz, fun He sde => ?_⟩
      refine ⟨_, rfl, v, false, g, rfl, FAt.keep (KeepT.of sde) _ _ hg, ⟨[], hw⟩, hs4, hsz, fun Hf sef => ?_⟩
      rw [if_neg Bool.false_ne_true]
      generalize etx : tx Fx.plain .top g = tl at rp l1000 ⊢
      have sHf := (sHd.trans sde).trans sef
      have sf := (sd.trans sde).trans sef
      have hgf := FAt.keep (KeepT.of (sde.trans sef)) _ _ hg
      have sh := shaped_fm hw hs4
      refine ⟨_, _, rfl, ?_⟩
      refine ⟨_, rfl, _, rfl, rfl, _, rfl, ?_⟩
      rw [decide_eq_true rfl]
      refine iteF ⟨_, rfl, mkS tl, rfl, by rw [mkS_len]; omega, rdO rp fun Hg v' sfg hg' => ?_, fun c ec => (rdE rp ec).elim⟩
      refine ⟨_, rfl, fmD g, fmD g, dp_fm g _ hg', dp_fm g _ (FAt.keep (KeepT.of sfg) _ _ hgf), sh, sh, _, rfl, ?_⟩
      rw [eqv_fm]
      refine iteF ?_
      have sHg := sHf.trans sfg
      have sg := sf.trans sfg
      have hgg := FAt.keep (KeepT.of sfg) _ _ hgf
      clear hg' sfg hgf sHf sf sde sef sHd sd hg
      -- free
      refine ⟨_, rfl, Nat.zero_le _, fun L0 nL0 => ?_⟩
      have sL0 := same_upd (o := HO.lst []) nL0
      refine ⟨v, L0, [], g, rfl, upd_same, FAt.keep (KeepT.of sL0) _ _ hgg, ⟨[], hw⟩, hs4, by decide, hsz, fun Hh fl shh nfl hfl => ?_⟩
      have sgh := sL0.trans shh
      have sHh := sHg.trans sgh
      have sh2 := sg.trans sgh
      have hgh := FAt.keep (KeepT.of sgh) _ _ hgg
      refine ⟨_, rfl, v, g, rfl, hgh, hw, hsz, fun Hi fn shi nfn hfn => ?_⟩
      have hfl2 := shi _ _ hfl
      have hgi := FAt.keep (KeepT.of shi) _ _ hgh
      have sHi := sHh.trans shi
      have si := sh2.trans shi
      clear sgh shh sL0 nL0 hgg hgh sHh sh2 sg sHg shi hfl
      have frl := fr_len g []
      have fok := fr_ok g [] [] hw
      generalize fr [] g = fs at hfn hfl2 frl fok ⊢
      refine ⟨_, rfl, fl, _, rfl, SqL.of hfl2, fun D nD => ?_⟩
      refine lc_it walk_enum (fun i H' => Same Hi H' ∧ H' D = some (.lst (((firsts (fs.take i)).map mkS).map V.str))) ⟨same_upd nD, upd_same⟩ (fun i H' _ h => SqL.of (h.1 _ _ hfl2)) ?_ ?_
      · rintro i2 x Hj Hk hi2 ⟨s2, hD⟩ ⟨T2, x1, x2, rfl, nT, rfl, ex1, ex2⟩
        obtain rfl := Option.some.inj ex1
        have ex2 : ((fs.map mkS).map V.str)[i2]? = some x2 := ex2
        obtain ⟨n, hni, rfl⟩ : ∃ n, fs[i2]? = some n ∧ x2 = .str (mkS n) := by
          rw [List.getElem?_map, List.getElem?_map] at ex2
          cases e : fs[i2]? with
          | none =>
            rw [e] at ex2
            cases ex2
          | some n =>
            rw [e] at ex2
            exact ⟨n, rfl, (Option.some.inj ex2).symm⟩
        have il := (List.getElem?_eq_some_iff.mp hni).1
        have et : fs.take (i2 + 1) = fs.take i2 ++ [n] := by rw [List.take_add_one, hni]; rfl
        have sT2 := same_upd (o := HO.tup [.int (i2 : Nat), .str (mkS n)]) nT
        have hfl3 := sT2 _ _ (s2 _ _ hfl2)
        have hD3 := sT2 _ _ hD
        have s23 := s2.trans sT2
        refine ⟨T2, _, rfl, SqT.of upd_same, rfl, _, _, rfl, _, _, rfl, rfl, rfl, ?_⟩
        generalize upd Hj T2 (.tup [.int (i2 : Nat), .str (mkS n)]) = Hk at hfl3 hD3 s23 ⊢
        refine ⟨_, rfl, _, rfl, _, rfl, _, rfl, fl, _, rfl, SqL.of hfl3, fun q2 nq2 => ?_⟩
        have sQ := same_upd (o := HO.lst (cutV ((fs.map mkS).map V.str) none (some (i2 : Nat)))) nq2
        have ec : cutV ((fs.map mkS).map V.str) none (some (i2 : Nat)) = ((fs.take i2).map mkS).map V.str := by
          unfold cutV
          rw [HT.sIx_none, show HT.sIx ((fs.map mkS).map V.str).length ((fs.map mkS).map V.str).length (some ((i2 : Nat) : Int)) = min i2 ((fs.map mkS).map V.str).length from HT.sIx_nat _ _ i2, List.drop_zero, Nat.sub_zero, List.length_map, List.length_map, Nat.min_eq_left (by omega), List.map_take, List.map_take]
        refine ⟨q2, _, rfl, .inl (SqL.of upd_same), rfl, ?_, _, rfl, ?_⟩
        · rw [ec]
          exact flat_strs _
        rw [if_pos rfl, ec, inV_mk, et, firsts_snoc]
        have hD4 := sQ _ _ hD3
        have s24 := s23.trans sQ
        rw [ec] at hD4 s24
        generalize upd Hk q2 (.lst (((fs.take i2).map mkS).map V.str)) = Hm at hD4 s24 ⊢
        by_cases hm : n ∈ fs.take i2
        · rw [decide_eq_true hm, if_pos hm]
          exact iteF ⟨s24, hD4⟩
        · rw [decide_eq_false hm, if_neg hm]
          have lfi : (firsts (fs.take i2)).length ≤ (fs.take i2).length := firsts_len _
          rw [List.length_take] at lfi
          refine iteT ⟨_, rfl, _, hD4, ?_, s24.later nD, ?_⟩
          · rw [List.length_map, List.length_map]
            exact Nat.lt_of_le_of_lt (show _ ≤ 1000000 by omega) (by decide)
          · rw [upd_same, List.map_append, List.map_append]
            rfl
      · rintro Hj ⟨s2, hD⟩
        have ln : ((fs.map mkS).map V.str).length = fs.length := by rw [List.length_map, List.length_map]
        rw [ln, List.take_length] at hD
        refine ⟨D, _, rfl, .inl ⟨SqL.of hD, fun tp ntp => ?_⟩⟩
        have sT := same_upd (o := HO.tup (((firsts fs).map mkS).map V.str)) ntp
        have ok2 : ∀ z ∈ (firsts fs).map mkS, PyData.strOk z = true := fun z hz => by
          obtain ⟨n, hn, rfl⟩ := List.mem_map.mp hz
          exact strOk_mk (name_ascii (fok n ((mem_addAll.mp hn).resolve_left List.not_mem_nil)))
        refine ⟨.tuple (((firsts fs).map mkS).map PyData.str), .tuple (((firsts fs).map mkS).map PyData.str), .tup (SqT.of (sT _ _ (s2 _ _ hfn))) (dpStrs _), .tup (SqT.of upd_same) (dpStrs _), shapedT ok2, shapedT ok2, _, rfl, ?_⟩
        rw [show PyData.eqv (.tuple (((firsts fs).map mkS).map PyData.str)) (.tuple (((firsts fs).map mkS).map PyData.str)) = true from eqv_strs _]
        refine iteF ?_
        have sHl := (sHi.trans s2).trans sT
        have sl := (si.trans s2).trans sT
        have hgl := FAt.keep (KeepT.of (s2.trans sT)) _ _ hgi
        generalize upd Hj tp (.tup (((firsts fs).map mkS).map V.str)) = Hl at sHl sl hgl ⊢
        clear sHi si hgi hfl2 hfn hD s2 sT ok2 ntp nD nfn nfl frl fok
        have e32 : cs (" " : Str) = [32] := by decide +kernel
        have l32 : 1 ≤ (" " : Str).length := by decide +kernel
        have e40 : cs ("(" : Str) = [40] := by decide +kernel
        have l40 : 1 ≤ ("(" : Str).length := by decide +kernel
        have e41 : cs (")" : Str) = [41] := by decide +kernel
        have l41 : 1 ≤ (")" : Str).length := by decide +kernel
        have ecl : cs (": " : Str) = [58, 32] := by decide +kernel
        have lcl : 1 ≤ (": " : Str).length := by decide +kernel
        have eeq : cs (" = " : Str) = [32, 61, 32] := by decide +kernel
        have leq : 1 ≤ (" = " : Str).length := by decide +kernel
        have w1 := len_small wide1_len hw hs4 (m := .top)
        have w2 := len_small wide2_len hw hs4 (m := .top)
        have w3 := len_small wide_len hw hs4 (m := .top)
        have w4 := len_small mid_len hw hs4 (m := .top)
        have w5 := len_small narrow_len hw hs4 (m := .top)
        have r1' : Txt.replace (mkS tl) (" " : Str) ("   " : Str) = mkS (tx Fx.wide1 .top g) := by
          rw [repl_mk (b := [32, 32, 32]) l32 e32 (by decide +kernel), ← etx, repl_w1 hw]
        have r2' : Txt.replace (mkS (tx Fx.wide1 .top g)) ("(" : Str) (" ( " : Str) = mkS (tx Fx.wide2 .top g) := by
          rw [repl_mk (b := [32, 40, 32]) l40 e40 (by decide +kernel), repl_w2 hw]
        have r3' : Txt.replace (mkS (tx Fx.wide2 .top g)) (")" : Str) (" ) " : Str) = mkS (tx Fx.wide .top g) := by
          rw [repl_mk (b := [32, 41, 32]) l41 e41 (by decide +kernel), repl_w3 hw]
        have r4' : Txt.replace (mkS tl) (": " : Str) (":" : Str) = mkS (tx Fx.mid .top g) := by
          rw [repl_mk (b := [58]) lcl ecl (by decide +kernel), ← etx, repl_n1 hw]
        have r5' : Txt.replace (mkS (tx Fx.mid .top g)) (" = " : Str) ("=" : Str) = mkS (tx Fx.narrow .top g) := by
          rw [repl_mk (b := [61]) leq eeq (by decide +kernel), repl_n2 hw]
        have z3 : ("   " : Str).length = 3 ∧ (" ( " : Str).length = 3 ∧ (" ) " : Str).length = 3 ∧ (":" : Str).length = 1 ∧ ("=" : Str).length = 1 := by decide +kernel
        refine ⟨_, rfl, mkS tl, rfl, by rw [mkS_len, z3.1]; omega, ?_⟩
        rw [r1']
        refine ⟨_, rfl, by rw [mkS_len, z3.2.1]; omega, ?_⟩
        rw [r2']
        refine ⟨_, rfl, by rw [mkS_len, z3.2.2.1]; omega, ?_⟩
        rw [r3']
        have eop : ("  ((" : Str) = mkS [32, 32, 40, 40] := by decide +kernel
        have ecp : (") ) " : Str) = mkS [41, 32, 41, 32] := by decide +kernel
        refine ⟨_, rfl, _, _, rfl, rfl, by rw [eop, mkS_len, mkS_len]; exact small_sz (by simp; omega), ?_⟩
        rw [eop, mkS_app]
        refine ⟨_, _, rfl, rfl, by rw [ecp, mkS_len, mkS_len]; exact small_sz (by simp; omega), ?_⟩
        rw [ecp, mkS_app]
        have rw' : readF ([32, 32, 40, 40] ++ tx Fx.wide .top g ++ [41, 32, 41, 32]) = .ok g := by
          rw [List.append_assoc]
          exact read_wide hw
        refine ⟨_, rfl, by rw [mkS_len]; simp; omega, rdO rw' fun Hm v' slm hg' => ?_, fun c ec => (rdE rw' ec).elim⟩
        refine ⟨_, rfl, fmD g, fmD g, dp_fm g _ hg', dp_fm g _ (FAt.keep (KeepT.of slm) _ _ hgl), sh, sh, _, rfl, ?_⟩
        rw [eqv_fm]
        refine iteF ?_
        refine ⟨_, rfl, mkS tl, rfl, by rw [mkS_len, z3.2.2.2.1]; omega, ?_⟩
        rw [r4']
        refine ⟨_, rfl, by rw [mkS_len, z3.2.2.2.2]; omega, ?_⟩
        rw [r5']
        have rn' : readF (tx Fx.narrow .top g) = .ok g := read_style narrow_ok hw
        refine ⟨_, rfl, by rw [mkS_len]; omega, rdO rn' fun Hn v2 smn hg2 => ?_, fun c ec => (rdE rn' ec).elim⟩
        refine ⟨_, rfl, fmD g, fmD g, dp_fm g _ hg2, dp_fm g _ (FAt.keep (KeepT.of (slm.trans smn)) _ _ hgl), sh, sh, _, rfl, ?_⟩
        rw [eqv_fm]
        refine iteF ?_
        have sHn := (sHl.trans slm).trans smn
        have sn := (sl.trans slm).trans smn
        clear r1' r2' r3' r4' r5' rw' rn' e32 l32 e40 l40 e41 l41 ecl lcl eeq leq w1 w2 w3 w4 w5 z3 eop ecp hg' hg2 hgl sHl sl slm smn sh
        -- at, sign, column
        refine ⟨_, rfl, _, rfl, _, _, rfl, rfl, _, rfl, mkS tl, rfl, by rw [mkS_len]; exact small_sz (by omega), _, _, rfl, rfl, s, _, _, rfl, hS.same sHn, by omega, fun Ho k sno k0 k1 => ?_⟩
        obtain ⟨n, rfl⟩ : ∃ n : Nat, k = (n : Nat) := ⟨k.toNat, by omega⟩
        rw [mkS_len] at k1
        have hn : n ≤ tl.length := by omega
        have sHo := sHn.trans sno
        refine ⟨sz7, fun tg ntg => ?_⟩
        have sG := same_upd (o := HO.tup [V.str ("#" : Str), .str ("A" : Str), .str ("." : Str), .str ("!" : Str), .str ("*" : Str), .str (";" : Str), .str ("_" : Str)]) ntg
        have hG := upd_same (H := Ho) (a := tg) (o := HO.tup [V.str ("#" : Str), .str ("A" : Str), .str ("." : Str), .str ("!" : Str), .str ("*" : Str), .str (";" : Str), .str ("_" : Str)])
        have eG : ([V.str ("#" : Str), .str ("A" : Str), .str ("." : Str), .str ("!" : Str), .str ("*" : Str), .str (";" : Str), .str ("_" : Str)] : List V) = (spoilers.map fun c => mkS [c]).map V.str := by decide +kernel
        have sHp := sHo.trans sG
        generalize upd Ho tg (.tup [V.str ("#" : Str), .str ("A" : Str), .str ("." : Str), .str ("!" : Str), .str ("*" : Str), .str (";" : Str), .str ("_" : Str)]) = Hp at sG hG sHp ⊢
        rw [eG] at hG
        refine ⟨_, rfl, _, rfl, _, _, rfl, rfl, s, _, _, rfl, hS.same sHp, by decide, fun Hq k spq k0 k1 => ?_⟩
        obtain ⟨m, rfl⟩ : ∃ m : Nat, k = (m : Nat) := ⟨k.toNat, by omega⟩
        have hm : m < spoilers.length := by show m < 7; omega
        have hget : ((spoilers.map fun c => mkS [c]).map V.str)[m]? = some (.str (mkS [spoilers[m]])) := by
          rw [List.getElem?_map, List.getElem?_map, List.getElem?_eq_getElem hm]
          rfl
        refine ⟨tg, _, _, _, rfl, rfl, SqT.of (spq _ _ hG), atI_nat hget, ?_⟩
        have hsp : spoilers[m] ∈ spoilers := List.getElem_mem hm
        have sHq := sHp.trans spq
        have sq := ((sn.trans sno).trans sG).trans spq
        generalize spoilers[m] = sg at hsp ⊢
        have gt : G tl := by rw [← etx]; exact g_tx g .top [] hw
        have rs := read_spoilt gt hn hsp
        have tk : (tl.take n).length ≤ 20000 := by rw [List.length_take]; omega
        have dk : (tl.drop n).length ≤ 20000 := by rw [List.length_drop]; omega
        refine ⟨fun σ' H' => ∃ (c : Nat) (y9 : Option V), readF (tl.take n ++ (sg :: 32 :: tl.drop n)) = .error c ∧ σ' = [some (.ref s), some (.ref np), some (.int (0 + (i : Nat))), some v, some (.str (mkS tl)), some (.str (mkS tl)), some (.ref fl), some (.int (n : Nat)), y8, y9, some (.str (mkS [sg])), some (.int (c : Nat)), y12] ∧ H' = Hq, ?_, ?_⟩
        · refine ⟨_, rfl, _, rfl, n, rfl, mkS tl, rfl, by rw [mkS_len]; exact small_sz (by omega), ?_⟩
          rw [cut_take tl hn]
          refine ⟨1, rfl, -1, rfl, mkS (tl.take n), rfl, by rw [mkS_len]; exact small_sz (by omega), ?_⟩
          refine ⟨rfl, _, rfl, ?_⟩
          rw [cut_last]
          by_cases h33 : (tl.take n).getLast? = some 33
          · rw [if_pos h33] at rs
            rw [decide_eq_true h33]
            exact iteT ⟨_, rfl, n, _, rs, rfl, rfl⟩
          · rw [if_neg h33] at rs
            rw [decide_eq_false h33]
            exact iteF ⟨_, rfl, _, _, rfl, rfl, n + 1, _, rs, rfl, rfl⟩
        rintro σr Hr ⟨c, y9, rc, rfl, rfl⟩
        have esp : (" " : Str) = mkS [32] := by decide +kernel
        have emo : (" )" : Str) = mkS [32, 41] := by decide +kernel
        rw [esp, emo]
        refine ⟨_, rfl, _, rfl, n, rfl, mkS tl, rfl, by rw [mkS_len]; exact small_sz (by omega), ?_⟩
        rw [cut_take tl hn]
        refine ⟨_, rfl, _, _, rfl, rfl, by rw [mkS_len, mkS_len]; exact small_sz (by simp; omega), ?_⟩
        rw [mkS_app]
        refine ⟨_, _, rfl, rfl, by rw [mkS_len, mkS_len]; exact small_sz (by simp; omega), ?_⟩
        rw [mkS_app]
        refine ⟨_, rfl, _, rfl, n, rfl, mkS tl, rfl, by rw [mkS_len]; exact small_sz (by omega), ?_⟩
        rw [cut_drop tl hn]
        refine ⟨_, _, rfl, rfl, by rw [mkS_len, mkS_len]; exact small_sz (by simp; omega), ?_⟩
        rw [mkS_app]
        have et1 : tl.take n ++ [sg] ++ [32] ++ tl.drop n = tl.take n ++ (sg :: 32 :: tl.drop n) := by simp
        rw [et1]
        refine ⟨_, rfl, mkS (tl.take n ++ (sg :: 32 :: tl.drop n)), c, rfl, by rw [mkS_len]; simp; omega, by rw [cs_mkS]; exact rc, fun Hs sqs => ?_⟩
        refine ⟨true, rfl, iteF ?_⟩
        have rm : readF (tl ++ [32, 41]) = .error (tl.length + 2) := by
          rw [← etx]
          exact read_more hw
        refine ⟨_, rfl, _, _, rfl, rfl, by rw [mkS_len, mkS_len]; exact small_sz (by simp; omega), ?_⟩
        rw [mkS_app]
        refine ⟨_, rfl, mkS tl, rfl, by rw [mkS_len]; exact small_sz (by omega), _, _, rfl, rfl, mkS (tl ++ [32, 41]), tl.length + 2, ?_, by rw [mkS_len]; simp; omega, by rw [cs_mkS]; exact rm, fun Ht sst => ?_⟩
        · rw [mkS_len]
          rfl
        refine ⟨true, rfl, iteF ?_⟩
        -- last
        obtain ⟨body, lt, ebl, rbody, hlt⟩ := read_cut hw
        rw [etx] at ebl
        have hbl : body.length ≤ 20000 := by
          have := congrArg List.length ebl
          rw [List.length_append] at this
          omega
        refine ⟨fun σ' H' => ∃ (y9 : Option V), σ' = [some (.ref s), some (.ref np), some (.int (0 + (i : Nat))), some v, some (.str (mkS tl)), some (.str (mkS tl)), some (.ref fl), some (.int (n : Nat)), y8, y9, some (.str (mkS [sg])), some (.int (c : Nat)), some (.str (mkS body))] ∧ H' = Ht, ?_, ?_⟩
        · have lne : ∃ lt' x, lt = lt' ++ [x] := by
            rcases List.eq_nil_or_concat lt with z | ⟨l', x, z⟩
            · rcases hlt with hlt | hlt
              · rw [hlt] at z
                cases z
              · exact absurd z hlt.1
            · exact ⟨l', x, by rw [z]; simp⟩
          obtain ⟨lt', x, rfl⟩ := lne
          have etl : tl = (body ++ lt') ++ [x] := by rw [ebl]; simp
          have ecs : (mkS tl).cps.toList = (body ++ lt') ++ [x] := by
            have : (mkS tl).cps.toList = tl := cs_mkS tl
            rw [this, etl]
          refine ⟨_, rfl, 1, rfl, mkS tl, -1, x, rfl, rfl, by rw [mkS_len]; exact small_sz (by omega), by rw [ecs]; exact atI_last _ x, ?_⟩
          refine ⟨rfl, _, rfl, ?_⟩
          have ed : decide (V.str (⟨#[x]⟩ : Str) = V.str (")" : Str)) = decide (x = 41) := by
            have e1 : (⟨#[x]⟩ : Str) = mkS [x] := rfl
            rw [e1, mk_close, dec_mk]
            exact decide_eq_decide.mpr ⟨fun z => (List.cons.inj z).1, fun z => by rw [z]⟩
          rw [ed]
          rcases hlt with hlt | ⟨hne, hal, bb, xx, ebody, hxx⟩
          · obtain ⟨rfl, rfl⟩ : lt' = [] ∧ x = 41 := by
              cases lt' with
              | nil => exact ⟨rfl, (List.cons.inj hlt).1⟩
              | cons a l' => simp at hlt
            rw [decide_eq_true rfl]
            refine iteT ⟨_, rfl, 1, rfl, -1, rfl, mkS tl, rfl, by rw [mkS_len]; exact small_sz (by omega), ?_⟩
            have edl : tl.dropLast = body := by
              rw [etl]
              simp
            rw [cut_but, edl]
            exact ⟨_, rfl, rfl⟩
          · have hx41 : x ≠ 41 := fun z => by
              have := hal x (List.mem_append_right _ List.mem_cons_self)
              rw [z] at this
              exact absurd this (by decide +kernel)
            rw [decide_eq_false hx41]
            have ers : Txt.rstripChars (mkS tl) ALN = mkS body := cs_inj (by
              rw [cs_mkS]
              exact rstrip_cs (a := body) (b := lt' ++ [x]) (by rw [cs_mkS, ebl]) (fun c hc => aln_in c (aln_lt (hal c hc)) (hal c hc)) ⟨bb, xx, ebody, aln_out hxx⟩)
            refine iteF ⟨_, rfl, rfl, mkS tl, ALN, rfl, rfl, by rw [mkS_len]; exact small_sz (by omega), ?_⟩
            rw [ers]
            exact ⟨_, rfl, rfl⟩
        rintro σs Hs2 ⟨y9', rfl, rfl⟩
        refine ⟨_, rfl, _, rfl, mkS body, rfl, by rw [mkS_len]; exact small_sz (by omega), _, _, rfl, rfl, mkS body, body.length + 1, ?_, by rw [mkS_len]; omega, by rw [cs_mkS]; exact rbody, fun Hu stu => ?_⟩
        · rw [mkS_len]
          rfl
        refine ⟨true, rfl, iteF ?_⟩
        -- a text of the table
        have sHu := ((sHq.trans sqs).trans sst).trans stu
        have su := ((sq.trans sqs).trans sst).trans stu
        refine ⟨_, rfl, _, rfl, _, _, rfl, rfl, s, _, _, rfl, hS.same sHu, by decide, fun Hv k suv k0 k1 => ?_⟩
        obtain ⟨u, rfl⟩ : ∃ u : Nat, k = (u : Nat) := ⟨k.toNat, by omega⟩
        refine ⟨u, rfl, by omega, fun Hw pk qk svw hqk hpk => ?_⟩
        have hmem : qk ∈ known := List.mem_of_getElem? hqk
        have hkb := List.all_eq_true.mp known_bad qk hmem
        obtain ⟨hk1, hk2⟩ := Bool.and_eq_true_iff.mp hkb
        refine ⟨pk, _, rfl, SqT.of hpk, rfl, _, _, rfl, _, _, rfl, rfl, ?_⟩
        refine ⟨_, rfl, _, rfl, qk.1, qk.2, rfl, Nat.le_trans (of_decide_eq_true hk2) (by decide), isErr_iff hk1, fun Hx swx => ?_⟩
        refine ⟨true, rfl, iteF ?_⟩
        exact ⟨_, _, _, _, _, _, _, _, _, _, _, rfl, ((su.trans suv).trans svw).trans swx⟩
    · rintro σ H2 ⟨y2, y3, y4, y5, y6, y7, y8, y9, y10, y11, y12, rfl, s2⟩
      exact q H2
end
end Lo
namespace Lo
open PySem L2 Fx
/-- a def of the top, as it stands behind it -/
structure Df (K : PySem.W.Frag) (x : Str) (st : Stmt) (f : Addr) (fd : FuncData) : Prop where
  ns : PySem.W.nsIn K mainGlobals x = some (some (.ref f))
  fn : Fun K x x st f fd
theorem df_mk {K : PySem.W.Frag} {x : Str} {st : Stmt} {f : Addr} {oc : Value} {od an : Option Addr} {osl : Array (Option Value)} {kV doc pm cdv ct : Value} (a : PySem.W.nsIn K mainGlobals x = some (some (.ref f)))
    (l : K.lookup f = some ⟨oc, od, .func (PySem.W.fnOf x x (defArgs st) (defBody st) (defScope st) .none kV doc pm an cdv ct), osl⟩) (c : PySem.W.codeIn K cdv x = true) (k : PySem.W.keepIn K (.ref f) = true) :
    Df K x st f (PySem.W.fnOf x x (defArgs st) (defBody st) (defScope st) .none kV doc pm an cdv ct) := ⟨a, fun_mk l c k⟩
theorem err_self {K : PySem.W.Frag} {C : Addr} (h1 : PySem.W.subIn K (.ref C) (.type "BaseException") = some true) (h2 : PySem.W.isClsIn K C = true) (h3 : PySem.W.typeIn K (.ref C) = some (.type "type")) (h4 : PySem.W.subIn K (.ref C) (.ref C) = some true) : PySem.W.exmOne K (.ref C) (.ref C) = some true := by
  unfold PySem.W.isClsIn at h2
  simp [PySem.W.exmOne, PySem.W.kitCls, h1, h2, h3, h4]
/-- the texts of a tuple of the module -/
def strsB : List Value → List Str → Bool
  | [], [] => true
  | .str x _ :: r, y :: s => (x == y) && strsB r s
  | _, _ => false
theorem strsB_vals : ∀ (l : List Value) (ss : List Str), strsB l ss = true → Vals (ss.map V.str) l
  | [], [], _ => .nil
  | [], _ :: _, h => by simp [strsB] at h
  | .str x t :: r, y :: s, h => by
    simp only [strsB, Bool.and_eq_true] at h
    have e : x = y := by simpa using h.1
    subst e
    exact .cons ⟨t, rfl⟩ (strsB_vals r s h.2)
  | v :: r, [], h => by cases v <;> simp [strsB] at h
  | .none :: r, y :: s, h => by simp [strsB] at h
  | .int _ _ :: r, y :: s, h => by simp [strsB] at h
  | .ref _ :: r, y :: s, h => by simp [strsB] at h
  | v :: r, y :: s, h => by cases v <;> first | (simp [strsB] at h; done) | skip
                            simp only [strsB, Bool.and_eq_true] at h
                            have e := h.1
                            exact .cons ⟨_, by have := h.1; simp at this; rw [this]⟩ (strsB_vals r s h.2)
theorem tupW_mk {K : PySem.W.Frag} {a : Addr} {d : Option Addr} {it : Array Value} {n : Nat} {sl : Array (Option Value)} {ss : List Str} (l : K.lookup a = some ⟨.type "tuple", d, .seq it n, sl⟩) (v : strsB it.toList ss = true) (hs : ss.length ≤ 100) : TupW K a ss := fun H => by
  have r := strsB_vals _ _ v
  have hl := r.length
  rw [List.length_map] at hl
  refine .inr ⟨_, it, n, l, rfl, rfl, ?_, r⟩
  simp only [Array.length_toList] at hl
  exact Nat.le_trans (by omega : it.size ≤ 100) (by decide)
set_option maxHeartbeats 0 in
theorem all_mk {l : PySem.W.OpenLaw} {w : World} {K : PySem.W.Frag} {h : Heap} {mg : Str → Option Value} {fa f1 f2 f3 f4 f5 f6 f7 f8 f9 f10 f11 f12 f13 f14 f15 f16 f17 f18 f19 f20 f21 CU CE CL CR aO aR aK gu gv gi gw gk gc gt gn ge gp gl gd gq go gf : Addr} {tL tD tW tN tS : PySem.Tok} (X0 : K.In h) (G : h.Ns mainGlobals mg) (hfa : mg "law" = some (.ref fa))
    {fd1 fd2 fd3 fd4 fd5 fd6 fd7 fd8 fd9 fd10 fd11 fd12 fd13 fd14 fd15 fd16 fd17 fd18 fd19 fd20 : FuncData}
    (D1 : Df K "words_of" sWordsOf f1 fd1)
    (D2 : Df K "is_word_name" sIsWN f2 fd2)
    (D3 : Df K "_word_at" sWordAt f3 fd3)
    (D4 : Df K "_end_of_run" sEndRun f4 fd4)
    (D5 : Df K "_row" sRow f5 fd5)
    (D6 : Df K "read_formula" sReadF f6 fd6)
    (D7 : Df K "write_formula" sWriteF f7 fd7)
    (D8 : Df K "_written" sWritten f8 fd8)
    (D9 : Df K "_enclosed" sEnclosed f9 fd9)
    (D10 : Df K "_term" sTermT f10 fd10)
    (D11 : Df K "free_names" sFree f11 fd11)
    (D12 : Df K "_law_draw" sDraw f12 fd12)
    (D13 : Df K "_law_atom" sLAtom f13 fd13)
    (D14 : Df K "_law_compare" sLCompare f14 fd14)
    (D15 : Df K "_law_tree" sLTree f15 fd15)
    (D16 : Df K "_law_text_of" sLTextOf f16 fd16)
    (D17 : Df K "_law_text" sLText f17 fd17)
    (D18 : Df K "_law_free" sLFree f18 fd18)
    (D19 : Df K "_law_refused" sLRefused f19 fd19)
    (D20 : Df K "_law_known" sLKnown f20 fd20)
    {od an : Option Addr} {sl : Array (Option Value)} {oc kV dc pm cd ct : Value}
    (aL : PySem.W.nsIn K mainGlobals "law" = some (some (.ref f21))) (lL : K.lookup f21 = some ⟨oc, od, .func (PySem.W.fnOf "law" "law" (defArgs sLaw) (defBody sLaw) (defScope sLaw) .none kV dc pm an cd ct), sl⟩) (cL : PySem.W.codeIn K cd "law" = true) (kL : PySem.W.keepIn K (.ref f21) = true)
    (z_isi : PySem.W.nsIn K mainGlobals "isinstance" = some none)
    (z_int : PySem.W.nsIn K mainGlobals "int" = some none)
    (z_bool : PySem.W.nsIn K mainGlobals "bool" = some none)
    (z_str : PySem.W.nsIn K mainGlobals "str" = some none)
    (z_tuple : PySem.W.nsIn K mainGlobals "tuple" = some none)
    (z_list : PySem.W.nsIn K mainGlobals "list" = some none)
    (z_len : PySem.W.nsIn K mainGlobals "len" = some none)
    (z_enum : PySem.W.nsIn K mainGlobals "enumerate" = some none)
    (z_range : PySem.W.nsIn K mainGlobals "range" = some none)
    (z_all : PySem.W.nsIn K mainGlobals "all" = some none)
    (z_abs : PySem.W.nsIn K mainGlobals "abs" = some none)
    (cB : PySem.W.nsIn K mainGlobals "BadText" = some (some (.ref CU)))
    (cE : PySem.W.nsIn K mainGlobals "LoopshedsError" = some (some (.ref CE)))
    (cV : PySem.W.nsIn K mainGlobals "FormulaLevel" = some (some (.ref CL)))
    (cR : PySem.W.nsIn K mainGlobals "FormulaReader" = some (some (.ref CR)))
    (s1 : PySem.W.nsIn K mainGlobals "LETTERS" = some (some (.str LET tL)))
    (s2 : PySem.W.nsIn K mainGlobals "DIGITS" = some (some (.str DIG tD)))
    (s3 : PySem.W.nsIn K mainGlobals "WORD" = some (some (.str ("word" : Str) tW)))
    (s4 : PySem.W.nsIn K mainGlobals "NUMBER" = some (some (.str ("number" : Str) tN)))
    (s5 : PySem.W.nsIn K mainGlobals "SIGN" = some (some (.str ("sign" : Str) tS)))
    (nO : PySem.W.nsIn K mainGlobals "OPERATORS" = some (some (.ref aO)))
    {dO : Option Addr} {itO : Array Value} {qO : Nat} {slO : Array (Option Value)}
    (tO : K.lookup aO = some ⟨.type "tuple", dO, .seq itO qO, slO⟩)
    (yO : strsB itO.toList (Fx.ops.map mkS) = true)
    (nR : PySem.W.nsIn K mainGlobals "RESERVED" = some (some (.ref aR)))
    {dR : Option Addr} {itR : Array Value} {qR : Nat} {slR : Array (Option Value)}
    (tR : K.lookup aR = some ⟨.type "tuple", dR, .seq itR qR, slR⟩)
    (yR : strsB itR.toList (Fx.resv.map mkS) = true)
    (nK : PySem.W.nsIn K mainGlobals "KINDS" = some (some (.ref aK)))
    {dK : Option Addr} {itK : Array Value} {qK : Nat} {slK : Array (Option Value)}
    (tK : K.lookup aK = some ⟨.type "tuple", dK, .seq itK qK, slK⟩)
    (yK : strsB itK.toList ([wAll, wSome].map mkS) = true)
    (pgL : PySem.W.plainGet K CL Str.empty = true)
    (hdL : PySem.W.hasDictIn K CL = true)
    (poL : PySem.W.plainOver K CL = true)
    (saL : PySem.W.findIn K (.ref CL) "__setattr__" = some (some (.builtin "object.__setattr__")))
    (mkL : PySem.W.makesIn K CL = true)
    (kcL : PySem.W.keepIn K (.ref CL) = true)
    (pgR : PySem.W.plainGet K CR Str.empty = true)
    (hdR : PySem.W.hasDictIn K CR = true)
    (poR : PySem.W.plainOver K CR = true)
    (saR : PySem.W.findIn K (.ref CR) "__setattr__" = some (some (.builtin "object.__setattr__")))
    (mkR : PySem.W.makesIn K CR = true)
    (kcR : PySem.W.keepIn K (.ref CR) = true)
    (nl_quantifiers : PySem.W.findIn K (.ref CL) "quantifiers" = some none)
    (nl_closes : PySem.W.findIn K (.ref CL) "closes" = some none)
    (nl_choices : PySem.W.findIn K (.ref CL) "choices" = some none)
    (nl_parts : PySem.W.findIn K (.ref CL) "parts" = some none)
    (nl_denials : PySem.W.findIn K (.ref CL) "denials" = some none)
    (nr_words : PySem.W.findIn K (.ref CR) "words" = some none)
    (nr_at : PySem.W.findIn K (.ref CR) "at" = some none)
    (nr_end : PySem.W.findIn K (.ref CR) "end" = some none)
    (nr_levels : PySem.W.findIn K (.ref CR) "levels" = some none)
    (nr_bound : PySem.W.findIn K (.ref CR) "bound" = some none)
    (wu : PySem.W.findIn K (.ref CU) "__init__" = some (some (.ref gu)))
    (wv : PySem.W.findIn K (.ref CL) "__init__" = some (some (.ref gv)))
    (wi : PySem.W.findIn K (.ref CR) "__init__" = some (some (.ref gi)))
    (ww_ : PySem.W.findIn K (.ref CR) "word" = some (some (.ref gw)))
    (wk_ : PySem.W.findIn K (.ref CR) "is_kind" = some (some (.ref gk)))
    (wc_ : PySem.W.findIn K (.ref CR) "check" = some (some (.ref gc)))
    (wt_ : PySem.W.findIn K (.ref CR) "taken" = some (some (.ref gt)))
    (wn_ : PySem.W.findIn K (.ref CR) "number" = some (some (.ref gn)))
    (we_ : PySem.W.findIn K (.ref CR) "term" = some (some (.ref ge)))
    (wp_ : PySem.W.findIn K (.ref CR) "comparison" = some (some (.ref gp)))
    (wl_ : PySem.W.findIn K (.ref CR) "left" = some (some (.ref gl)))
    (wd_ : PySem.W.findIn K (.ref CR) "closed" = some (some (.ref gd)))
    (wq_ : PySem.W.findIn K (.ref CR) "read_quantifiers" = some (some (.ref gq)))
    (wo_ : PySem.W.findIn K (.ref CR) "open_levels" = some (some (.ref go)))
    (wf_ : PySem.W.findIn K (.ref CR) "formula" = some (some (.ref gf)))
    {odu anu : Option Addr} {slu : Array (Option Value)} {ocu kVu dcu pmu cdu ctu : Value}
    (l_u : K.lookup gu = some ⟨ocu, odu, .func (PySem.W.fnOf "__init__" "BadText.__init__" (defArgs sBTInit) (defBody sBTInit) (defScope sBTInit) .none kVu dcu pmu anu cdu ctu), slu⟩)
    (c_u : PySem.W.codeIn K cdu "BadText.__init__" = true)
    (k_u : PySem.W.keepIn K (.ref gu) = true)
    {odv anv : Option Addr} {slv : Array (Option Value)} {ocv kVv dcv pmv cdv ctv : Value}
    (l_v : K.lookup gv = some ⟨ocv, odv, .func (PySem.W.fnOf "__init__" "FormulaLevel.__init__" (defArgs sLvInit) (defBody sLvInit) (defScope sLvInit) .none kVv dcv pmv anv cdv ctv), slv⟩)
    (c_v : PySem.W.codeIn K cdv "FormulaLevel.__init__" = true)
    (k_v : PySem.W.keepIn K (.ref gv) = true)
    (i_v : PySem.W.isFn K (.ref gv) = true)
    {odi ani : Option Addr} {sli : Array (Option Value)} {oci kVi dci pmi cdi cti : Value}
    (l_i : K.lookup gi = some ⟨oci, odi, .func (PySem.W.fnOf "__init__" "FormulaReader.__init__" (defArgs sRdInit) (defBody sRdInit) (defScope sRdInit) .none kVi dci pmi ani cdi cti), sli⟩)
    (c_i : PySem.W.codeIn K cdi "FormulaReader.__init__" = true)
    (k_i : PySem.W.keepIn K (.ref gi) = true)
    (i_i : PySem.W.isFn K (.ref gi) = true)
    {odw anw : Option Addr} {slw : Array (Option Value)} {ocw kVw dcw pmw cdw ctw : Value}
    (l_w : K.lookup gw = some ⟨ocw, odw, .func (PySem.W.fnOf "word" "FormulaReader.word" (defArgs sWord) (defBody sWord) (defScope sWord) .none kVw dcw pmw anw cdw ctw), slw⟩)
    (c_w : PySem.W.codeIn K cdw "FormulaReader.word" = true)
    (k_w : PySem.W.keepIn K (.ref gw) = true)
    (i_w : PySem.W.isFn K (.ref gw) = true)
    {odk ank : Option Addr} {slk : Array (Option Value)} {ock kVk dck pmk cdk ctk : Value}
    (l_k : K.lookup gk = some ⟨ock, odk, .func (PySem.W.fnOf "is_kind" "FormulaReader.is_kind" (defArgs sIsKind) (defBody sIsKind) (defScope sIsKind) .none kVk dck pmk ank cdk ctk), slk⟩)
    (c_k : PySem.W.codeIn K cdk "FormulaReader.is_kind" = true)
    (k_k : PySem.W.keepIn K (.ref gk) = true)
    (i_k : PySem.W.isFn K (.ref gk) = true)
    {odc anc : Option Addr} {slc : Array (Option Value)} {occ kVc dcc pmc cdc ctc : Value}
    (l_c : K.lookup gc = some ⟨occ, odc, .func (PySem.W.fnOf "check" "FormulaReader.check" (defArgs sCheck) (defBody sCheck) (defScope sCheck) .none kVc dcc pmc anc cdc ctc), slc⟩)
    (c_c : PySem.W.codeIn K cdc "FormulaReader.check" = true)
    (k_c : PySem.W.keepIn K (.ref gc) = true)
    (i_c : PySem.W.isFn K (.ref gc) = true)
    {odt ant : Option Addr} {slt : Array (Option Value)} {oct kVt dct pmt cdt ctt : Value}
    (l_t : K.lookup gt = some ⟨oct, odt, .func (PySem.W.fnOf "taken" "FormulaReader.taken" (defArgs sTaken) (defBody sTaken) (defScope sTaken) .none kVt dct pmt ant cdt ctt), slt⟩)
    (c_t : PySem.W.codeIn K cdt "FormulaReader.taken" = true)
    (k_t : PySem.W.keepIn K (.ref gt) = true)
    (i_t : PySem.W.isFn K (.ref gt) = true)
    {odn ann : Option Addr} {sln : Array (Option Value)} {ocn kVn dcn pmn cdn ctn : Value}
    (l_n : K.lookup gn = some ⟨ocn, odn, .func (PySem.W.fnOf "number" "FormulaReader.number" (defArgs sNumber) (defBody sNumber) (defScope sNumber) .none kVn dcn pmn ann cdn ctn), sln⟩)
    (c_n : PySem.W.codeIn K cdn "FormulaReader.number" = true)
    (k_n : PySem.W.keepIn K (.ref gn) = true)
    (i_n : PySem.W.isFn K (.ref gn) = true)
    {ode ane : Option Addr} {sle : Array (Option Value)} {oce kVe dce pme cde cte : Value}
    (l_e : K.lookup ge = some ⟨oce, ode, .func (PySem.W.fnOf "term" "FormulaReader.term" (defArgs sTerm) (defBody sTerm) (defScope sTerm) .none kVe dce pme ane cde cte), sle⟩)
    (c_e : PySem.W.codeIn K cde "FormulaReader.term" = true)
    (k_e : PySem.W.keepIn K (.ref ge) = true)
    (i_e : PySem.W.isFn K (.ref ge) = true)
    {odp anp : Option Addr} {slp : Array (Option Value)} {ocp kVp dcp pmp cdp ctp : Value}
    (l_p : K.lookup gp = some ⟨ocp, odp, .func (PySem.W.fnOf "comparison" "FormulaReader.comparison" (defArgs sCompar) (defBody sCompar) (defScope sCompar) .none kVp dcp pmp anp cdp ctp), slp⟩)
    (c_p : PySem.W.codeIn K cdp "FormulaReader.comparison" = true)
    (k_p : PySem.W.keepIn K (.ref gp) = true)
    (i_p : PySem.W.isFn K (.ref gp) = true)
    {odl anl : Option Addr} {sll : Array (Option Value)} {ocl kVl dcl pml cdl ctl : Value}
    (l_l : K.lookup gl = some ⟨ocl, odl, .func (PySem.W.fnOf "left" "FormulaReader.left" (defArgs sLeft) (defBody sLeft) (defScope sLeft) .none kVl dcl pml anl cdl ctl), sll⟩)
    (c_l : PySem.W.codeIn K cdl "FormulaReader.left" = true)
    (k_l : PySem.W.keepIn K (.ref gl) = true)
    (i_l : PySem.W.isFn K (.ref gl) = true)
    {odd and : Option Addr} {sld : Array (Option Value)} {ocd kVd dcd pmd cdd ctd : Value}
    (l_d : K.lookup gd = some ⟨ocd, odd, .func (PySem.W.fnOf "closed" "FormulaReader.closed" (defArgs sClosed) (defBody sClosed) (defScope sClosed) .none kVd dcd pmd and cdd ctd), sld⟩)
    (c_d : PySem.W.codeIn K cdd "FormulaReader.closed" = true)
    (k_d : PySem.W.keepIn K (.ref gd) = true)
    (i_d : PySem.W.isFn K (.ref gd) = true)
    {odq anq : Option Addr} {slq : Array (Option Value)} {ocq kVq dcq pmq cdq ctq : Value}
    (l_q : K.lookup gq = some ⟨ocq, odq, .func (PySem.W.fnOf "read_quantifiers" "FormulaReader.read_quantifiers" (defArgs sReadQ) (defBody sReadQ) (defScope sReadQ) .none kVq dcq pmq anq cdq ctq), slq⟩)
    (c_q : PySem.W.codeIn K cdq "FormulaReader.read_quantifiers" = true)
    (k_q : PySem.W.keepIn K (.ref gq) = true)
    (i_q : PySem.W.isFn K (.ref gq) = true)
    {odo ano : Option Addr} {slo : Array (Option Value)} {oco kVo dco pmo cdo cto : Value}
    (l_o : K.lookup go = some ⟨oco, odo, .func (PySem.W.fnOf "open_levels" "FormulaReader.open_levels" (defArgs sOpenL) (defBody sOpenL) (defScope sOpenL) .none kVo dco pmo ano cdo cto), slo⟩)
    (c_o : PySem.W.codeIn K cdo "FormulaReader.open_levels" = true)
    (k_o : PySem.W.keepIn K (.ref go) = true)
    (i_o : PySem.W.isFn K (.ref go) = true)
    {odf anf : Option Addr} {slf : Array (Option Value)} {ocf kVf dcf pmf cdf ctf : Value}
    (l_f : K.lookup gf = some ⟨ocf, odf, .func (PySem.W.fnOf "formula" "FormulaReader.formula" (defArgs sFormula) (defBody sFormula) (defScope sFormula) .none kVf dcf pmf anf cdf ctf), slf⟩)
    (c_f : PySem.W.codeIn K cdf "FormulaReader.formula" = true)
    (k_f : PySem.W.keepIn K (.ref gf) = true)
    (i_f : PySem.W.isFn K (.ref gf) = true)
    (tU : PySem.W.typeIn K (.ref gu) = some (.type "function"))
    {nmU qU : Str} {NU : Addr} {bsU bmU : List Value} {snU : List Str} {subU : List Value} {abU : Bool} {colU : Option Bool} {ddU : Option Addr} {k0U k1U k2U k3U k5U : Option Value}
    (lU : K.lookup CU = some (excClassObj nmU qU CU NU bsU bmU true snU subU abU colU ddU k0U k1U k2U k3U k5U "ValueError.__new__")) (hbm : PySem.HandSPX.refsVE bmU = true)
    (sU : PySem.W.findIn K (.ref CU) "__setattr__" = some (some (.builtin "object.__setattr__")))
    (eb : PySem.W.subIn K (.ref CU) (.type "BaseException") = some true)
    (et : PySem.W.typeIn K (.ref CU) = some (.type "type"))
    (ek : PySem.W.keepIn K (.ref CU) = true)
    (ei : PySem.W.isClsIn K CU = true)
    (es : PySem.W.subIn K (.ref CU) (.ref CU) = some true)
    (nU1 : PySem.W.findIn K (.ref CU) "line" = some none)
    (nU2 : PySem.W.findIn K (.ref CU) "column" = some none)
    (xg : PySem.W.findIn K (.ref CU) "__getattribute__" = some (some (.builtin "BaseException.__getattribute__")))
    (xa : PySem.W.findIn K (.ref CU) "__getattr__" = some none)
    (xd : PySem.W.hasDictIn K CU = true)
    (xc : PySem.W.findIn K (.ref CU) "__class__" = some (some (.builtin "object.__class__")))
    (xs : PySem.W.specialIn K (.builtin "object.__class__") "__get__" = some (some (.builtin "getset_descriptor.__get__")))
    (xt : PySem.W.takesIn K (.builtin "object.__class__") = some true)
    (xm : PySem.W.mroIn K CU (.type "object") = some true)
    (xo : PySem.W.kitOne K (.ref CU) (.ref CE) = some true)
    : ∃ fd : FuncData, (∀ (s : Shared) (v : Value), BindsTo s fd ⟨[v], []⟩ [("script", v)]) ∧ ∀ base : Heap, K.In base → base.Ns mainGlobals mg → FnOk l.prog w K mg base CX0 11 fa fd ["script"] (spLaw K) := by
  have e := hfa.symm.trans (PySem.W.mg_of X0 G aL)
  cases e
  have T : Blt mg := ⟨PySem.W.mg_none_of X0 G z_isi, PySem.W.mg_none_of X0 G z_int, PySem.W.mg_none_of X0 G z_bool, PySem.W.mg_none_of X0 G z_str, PySem.W.mg_none_of X0 G z_tuple, PySem.W.mg_none_of X0 G z_list, PySem.W.mg_none_of X0 G z_len, PySem.W.mg_none_of X0 G z_enum, PySem.W.mg_none_of X0 G z_range, PySem.W.mg_none_of X0 G z_all⟩
  have TF : BltF mg := ⟨PySem.W.mg_none_of X0 G z_abs⟩
  have Fu := fun_mk (st := sBTInit) l_u c_u k_u
  have bu := Fu.binds (ps := ["self", "line", "column"]) fun _ _ _ _ _ _ us hl => match us, hl with | [_, _, _], _ => rfl
  have Fv := fun_mk (st := sLvInit) l_v c_v k_v
  have bv := Fv.binds (ps := ["self", "quantifiers", "closes"]) fun _ _ _ _ _ _ us hl => match us, hl with | [_, _, _], _ => rfl
  have Fi := fun_mk (st := sRdInit) l_i c_i k_i
  have bi := Fi.binds (ps := ["self", "text"]) fun _ _ _ _ _ _ us hl => match us, hl with | [_, _], _ => rfl
  have Fw := fun_mk (st := sWord) l_w c_w k_w
  have bw := Fw.binds (ps := ["self"]) fun _ _ _ _ _ _ us hl => match us, hl with | [_], _ => rfl
  have Fk := fun_mk (st := sIsKind) l_k c_k k_k
  have bk := Fk.binds (ps := ["self", "kind"]) fun _ _ _ _ _ _ us hl => match us, hl with | [_, _], _ => rfl
  have Fc := fun_mk (st := sCheck) l_c c_c k_c
  have bc := Fc.binds (ps := ["self", "fits"]) fun _ _ _ _ _ _ us hl => match us, hl with | [_, _], _ => rfl
  have Ft := fun_mk (st := sTaken) l_t c_t k_t
  have bt := Ft.binds (ps := ["self", "fits"]) fun _ _ _ _ _ _ us hl => match us, hl with | [_, _], _ => rfl
  have Fn := fun_mk (st := sNumber) l_n c_n k_n
  have bn := Fn.binds (ps := ["self"]) fun _ _ _ _ _ _ us hl => match us, hl with | [_], _ => rfl
  have Fe := fun_mk (st := sTerm) l_e c_e k_e
  have be := Fe.binds (ps := ["self"]) fun _ _ _ _ _ _ us hl => match us, hl with | [_], _ => rfl
  have Fp := fun_mk (st := sCompar) l_p c_p k_p
  have bp := Fp.binds (ps := ["self"]) fun _ _ _ _ _ _ us hl => match us, hl with | [_], _ => rfl
  have Fl := fun_mk (st := sLeft) l_l c_l k_l
  have bl := Fl.binds (ps := ["self", "level", "formula"]) fun _ _ _ _ _ _ us hl => match us, hl with | [_, _, _], _ => rfl
  have Fd := fun_mk (st := sClosed) l_d c_d k_d
  have bd := Fd.binds (ps := ["self", "formula"]) fun _ _ _ _ _ _ us hl => match us, hl with | [_, _], _ => rfl
  have Fq := fun_mk (st := sReadQ) l_q c_q k_q
  have bq := Fq.binds (ps := ["self"]) fun _ _ _ _ _ _ us hl => match us, hl with | [_], _ => rfl
  have Fo := fun_mk (st := sOpenL) l_o c_o k_o
  have bo := Fo.binds (ps := ["self"]) fun _ _ _ _ _ _ us hl => match us, hl with | [_], _ => rfl
  have Ff := fun_mk (st := sFormula) l_f c_f k_f
  have bf := Ff.binds (ps := ["self"]) fun _ _ _ _ _ _ us hl => match us, hl with | [_], _ => rfl
  have MMw : Meth K CR "word" gw := ⟨ww_, i_w, k_w⟩
  have MMk : Meth K CR "is_kind" gk := ⟨wk_, i_k, k_k⟩
  have MMc : Meth K CR "check" gc := ⟨wc_, i_c, k_c⟩
  have MMt : Meth K CR "taken" gt := ⟨wt_, i_t, k_t⟩
  have MMn : Meth K CR "number" gn := ⟨wn_, i_n, k_n⟩
  have MMe : Meth K CR "term" ge := ⟨we_, i_e, k_e⟩
  have MMp : Meth K CR "comparison" gp := ⟨wp_, i_p, k_p⟩
  have MMl : Meth K CR "left" gl := ⟨wl_, i_l, k_l⟩
  have MMd : Meth K CR "closed" gd := ⟨wd_, i_d, k_d⟩
  have MMq : Meth K CR "read_quantifiers" gq := ⟨wq_, i_q, k_q⟩
  have MMo : Meth K CR "open_levels" go := ⟨wo_, i_o, k_o⟩
  have MMf : Meth K CR "formula" gf := ⟨wf_, i_f, k_f⟩
  have C : Cst K mg aO aR aK := ⟨⟨_, PySem.W.mg_of X0 G s1⟩, ⟨_, PySem.W.mg_of X0 G s2⟩, ⟨_, PySem.W.mg_of X0 G s3⟩, ⟨_, PySem.W.mg_of X0 G s4⟩, ⟨_, PySem.W.mg_of X0 G s5⟩, PySem.W.mg_of X0 G nO, tupW_mk tO yO (by decide), PySem.W.mg_of X0 G nR, tupW_mk tR yR (by decide), PySem.W.mg_of X0 G nK, tupW_mk tK yK (by decide)⟩
  have X : RCls K CR := ⟨⟨pgR, hdR, poR, saR⟩, nr_words, nr_at, nr_end, nr_levels, nr_bound⟩
  have MR : Mk K CR gi := ⟨mkR, wi, i_i, kcR⟩
  have Y : LCls K mg CL gv := ⟨⟨pgL, hdL, poL, saL⟩, nl_quantifiers, nl_closes, nl_choices, nl_parts, nl_denials, ⟨mkL, wv, i_v, kcL⟩, PySem.W.mg_of X0 G cV⟩
  have B : BTxt K mg CU gu := ⟨⟨⟨_, _, _, _, _, _, _, _, _, _, _, _, _, _, _, lU, hbm⟩, sU, eb, et, ek⟩, nU1, nU2, wu, tU, PySem.W.mg_of X0 G cB⟩
  have R : RefC K mg CU CE := ⟨⟨xg, xa, eb, xd⟩, ⟨xg, xa, eb, xd, xc, xs, xt, xm⟩, nU1, nU2, PySem.W.mg_of X0 G cB, PySem.W.mg_of X0 G cE, xo, err_self eb ei et es⟩
  have m1 := PySem.W.mg_of X0 G D1.ns
  have k1 := D1.fn.kp
  have b1 := D1.fn.binds (ps := ["text"]) fun _ _ _ _ _ _ us hl => match us, hl with | [_], _ => rfl
  have m2 := PySem.W.mg_of X0 G D2.ns
  have k2 := D2.fn.kp
  have b2 := D2.fn.binds (ps := ["word"]) fun _ _ _ _ _ _ us hl => match us, hl with | [_], _ => rfl
  have m3 := PySem.W.mg_of X0 G D3.ns
  have k3 := D3.fn.kp
  have b3 := D3.fn.binds (ps := ["text", "at"]) fun _ _ _ _ _ _ us hl => match us, hl with | [_, _], _ => rfl
  have m4 := PySem.W.mg_of X0 G D4.ns
  have k4 := D4.fn.kp
  have b4 := D4.fn.binds (ps := ["text", "at", "signs"]) fun _ _ _ _ _ _ us hl => match us, hl with | [_, _, _], _ => rfl
  have m5 := PySem.W.mg_of X0 G D5.ns
  have k5 := D5.fn.kp
  have b5 := D5.fn.binds (ps := ["word", "parts"]) fun _ _ _ _ _ _ us hl => match us, hl with | [_, _], _ => rfl
  have m6 := PySem.W.mg_of X0 G D6.ns
  have k6 := D6.fn.kp
  have b6 := D6.fn.binds (ps := ["text"]) fun _ _ _ _ _ _ us hl => match us, hl with | [_], _ => rfl
  have m7 := PySem.W.mg_of X0 G D7.ns
  have k7 := D7.fn.kp
  have b7 := D7.fn.binds (ps := ["formula"]) fun _ _ _ _ _ _ us hl => match us, hl with | [_], _ => rfl
  have m8 := PySem.W.mg_of X0 G D8.ns
  have k8 := D8.fn.kp
  have b8 := D8.fn.binds (ps := ["formula"]) fun _ _ _ _ _ _ us hl => match us, hl with | [_], _ => rfl
  have m9 := PySem.W.mg_of X0 G D9.ns
  have k9 := D9.fn.kp
  have b9 := D9.fn.binds (ps := ["formula"]) fun _ _ _ _ _ _ us hl => match us, hl with | [_], _ => rfl
  have m10 := PySem.W.mg_of X0 G D10.ns
  have k10 := D10.fn.kp
  have b10 := D10.fn.binds (ps := ["atom"]) fun _ _ _ _ _ _ us hl => match us, hl with | [_], _ => rfl
  have m11 := PySem.W.mg_of X0 G D11.ns
  have k11 := D11.fn.kp
  have b11 := D11.fn.binds (ps := ["formula"]) fun _ _ _ _ _ _ us hl => match us, hl with | [_], _ => rfl
  have m12 := PySem.W.mg_of X0 G D12.ns
  have k12 := D12.fn.kp
  have b12 := D12.fn.binds (ps := ["script", "at", "many"]) fun _ _ _ _ _ _ us hl => match us, hl with | [_, _, _], _ => rfl
  have m13 := PySem.W.mg_of X0 G D13.ns
  have k13 := D13.fn.kp
  have b13 := D13.fn.binds (ps := ["script", "at", "names"]) fun _ _ _ _ _ _ us hl => match us, hl with | [_, _, _], _ => rfl
  have m14 := PySem.W.mg_of X0 G D14.ns
  have k14 := D14.fn.kp
  have b14 := D14.fn.binds (ps := ["script", "at", "names"]) fun _ _ _ _ _ _ us hl => match us, hl with | [_, _, _], _ => rfl
  have m15 := PySem.W.mg_of X0 G D15.ns
  have k15 := D15.fn.kp
  have b15 := D15.fn.binds (ps := ["script", "at", "names", "fresh", "depth"]) fun _ _ _ _ _ _ us hl => match us, hl with | [_, _, _, _, _], _ => rfl
  have m16 := PySem.W.mg_of X0 G D16.ns
  have k16 := D16.fn.kp
  have b16 := D16.fn.binds (ps := ["atom"]) fun _ _ _ _ _ _ us hl => match us, hl with | [_], _ => rfl
  have m17 := PySem.W.mg_of X0 G D17.ns
  have k17 := D17.fn.kp
  have b17 := D17.fn.binds (ps := ["tree", "inside"]) fun _ _ _ _ _ _ us hl => match us, hl with | [_, _], _ => rfl
  have m18 := PySem.W.mg_of X0 G D18.ns
  have k18 := D18.fn.kp
  have b18 := D18.fn.binds (ps := ["tree", "bound"]) fun _ _ _ _ _ _ us hl => match us, hl with | [_, _], _ => rfl
  have m19 := PySem.W.mg_of X0 G D19.ns
  have k19 := D19.fn.kp
  have b19 := D19.fn.binds (ps := ["text", "column"]) fun _ _ _ _ _ _ us hl => match us, hl with | [_, _], _ => rfl
  have m20 := PySem.W.mg_of X0 G D20.ns
  have k20 := D20.fn.kp
  have b20 := D20.fn.binds (ps := ["turn"]) fun _ _ _ _ _ _ us hl => match us, hl with | [_], _ => rfl
  refine ⟨PySem.W.fnOf "law" "law" (defArgs sLaw) (defBody sLaw) (defScope sLaw) .none kV dc pm an cd ct, fun s v => .of_eq rfl, fun base _ _ => ?_⟩
  have Hu : FnOk l.prog w K mg base CX0 1 gu _ ["self", "line", "column"] (spBTInit K) := ok_btinit Fu
  have G4 : FnOk l.prog w K mg base CX0 1 f4 fd4 ["text", "at", "signs"] spEndRun := ok_endrun D4.fn T
  have G2 : FnOk l.prog w K mg base CX0 1 f2 fd2 ["word"] spIsWN := ok_iswn D2.fn T C
  have G3 : FnOk l.prog w K mg base (L2.CX l.prog w) 3 f3 fd3 ["text", "at"] (spWordAt CU) := ok_wordat D3.fn T C B Hu bu G4 k4 b4 m4
  have G1 : FnOk l.prog w K mg base (L2.CX l.prog w) 4 f1 fd1 ["text"] (spWordsOf CU) := ok_wordsof D1.fn T G3 k3 b3 m3
  have Hw : FnOk l.prog w K mg base CX0 1 gw _ ["self"] (spWord CR) := ok_word Fw T X
  have Hk : FnOk l.prog w K mg base CX0 1 gk _ ["self", "kind"] (spIsKind CR) := ok_iskind Fk T X
  have Hc : FnOk l.prog w K mg base (L2.CX l.prog w) 3 gc _ ["self", "fits"] (spCheck CR CU) := ok_check Fc T X B Hu bu
  have Ht : FnOk l.prog w K mg base (L2.CX l.prog w) 4 gt _ ["self", "fits"] (spTaken CR CU) := ok_taken Ft X Hc bc MMc Hw bw MMw
  have Hn : FnOk l.prog w K mg base (L2.CX l.prog w) 5 gn _ ["self"] (spNumber CR CU) := ok_number Fn T C X Ht bt MMt Hw bw MMw Hk bk MMk
  have He : FnOk l.prog w K mg base (L2.CX l.prog w) 6 ge _ ["self"] (spTerm CR CU) := ok_term Fe C X Hn bn MMn Ht bt MMt Hw bw MMw Hk bk MMk G2 k2 b2 m2
  have Hp : FnOk l.prog w K mg base (L2.CX l.prog w) 7 gp _ ["self"] (spCompar CR CU) := ok_compar Fp C X He be MMe Ht bt MMt Hw bw MMw
  have G5 : FnOk l.prog w K mg base CX0 1 f5 fd5 ["word", "parts"] spRow := ok_row D5.fn T
  have Hv : FnOk l.prog w K mg base CX0 1 gv _ ["self", "quantifiers", "closes"] (spLvInit CL) := ok_lvinit Fv Y
  have Hl : FnOk l.prog w K mg base (L2.CX l.prog w) 5 gl _ ["self", "level", "formula"] (spLeft CR CL CU) := ok_left Fl T X Y Ht bt MMt Hc bc MMc Hw bw MMw
  have Hd : FnOk l.prog w K mg base (L2.CX l.prog w) 6 gd _ ["self", "formula"] (spClosed CR CL CU) := ok_closed Fd T X Y Ht bt MMt Hw bw MMw G5 k5 b5 m5 Hl bl MMl
  have Hq : FnOk l.prog w K mg base (L2.CX l.prog w) 5 gq _ ["self"] (spReadQ CR CL CU) := ok_readq Fq C X Ht bt MMt Hw bw MMw Hk bk MMk G2 k2 b2 m2
  have Ho : FnOk l.prog w K mg base (L2.CX l.prog w) 6 go _ ["self"] (spOpenL CR CL CU) := ok_openl Fo C X Y Hv bv Hq bq MMq Hw bw MMw
  have Hf : FnOk l.prog w K mg base (L2.CX l.prog w) 8 gf _ ["self"] (spFormula CR CL CU) := ok_formula Ff X Ho bo MMo Hp bp MMp Hd bd MMd
  have Hi : FnOk l.prog w K mg base (L2.CX l.prog w) 5 gi _ ["self", "text"] (spRdInit CR CL CU) := ok_rdinit Fi T X Y G1 k1 b1 m1 Hv bv
  have G6 : FnOk l.prog w K mg base (L2.CX l.prog w) 9 f6 fd6 ["text"] (spReadF CU) := ok_readf D6.fn X MR (PySem.W.mg_of X0 G cR) Hi bi Hf bf MMf
  have G10 : FnOk l.prog w K mg base CX0 1 f10 fd10 ["atom"] (spTermT K) := ok_termt D10.fn T
  have G9 : FnOk l.prog w K mg base CX0 1 f9 fd9 ["formula"] spEnclosed := ok_enclosed D9.fn
  have G8 : FnOk l.prog w K mg base CX0 2 f8 fd8 ["formula"] spWritten := ok_written D8.fn C G10 k10 b10 m10 G9 k9 b9 m9
  have G7 : FnOk l.prog w K mg base CX0 3 f7 fd7 ["formula"] spWriteF := ok_writef D7.fn T G8 k8 b8 m8
  have G11 : FnOk l.prog w K mg base CX0 1 f11 fd11 ["formula"] spFree := ok_free D11.fn T C
  have G12 : FnOk l.prog w K mg base CX0 1 f12 fd12 ["script", "at", "many"] (spDraw K) := ok_draw D12.fn T
  have G13 : FnOk l.prog w K mg base CX0 2 f13 fd13 ["script", "at", "names"] (spAtomL K) := ok_latom D13.fn T G12 k12 b12 m12
  have G14 : FnOk l.prog w K mg base CX0 3 f14 fd14 ["script", "at", "names"] (spCompL K) := ok_lcomp D14.fn G12 k12 b12 m12 G13 k13 b13 m13
  have G15 : FnOk l.prog w K mg base CX0 8 f15 fd15 ["script", "at", "names", "fresh", "depth"] (spTreeA K) := ok_ltreeA (ok_ltree D15.fn T G12 k12 b12 m12 G14 k14 b14 m14 k15 b15 m15)
  have G16 : FnOk l.prog w K mg base CX0 1 f16 fd16 ["atom"] (spTermT K) := ok_ltextof D16.fn T TF
  have G17 : FnOk l.prog w K mg base CX0 6 f17 fd17 ["tree", "inside"] (spLText K 4) := ok_ltext D17.fn T G16 k16 b16 m16 k17 b17 m17 5 (by decide)
  have G18 : FnOk l.prog w K mg base CX0 6 f18 fd18 ["tree", "bound"] (spLFree K 4) := ok_lfree D18.fn k18 b18 m18 5
  have G20 : FnOk l.prog w K mg base CX0 1 f20 fd20 ["turn"] spKnown := ok_lknown D20.fn T
  have G19 : FnOk l.prog w K mg base CX0 10 f19 fd19 ["text", "column"] spRefused := ok_lrefused D19.fn T R G6 k6 b6 m6
  exact ok_law (fun_mk (st := sLaw) lL cL kL) T G12 k12 b12 m12 G15 k15 b15 m15 G7 k7 b7 m7 G17 k17 b17 m17 G6 k6 b6 m6 G18 k18 b18 m18 G11 k11 b11 m11 G19 k19 b19 m19 G20 k20 b20 m20
end Lo
open PySem PySem.W PyProof.Rows
set_option maxHeartbeats 0 in
theorem PySem.Challenge.cw_loopsheds_k12_formula_texts_holds : PySem.Challenge.rw_loopsheds_k12_formula_texts.Holds := by
  w_on; o_law; k_head; (case hw => w_witness2)
  k_fill
  refine L2.walk_of (l := PySem.Challenge.rw_loopsheds_k12_formula_texts) (n := 63) (k := 11) (x := "script") (CX := fun _ => L2.CX0) (sp := fun w => Lo.spLaw _) rfl (by decide) rfl ⟨rfl, by decide, by decide⟩ (fun w h Y => PySem.W.kIn_of Y) ?F (fun _ _ a ns hl _ hS => ⟨a, rfl, ⟨ns, hS, hl⟩, fun _ => rfl⟩) (fun _ _ _ _ _ h => h)
  case F =>
    intro w mg fa h KX G hmg
    refine' Lo.all_mk KX G hmg (Lo.df_mk ?a1 ?l1 ?c1 ?k1) (Lo.df_mk ?a2 ?l2 ?c2 ?k2) (Lo.df_mk ?a3 ?l3 ?c3 ?k3) (Lo.df_mk ?a4 ?l4 ?c4 ?k4) (Lo.df_mk ?a5 ?l5 ?c5 ?k5) (Lo.df_mk ?a6 ?l6 ?c6 ?k6) (Lo.df_mk ?a7 ?l7 ?c7 ?k7) (Lo.df_mk ?a8 ?l8 ?c8 ?k8) (Lo.df_mk ?a9 ?l9 ?c9 ?k9) (Lo.df_mk ?a10 ?l10 ?c10 ?k10) (Lo.df_mk ?a11 ?l11 ?c11 ?k11) (Lo.df_mk ?a12 ?l12 ?c12 ?k12) (Lo.df_mk ?a13 ?l13 ?c13 ?k13) (Lo.df_mk ?a14 ?l14 ?c14 ?k14) (Lo.df_mk ?a15 ?l15 ?c15 ?k15) (Lo.df_mk ?a16 ?l16 ?c16 ?k16) (Lo.df_mk ?a17 ?l17 ?c17 ?k17) (Lo.df_mk ?a18 ?l18 ?c18 ?k18) (Lo.df_mk ?a19 ?l19 ?c19 ?k19) (Lo.df_mk ?a20 ?l20 ?c20 ?k20) ?aL ?lL ?cL ?kL ?z_isi ?z_int ?z_bool ?z_str ?z_tuple ?z_list ?z_len ?z_enum ?z_range ?z_all ?z_abs ?cB ?cE ?cV ?cR ?s1 ?s2 ?s3 ?s4 ?s5 ?nO ?tO ?yO ?nR ?tR ?yR ?nK ?tK ?yK ?pgL ?hdL ?poL ?saL ?mkL ?kcL ?pgR ?hdR ?poR ?saR ?mkR ?kcR ?nl_quantifiers ?nl_closes ?nl_choices ?nl_parts ?nl_denials ?nr_words ?nr_at ?nr_end ?nr_levels ?nr_bound ?wu ?wv ?wi ?ww_ ?wk_ ?wc_ ?wt_ ?wn_ ?we_ ?wp_ ?wl_ ?wd_ ?wq_ ?wo_ ?wf_ ?l_u ?c_u ?k_u ?l_v ?c_v ?k_v ?i_v ?l_i ?c_i ?k_i ?i_i ?l_w ?c_w ?k_w ?i_w ?l_k ?c_k ?k_k ?i_k ?l_c ?c_c ?k_c ?i_c ?l_t ?c_t ?k_t ?i_t ?l_n ?c_n ?k_n ?i_n ?l_e ?c_e ?k_e ?i_e ?l_p ?c_p ?k_p ?i_p ?l_l ?c_l ?k_l ?i_l ?l_d ?c_d ?k_d ?i_d ?l_q ?c_q ?k_q ?i_q ?l_o ?c_o ?k_o ?i_o ?l_f ?c_f ?k_f ?i_f ?tU ?lU ?hbm ?sU ?eb ?et ?ek ?ei ?es ?nU1 ?nU2 ?xg ?xa ?xd ?xc ?xs ?xt ?xm ?xo
    (case a1 => k_is)
    (case l1 => k_is)
    (case c1 => k_is)
    (case k1 => k_is)
    (case a2 => k_is)
    (case l2 => k_is)
    (case c2 => k_is)
    (case k2 => k_is)
    (case a3 => k_is)
    (case l3 => k_is)
    (case c3 => k_is)
    (case k3 => k_is)
    (case a4 => k_is)
    (case l4 => k_is)
    (case c4 => k_is)
    (case k4 => k_is)
    (case a5 => k_is)
    (case l5 => k_is)
    (case c5 => k_is)
    (case k5 => k_is)
    (case a6 => k_is)
    (case l6 => k_is)
    (case c6 => k_is)
    (case k6 => k_is)
    (case a7 => k_is)
    (case l7 => k_is)
    (case c7 => k_is)
    (case k7 => k_is)
    (case a8 => k_is)
    (case l8 => k_is)
    (case c8 => k_is)
    (case k8 => k_is)
    (case a9 => k_is)
    (case l9 => k_is)
    (case c9 => k_is)
    (case k9 => k_is)
    (case a10 => k_is)
    (case l10 => k_is)
    (case c10 => k_is)
    (case k10 => k_is)
    (case a11 => k_is)
    (case l11 => k_is)
    (case c11 => k_is)
    (case k11 => k_is)
    (case a12 => k_is)
    (case l12 => k_is)
    (case c12 => k_is)
    (case k12 => k_is)
    (case a13 => k_is)
    (case l13 => k_is)
    (case c13 => k_is)
    (case k13 => k_is)
    (case a14 => k_is)
    (case l14 => k_is)
    (case c14 => k_is)
    (case k14 => k_is)
    (case a15 => k_is)
    (case l15 => k_is)
    (case c15 => k_is)
    (case k15 => k_is)
    (case a16 => k_is)
    (case l16 => k_is)
    (case c16 => k_is)
    (case k16 => k_is)
    (case a17 => k_is)
    (case l17 => k_is)
    (case c17 => k_is)
    (case k17 => k_is)
    (case a18 => k_is)
    (case l18 => k_is)
    (case c18 => k_is)
    (case k18 => k_is)
    (case a19 => k_is)
    (case l19 => k_is)
    (case c19 => k_is)
    (case k19 => k_is)
    (case a20 => k_is)
    (case l20 => k_is)
    (case c20 => k_is)
    (case k20 => k_is)
    (case aL => k_is)
    (case lL => k_is)
    (case cL => k_is)
    (case kL => k_is)
    (case z_isi => k_is)
    (case z_int => k_is)
    (case z_bool => k_is)
    (case z_str => k_is)
    (case z_tuple => k_is)
    (case z_list => k_is)
    (case z_len => k_is)
    (case z_enum => k_is)
    (case z_range => k_is)
    (case z_all => k_is)
    (case z_abs => k_is)
    (case cB => k_is)
    (case cE => k_is)
    (case cV => k_is)
    (case cR => k_is)
    (case s1 => k_is)
    (case s2 => k_is)
    (case s3 => k_is)
    (case s4 => k_is)
    (case s5 => k_is)
    (case nO => k_is)
    (case tO => k_is)
    (case yO => first | rfl | decide +kernel | decide)
    (case nR => k_is)
    (case tR => k_is)
    (case yR => first | rfl | decide +kernel | decide)
    (case nK => k_is)
    (case tK => k_is)
    (case yK => first | rfl | decide +kernel | decide)
    (case pgL => k_is)
    (case hdL => k_is)
    (case poL => k_is)
    (case saL => k_is)
    (case mkL => k_is)
    (case kcL => k_is)
    (case pgR => k_is)
    (case hdR => k_is)
    (case poR => k_is)
    (case saR => k_is)
    (case mkR => k_is)
    (case kcR => k_is)
    (case nl_quantifiers => k_is)
    (case nl_closes => k_is)
    (case nl_choices => k_is)
    (case nl_parts => k_is)
    (case nl_denials => k_is)
    (case nr_words => k_is)
    (case nr_at => k_is)
    (case nr_end => k_is)
    (case nr_levels => k_is)
    (case nr_bound => k_is)
    (case wu => k_is)
    (case wv => k_is)
    (case wi => k_is)
    (case ww_ => k_is)
    (case wk_ => k_is)
    (case wc_ => k_is)
    (case wt_ => k_is)
    (case wn_ => k_is)
    (case we_ => k_is)
    (case wp_ => k_is)
    (case wl_ => k_is)
    (case wd_ => k_is)
    (case wq_ => k_is)
    (case wo_ => k_is)
    (case wf_ => k_is)
    (case l_u => k_is)
    (case c_u => k_is)
    (case k_u => k_is)
    (case l_v => k_is)
    (case c_v => k_is)
    (case k_v => k_is)
    (case i_v => k_is)
    (case l_i => k_is)
    (case c_i => k_is)
    (case k_i => k_is)
    (case i_i => k_is)
    (case l_w => k_is)
    (case c_w => k_is)
    (case k_w => k_is)
    (case i_w => k_is)
    (case l_k => k_is)
    (case c_k => k_is)
    (case k_k => k_is)
    (case i_k => k_is)
    (case l_c => k_is)
    (case c_c => k_is)
    (case k_c => k_is)
    (case i_c => k_is)
    (case l_t => k_is)
    (case c_t => k_is)
    (case k_t => k_is)
    (case i_t => k_is)
    (case l_n => k_is)
    (case c_n => k_is)
    (case k_n => k_is)
    (case i_n => k_is)
    (case l_e => k_is)
    (case c_e => k_is)
    (case k_e => k_is)
    (case i_e => k_is)
    (case l_p => k_is)
    (case c_p => k_is)
    (case k_p => k_is)
    (case i_p => k_is)
    (case l_l => k_is)
    (case c_l => k_is)
    (case k_l => k_is)
    (case i_l => k_is)
    (case l_d => k_is)
    (case c_d => k_is)
    (case k_d => k_is)
    (case i_d => k_is)
    (case l_q => k_is)
    (case c_q => k_is)
    (case k_q => k_is)
    (case i_q => k_is)
    (case l_o => k_is)
    (case c_o => k_is)
    (case k_o => k_is)
    (case i_o => k_is)
    (case l_f => k_is)
    (case c_f => k_is)
    (case k_f => k_is)
    (case i_f => k_is)
    (case tU => k_is)
    (case lU => k_is)
    (case hbm => first | rfl | decide)
    (case sU => k_is)
    (case eb => k_is)
    (case et => k_is)
    (case ek => k_is)
    (case ei => k_is)
    (case es => first | rfl | k_is)
    (case nU1 => k_is)
    (case nU2 => k_is)
    (case xg => k_is)
    (case xa => k_is)
    (case xd => k_is)
    (case xc => k_is)
    (case xs => k_is)
    (case xt => k_is)
    (case xm => k_is)
    (case xo => first | kit_is | k_is | rfl)
