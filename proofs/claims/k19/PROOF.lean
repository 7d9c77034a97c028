import PyProof.Rows.All
import Wide.All
import OpenK.AllK
import Wide.FinOn
import HandS.ForMost
import HandS.Walk
import HandS.DictTup
import HandS.DictComp
import HandS.TupLen
import KE.KDictKeyed
import KE.SortData
import HandS.SlotsOwn
import HandS.ListEq
import HandS.DeepEq
import HandS.IsInst
import HandS.More
import HandS.NoneIn
import HandS.SetKeys
import HandS.TupAny
import HandS.Wide
import KE.DataMinMax
import KE.KDictList
import KE.KDictPairs
import HandS.SortKw
import HandS.Gcd
import HandS.Star
import HandS.ClsMeth
import HandS.Defaults
import HandS.Codes
import HandS.Small
import HandS.Property
import KE.KEqSeq
import HandS.Conv
import HandS.Zip
import KE.GoesEnum
import HandS.HeadHook2
import PySem.Challenge.RW_loopsheds_k19_power_sums
set_option Elab.async false
set_option linter.all false
set_option maxRecDepth 100000
/-! polynomials as lists of monomials: values at points, and why two of the one form with the same values are one -/
namespace Po
open PySem
abbrev Mo := List (Str × Int)
def worth (u : Str → Int) : Mo → Int
  | [] => 1
  | p :: m => u p.1 ^ p.2.toNat * worth u m
def ev (u : Str → Int) : List (Mo × Int) → Int
  | [] => 0
  | p :: T => p.2 * worth u p.1 + ev u T
def expo (x : Str) : Mo → Int
  | [] => 0
  | p :: m => if p.1 = x then p.2 else expo x m
def lo (x : Str) (m : Mo) : Mo := m.filter fun p => decide (p.1 ≠ x)
def slt (x y : Str) : Prop := x.cps.toList < y.cps.toList
theorem slt_irrefl (x : Str) : ¬ slt x x := List.lt_irrefl _
theorem slt_trans {x y z : Str} (a : slt x y) (b : slt y z) : slt x z := List.lt_trans a b
theorem slt_ne {x y : Str} (a : slt x y) : x ≠ y := fun e => slt_irrefl y (e ▸ a)
structure Good (m : Mo) : Prop where
  srt : m.Pairwise fun p q => slt p.1 q.1
  pos : ∀ p ∈ m, 1 ≤ p.2
theorem Good.nil : Good [] := ⟨.nil, fun p h => nomatch h⟩
theorem Good.tail {p : Str × Int} {m : Mo} (g : Good (p :: m)) : Good m := ⟨(List.pairwise_cons.mp g.srt).2, fun q h => g.pos q (List.mem_cons_of_mem _ h)⟩
theorem Good.one {x : Str} {k : Int} (h : 1 ≤ k) : Good [(x, k)] := ⟨List.pairwise_singleton _ _, fun p hp => by rw [List.mem_singleton.mp hp]; exact h⟩
theorem Good.lo {x : Str} {m : Mo} (g : Good m) : Good (lo x m) := ⟨g.srt.filter _, fun p h => g.pos p (List.mem_filter.mp h).1⟩
theorem mem_lo {x : Str} {m : Mo} {p : Str × Int} : p ∈ lo x m ↔ p ∈ m ∧ p.1 ≠ x := by
  unfold lo
  rw [List.mem_filter]
  simp
theorem expo_none {x : Str} {m : Mo} (h : ∀ p ∈ m, p.1 ≠ x) : expo x m = 0 := by
  induction m with
  | nil => rfl
  | cons p m ih =>
    unfold expo
    rw [if_neg (h p List.mem_cons_self)]
    exact ih fun q hq => h q (List.mem_cons_of_mem _ hq)
theorem lo_none {x : Str} {m : Mo} (h : ∀ p ∈ m, p.1 ≠ x) : lo x m = m := List.filter_eq_self.mpr fun p hp => by simpa using h p hp
theorem expo_nonneg {x : Str} {m : Mo} (g : Good m) : 0 ≤ expo x m := by
  induction m with
  | nil => exact Int.le_refl _
  | cons p m ih =>
    unfold expo
    split
    · have := g.pos p List.mem_cons_self
      omega
    · exact ih g.tail
theorem expo_le {x : Str} {m : Mo} {D : Int} (h0 : 0 ≤ D) (h : ∀ p ∈ m, p.2 ≤ D) : expo x m ≤ D := by
  induction m with
  | nil => exact h0
  | cons p m ih =>
    unfold expo
    split
    · exact h p List.mem_cons_self
    · exact ih fun q hq => h q (List.mem_cons_of_mem _ hq)
theorem head_not {p : Str × Int} {m : Mo} (g : Good (p :: m)) : ∀ q ∈ m, q.1 ≠ p.1 := fun q hq e => slt_ne ((List.pairwise_cons.mp g.srt).1 q hq) e.symm
theorem worth_lo (u : Str → Int) (x : Str) {m : Mo} (g : Good m) : worth u m = u x ^ (expo x m).toNat * worth u (lo x m) := by
  induction m with
  | nil => simp [worth, expo, lo]
  | cons p m ih =>
    by_cases e : p.1 = x
    · subst e
      have n := head_not g
      have e1 : expo p.1 (p :: m) = p.2 := by unfold expo; rw [if_pos rfl]
      have e2 : lo p.1 (p :: m) = m := by
        unfold lo
        rw [List.filter_cons]
        simp only [ne_eq, not_true_eq_false, decide_false, Bool.false_eq_true, if_false]
        exact lo_none n
      rw [e1, e2]
      rfl
    · have e1 : expo x (p :: m) = expo x m := by conv => lhs; unfold expo; rw [if_neg e]
      have e2 : lo x (p :: m) = p :: lo x m := by
        unfold lo
        rw [List.filter_cons]
        simp [e]
      rw [e1, e2]
      unfold worth
      rw [ih g.tail]
      grind
theorem worth_congr {u v : Str → Int} {m : Mo} (h : ∀ p ∈ m, u p.1 = v p.1) : worth u m = worth v m := by
  induction m with
  | nil => rfl
  | cons p m ih =>
    unfold worth
    rw [h p List.mem_cons_self, ih fun q hq => h q (List.mem_cons_of_mem _ hq)]
theorem ev_congr {u v : Str → Int} {T : List (Mo × Int)} (h : ∀ t ∈ T, ∀ p ∈ t.1, u p.1 = v p.1) : ev u T = ev v T := by
  induction T with
  | nil => rfl
  | cons t T ih =>
    unfold ev
    rw [worth_congr (h t List.mem_cons_self), ih fun q hq => h q (List.mem_cons_of_mem _ hq)]
theorem ev_app (u : Str → Int) (S T : List (Mo × Int)) : ev u (S ++ T) = ev u S + ev u T := by
  induction S with
  | nil => simp [ev]
  | cons t S ih =>
    show t.2 * worth u t.1 + ev u (S ++ T) = t.2 * worth u t.1 + ev u S + ev u T
    rw [ih]
    omega
theorem ev_perm {u : Str → Int} {S T : List (Mo × Int)} (h : S.Perm T) : ev u S = ev u T := by
  induction h with
  | nil => rfl
  | cons t _ ih => unfold ev; rw [ih]
  | swap a b l => unfold ev; unfold ev; omega
  | trans _ _ a b => exact a.trans b
/-! ### the parts by the powers of a name -/
/-- F 0 + B F 1 + .. + B^(K-1) F (K-1) -/
def hor (B : Int) : Nat → (Nat → Int) → Int
  | 0, _ => 0
  | K + 1, F => F 0 + B * hor B K fun k => F (k + 1)
theorem hor_add (B : Int) : ∀ (K : Nat) (F G : Nat → Int), hor B K (fun k => F k + G k) = hor B K F + hor B K G
  | 0, _, _ => rfl
  | K + 1, F, G => by
    unfold hor
    rw [hor_add B K (fun k => F (k + 1)) (fun k => G (k + 1))]
    grind
theorem hor_zero (B : Int) : ∀ (K : Nat), hor B K (fun _ => 0) = 0
  | 0 => rfl
  | K + 1 => by unfold hor; rw [hor_zero B K]; simp
theorem hor_one (B c : Int) : ∀ (K k : Nat), k < K → hor B K (fun j => if j = k then c else 0) = B ^ k * c
  | 0, _, h => absurd h (Nat.not_lt_zero _)
  | K + 1, 0, _ => by
    unfold hor
    have : (fun k : Nat => if k + 1 = 0 then c else 0) = fun _ => 0 := by funext k; simp
    rw [this, hor_zero]
    simp
  | K + 1, k + 1, h => by
    unfold hor
    have : (fun j : Nat => if j + 1 = k + 1 then c else 0) = fun j => if j = k then c else 0 := by funext j; simp
    rw [this, hor_one B c K k (Nat.lt_of_succ_lt_succ h)]
    simp only [show ¬ (0 = k + 1) by omega, if_false]
    grind
/-- a power sum that is 0 wherever it is asked has no part -/
theorem hor_none : ∀ (K : Nat) (F : Nat → Int), (∀ B : Int, 1 ≤ B → hor B K F = 0) → ∀ k, k < K → F k = 0
  | 0, _, _, k, h => absurd h (Nat.not_lt_zero _)
  | K + 1, F, h, k, hk => by
    have d : ∀ B : Int, 1 ≤ B → F 0 = B * -(hor B K fun k => F (k + 1)) := fun B hB => by
      have := h B hB
      unfold hor at this
      grind
    have z : F 0 = 0 := by
      have q := d ((F 0).natAbs + 1) (by omega)
      have dv : ((F 0).natAbs + 1 : Int) ∣ F 0 := ⟨_, q⟩
      by_cases c : F 0 = 0
      · exact c
      · have := Int.natAbs_dvd_natAbs.mpr dv
        have := Nat.le_of_dvd (by omega) this
        omega
    cases k with
    | zero => exact z
    | succ k =>
      refine hor_none K (fun k => F (k + 1)) (fun B hB => ?_) k (by omega)
      have q := d B hB
      rw [z] at q
      rcases Int.mul_eq_zero.mp q.symm with e | e
      · omega
      · omega
/-- the terms with the power k of x, without it -/
def part (x : Str) (k : Int) (T : List (Mo × Int)) : List (Mo × Int) := (T.filter fun t => decide (expo x t.1 = k)).map fun t => (lo x t.1, t.2)
theorem part_cons (x : Str) (k : Int) (t : Mo × Int) (T : List (Mo × Int)) : part x k (t :: T) = if expo x t.1 = k then (lo x t.1, t.2) :: part x k T else part x k T := by
  unfold part
  rw [List.filter_cons]
  by_cases h : expo x t.1 = k <;> simp [h]
theorem ev_part (u : Str → Int) (x : Str) (K : Nat) : ∀ {T : List (Mo × Int)}, (∀ t ∈ T, Good t.1 ∧ expo x t.1 < K) → ev u T = hor (u x) K fun k => ev u (part x k T)
  | [], _ => by
    have : (fun k : Nat => ev u (part x k [])) = fun _ => 0 := by funext k; rfl
    rw [this, hor_zero]
    rfl
  | t :: T, h => by
    obtain ⟨g, l⟩ := h t List.mem_cons_self
    have e0 := expo_nonneg (x := x) g
    obtain ⟨k, ek⟩ : ∃ k : Nat, expo x t.1 = k := ⟨(expo x t.1).toNat, by omega⟩
    have key : (fun j : Nat => ev u (part x j (t :: T))) = fun j => (if j = k then t.2 * worth u (lo x t.1) else 0) + ev u (part x j T) := by
      funext j
      rw [part_cons, ek]
      by_cases c : j = k
      · rw [if_pos (by rw [c]), if_pos c]
        rfl
      · rw [if_neg (by omega), if_neg c, Int.zero_add]
    rw [key, hor_add, hor_one _ _ _ _ (by omega), ← ev_part u x K fun t' ht => h t' (List.mem_cons_of_mem _ ht)]
    show t.2 * worth u t.1 + ev u T = _
    rw [worth_lo u x g, ek]
    simp only [Int.toNat_natCast]
    grind
/-! ### the coefficients -/
def co (m : Mo) : List (Mo × Int) → Int
  | [] => 0
  | t :: T => (if t.1 = m then t.2 else 0) + co m T
theorem co_none {m : Mo} {T : List (Mo × Int)} (h : ∀ t ∈ T, t.1 ≠ m) : co m T = 0 := by
  induction T with
  | nil => rfl
  | cons t T ih =>
    unfold co
    rw [if_neg (h t List.mem_cons_self), ih fun q hq => h q (List.mem_cons_of_mem _ hq)]
    rfl
theorem sorted_mem_eq : ∀ {a b : Mo}, a.Pairwise (fun p q => slt p.1 q.1) → b.Pairwise (fun p q => slt p.1 q.1) → (∀ p, p ∈ a ↔ p ∈ b) → a = b
  | [], [], _, _, _ => rfl
  | [], q :: b, _, _, h => nomatch (h q).mpr List.mem_cons_self
  | p :: a, [], _, _, h => nomatch (h p).mp List.mem_cons_self
  | p :: a, q :: b, ha, hb, h => by
    obtain ⟨a1, a2⟩ := List.pairwise_cons.mp ha
    obtain ⟨b1, b2⟩ := List.pairwise_cons.mp hb
    have e : p = q := by
      rcases List.mem_cons.mp ((h p).mp List.mem_cons_self) with e | e
      · exact e
      · rcases List.mem_cons.mp ((h q).mpr List.mem_cons_self) with f | f
        · exact f.symm
        · exact absurd (slt_trans (b1 p e) (a1 q f)) (slt_irrefl _)
    subst e
    refine congrArg _ (sorted_mem_eq a2 b2 fun r => ⟨fun hr => ?_, fun hr => ?_⟩)
    · rcases List.mem_cons.mp ((h r).mp (List.mem_cons_of_mem _ hr)) with f | f
      · exact absurd (f ▸ a1 r hr) (slt_irrefl _)
      · exact f
    · rcases List.mem_cons.mp ((h r).mpr (List.mem_cons_of_mem _ hr)) with f | f
      · exact absurd (f ▸ b1 r hr) (slt_irrefl _)
      · exact f
theorem mem_expo {x : Str} {m : Mo} {k : Int} (g : Good m) : (x, k) ∈ m ↔ expo x m = k ∧ 1 ≤ k := by
  induction m with
  | nil =>
    simp only [List.not_mem_nil, false_iff]
    rintro ⟨a, b⟩
    unfold expo at a
    omega
  | cons p m ih =>
    unfold expo
    by_cases e : p.1 = x
    · rw [if_pos e, List.mem_cons]
      constructor
      · rintro (f | f)
        · rw [← f]
          exact ⟨rfl, g.pos (x, k) (f ▸ List.mem_cons_self)⟩
        · exact absurd e.symm (head_not g _ f)
      · rintro ⟨a, _⟩
        exact .inl (by rw [← e, ← a])
    · rw [if_neg e, List.mem_cons, ← ih g.tail]
      constructor
      · rintro (f | f)
        · exact absurd (by rw [← f]) e
        · exact f
      · exact .inr
theorem lo_inj {x : Str} {a b : Mo} (ga : Good a) (gb : Good b) (h1 : expo x a = expo x b) (h2 : lo x a = lo x b) : a = b := by
  refine sorted_mem_eq ga.srt gb.srt fun p => ?_
  obtain ⟨y, k⟩ := p
  by_cases e : y = x
  · subst e
    rw [mem_expo ga, mem_expo gb, h1]
  · have q : (y, k) ∈ lo x a ↔ (y, k) ∈ lo x b := by rw [h2]
    rw [mem_lo, mem_lo] at q
    simpa [e] using q
theorem co_part {x : Str} {m : Mo} (gm : Good m) : ∀ {T : List (Mo × Int)}, (∀ t ∈ T, Good t.1) → co m T = co (lo x m) (part x (expo x m) T)
  | [], _ => rfl
  | t :: T, h => by
    rw [part_cons]
    have ih := co_part (x := x) gm fun t' ht => h t' (List.mem_cons_of_mem _ ht)
    by_cases c : expo x t.1 = expo x m
    · rw [if_pos c]
      unfold co
      rw [ih]
      by_cases e : t.1 = m
      · rw [if_pos e, if_pos (by rw [e])]
      · rw [if_neg e, if_neg fun q => e (lo_inj (h t List.mem_cons_self) gm c q)]
    · rw [if_neg c]
      conv => lhs; unfold co
      rw [if_neg (fun e => c (by rw [e])), Int.zero_add, ih]
/-- values that are 0 everywhere: no coefficients -/
theorem ev_none : ∀ (xs : List Str) {T : List (Mo × Int)}, (∀ t ∈ T, Good t.1 ∧ ∀ p ∈ t.1, p.1 ∈ xs) → (∀ u, ev u T = 0) → ∀ m, co m T = 0
  | [], T, h, z, m => by
    have n : ∀ t ∈ T, t.1 = [] := fun t ht => by
      cases e : t.1 with
      | nil => rfl
      | cons p _ => exact nomatch (h t ht).2 p (by rw [e]; exact List.mem_cons_self)
    by_cases em : m = []
    · subst em
      have all : ∀ T : List (Mo × Int), (∀ t ∈ T, t.1 = []) → co [] T = ev (fun _ => 0) T := by
        intro T
        induction T with
        | nil => intro _; rfl
        | cons t T ih =>
          intro h
          unfold co ev
          rw [ih fun q hq => h q (List.mem_cons_of_mem _ hq), h t List.mem_cons_self]
          simp [worth]
      rw [all T n, z]
    · exact co_none fun t ht e => em (by rw [← e, n t ht])
  | x :: xs, T, h, z, m => by
    by_cases gm : ∃ t ∈ T, t.1 = m
    · obtain ⟨t0, ht0, rfl⟩ := gm
      have g0 := (h t0 ht0).1
      rw [co_part (x := x) g0 fun t ht => (h t ht).1]
      obtain ⟨K, hK⟩ : ∃ K : Nat, ∀ t ∈ T, expo x t.1 < K := by
        clear z ht0 h
        induction T with
        | nil => exact ⟨0, fun t ht => nomatch ht⟩
        | cons t T ih =>
          obtain ⟨K, hK⟩ := ih
          refine ⟨max K ((expo x t.1).toNat + 1), fun q hq => ?_⟩
          rcases List.mem_cons.mp hq with e | e
          · subst e
            omega
          · have := hK q e
            omega
      have e0 := expo_nonneg (x := x) g0
      have lt0 := hK t0 ht0
      refine ev_none xs (fun t ht => ?_) (fun u => ?_) _
      · obtain ⟨s, hs, rfl⟩ := List.mem_map.mp ht
        have hs' := (List.mem_filter.mp hs).1
        refine ⟨(h s hs').1.lo, fun p hp => ?_⟩
        obtain ⟨a, b⟩ := mem_lo.mp hp
        rcases List.mem_cons.mp ((h s hs').2 p a) with e | e
        · exact absurd e b
        · exact e
      · have key := hor_none K (fun k => ev u (part x k T)) (fun B _ => ?_) (expo x t0.1).toNat (by omega)
        · rw [← key]
          congr 2
          omega
        · have q := z fun y => if y = x then B else u y
          rw [ev_part _ x K fun t ht => ⟨(h t ht).1, hK t ht⟩] at q
          simp only [if_true] at q
          rw [← q]
          congr 1
          funext k
          refine ev_congr fun t ht p hp => ?_
          obtain ⟨s, hs, rfl⟩ := List.mem_map.mp ht
          rw [if_neg (mem_lo.mp hp).2]
    · exact co_none fun t ht e => gm ⟨t, ht, e⟩
end Po
/-! the one form of a polynomial: two with the same values are one; how it is made -/
namespace Po
open PySem
theorem co_eq_none {m : Mo} {T : List (Mo × Int)} (h : m ∉ T.map (·.1)) : co m T = 0 := co_none fun t ht e => h (List.mem_map.mpr ⟨t, ht, e⟩)
theorem co_mem {m : Mo} {c : Int} : ∀ {T : List (Mo × Int)}, (T.map (·.1)).Nodup → (m, c) ∈ T → co m T = c
  | [], _, h => nomatch h
  | t :: T, n, h => by
    rw [List.map_cons, List.nodup_cons] at n
    unfold co
    rcases List.mem_cons.mp h with e | e
    · subst e
      rw [if_pos rfl, co_eq_none n.1]
      omega
    · rw [if_neg fun q => n.1 (List.mem_map.mpr ⟨_, e, q.symm⟩), co_mem n.2 e]
      omega
theorem mem_co {m : Mo} {T : List (Mo × Int)} (n : (T.map (·.1)).Nodup) (h : co m T ≠ 0) : (m, co m T) ∈ T := by
  by_cases k : m ∈ T.map (·.1)
  · obtain ⟨t, ht, e⟩ := List.mem_map.mp k
    obtain ⟨a, c⟩ := t
    simp only at e
    subst e
    rw [co_mem n ht]
    exact ht
  · exact absurd (co_eq_none k) h
theorem ev_scale (u : Str → Int) (d : Int) (T : List (Mo × Int)) : ev u (T.map fun t => (t.1, t.2 * d)) = ev u T * d := by
  induction T with
  | nil => simp [ev]
  | cons t T ih =>
    show t.2 * d * worth u t.1 + ev u (T.map fun t => (t.1, t.2 * d)) = (t.2 * worth u t.1 + ev u T) * d
    rw [ih]
    grind
theorem co_scale (m : Mo) (d : Int) (T : List (Mo × Int)) : co m (T.map fun t => (t.1, t.2 * d)) = co m T * d := by
  induction T with
  | nil => simp [co]
  | cons t T ih =>
    rw [List.map_cons]
    unfold co
    rw [ih]
    by_cases e : t.1 = m
    · rw [if_pos e, if_pos e]
      grind
    · rw [if_neg e, if_neg e]
      grind
theorem co_app (m : Mo) (S T : List (Mo × Int)) : co m (S ++ T) = co m S + co m T := by
  induction S with
  | nil => simp [co]
  | cons t S ih =>
    show (if t.1 = m then t.2 else 0) + co m (S ++ T) = (if t.1 = m then t.2 else 0) + co m S + co m T
    rw [ih]
    omega
/-- an order of the monomials -/
structure MOrd (lt : Mo → Mo → Prop) : Prop where
  irr : ∀ a, ¬ lt a a
  tr : ∀ a b c, lt a b → lt b c → lt a c
structure Can (lt : Mo → Mo → Prop) (T : List (Mo × Int)) (d : Int) : Prop where
  good : ∀ t ∈ T, Good t.1
  nz : ∀ t ∈ T, t.2 ≠ 0
  srt : T.Pairwise fun s t => lt s.1 t.1
  pos : 0 < d
  cop : ∀ k : Int, 0 < k → k ∣ d → (∀ t ∈ T, k ∣ t.2) → k = 1
section
variable {lt : Mo → Mo → Prop}
theorem Can.nodup (O : MOrd lt) {T : List (Mo × Int)} {d : Int} (c : Can lt T d) : (T.map (·.1)).Nodup := by
  rw [List.Nodup, List.pairwise_map]
  exact c.srt.imp fun {a b} (h : lt a.1 b.1) (e : a.1 = b.1) => O.irr b.1 (by rw [e] at h; exact h)
theorem sorted_terms (O : MOrd lt) : ∀ {a b : List (Mo × Int)}, a.Pairwise (fun s t => lt s.1 t.1) → b.Pairwise (fun s t => lt s.1 t.1) → (∀ p, p ∈ a ↔ p ∈ b) → a = b
  | [], [], _, _, _ => rfl
  | [], q :: b, _, _, h => nomatch (h q).mpr List.mem_cons_self
  | p :: a, [], _, _, h => nomatch (h p).mp List.mem_cons_self
  | p :: a, q :: b, ha, hb, h => by
    obtain ⟨a1, a2⟩ := List.pairwise_cons.mp ha
    obtain ⟨b1, b2⟩ := List.pairwise_cons.mp hb
    have e : p = q := by
      rcases List.mem_cons.mp ((h p).mp List.mem_cons_self) with e | e
      · exact e
      · rcases List.mem_cons.mp ((h q).mpr List.mem_cons_self) with f | f
        · exact f.symm
        · exact absurd (O.tr _ _ _ (b1 p e) (a1 q f)) (O.irr _)
    subst e
    refine congrArg _ (sorted_terms O a2 b2 fun r => ⟨fun hr => ?_, fun hr => ?_⟩)
    · rcases List.mem_cons.mp ((h r).mp (List.mem_cons_of_mem _ hr)) with f | f
      · exact absurd (f ▸ a1 r hr) (O.irr _)
      · exact f
    · rcases List.mem_cons.mp ((h r).mpr (List.mem_cons_of_mem _ hr)) with f | f
      · exact absurd (f ▸ b1 r hr) (O.irr _)
      · exact f
theorem cross_dvd {a b g x y : Int} (ha : 0 < a) (hg : Int.gcd a b = 1) (h : x * b = y * a) : a ∣ x := by
  have h1 : a.natAbs ∣ x.natAbs * b.natAbs := by
    rw [← Int.natAbs_mul, h, Int.natAbs_mul]
    exact Nat.dvd_mul_left _ _
  exact Int.natAbs_dvd_natAbs.mp (Nat.Coprime.dvd_of_dvd_mul_right hg h1)
theorem Can.one (O : MOrd lt) {T S : List (Mo × Int)} {d e : Int} (c : Can lt T d) (c' : Can lt S e) (h : ∀ u, ev u T * e = ev u S * d) : T = S ∧ d = e := by
  have nT := c.nodup O
  have nS := c'.nodup O
  have key : ∀ m, co m T * e = co m S * d := fun m => by
    have z := ev_none ((T ++ S).flatMap fun t => t.1.map (·.1)) (T := T.map (fun t => (t.1, t.2 * e)) ++ S.map (fun t => (t.1, t.2 * -d))) (fun t ht => by
      have q : ∃ s ∈ T ++ S, s.1 = t.1 := by
        rcases List.mem_append.mp ht with k | k
        · obtain ⟨s, hs, rfl⟩ := List.mem_map.mp k
          exact ⟨s, List.mem_append_left _ hs, rfl⟩
        · obtain ⟨s, hs, rfl⟩ := List.mem_map.mp k
          exact ⟨s, List.mem_append_right _ hs, rfl⟩
      obtain ⟨s, hs, es⟩ := q
      rw [← es]
      refine ⟨?_, fun p hp => List.mem_flatMap.mpr ⟨s, hs, List.mem_map.mpr ⟨p, hp, rfl⟩⟩⟩
      rcases List.mem_append.mp hs with k | k
      · exact c.good s k
      · exact c'.good s k) (fun u => by
      rw [ev_app, ev_scale, ev_scale, h u]
      grind) m
    rw [co_app, co_scale, co_scale] at z
    grind
  have hd := c.pos
  have he := c'.pos
  obtain ⟨g, hg⟩ : ∃ g : Nat, Int.gcd d e = g := ⟨_, rfl⟩
  have gp : 0 < g := by rw [← hg]; exact Int.gcd_pos_of_ne_zero_left e (by omega)
  obtain ⟨a, ea⟩ : (g : Int) ∣ d := hg ▸ Int.gcd_dvd_left ..
  obtain ⟨b, eb⟩ : (g : Int) ∣ e := hg ▸ Int.gcd_dvd_right ..
  have ap : 0 < a := by
    rcases Int.lt_or_le 0 a with k | k
    · exact k
    · have := Int.mul_nonpos_of_nonneg_of_nonpos (a := (g : Int)) (b := a) (by omega) k
      omega
  have bp : 0 < b := by
    rcases Int.lt_or_le 0 b with k | k
    · exact k
    · have := Int.mul_nonpos_of_nonneg_of_nonpos (a := (g : Int)) (b := b) (by omega) k
      omega
  have gab : Int.gcd a b = 1 := by
    rw [ea, eb, Int.gcd_mul_left] at hg
    simp only [Int.natAbs_natCast] at hg
    exact Nat.eq_of_mul_eq_mul_left gp (by rw [hg, Nat.mul_one])
  have kab : ∀ m, co m T * b = co m S * a := fun m => by
    have q := key m
    rw [ea, eb] at q
    have : (g : Int) * (co m T * b) = g * (co m S * a) := by grind
    exact Int.eq_of_mul_eq_mul_left (by omega) this
  have a1 : a = 1 := c.cop a ap ⟨g, by rw [ea, Int.mul_comm]⟩ fun t ht => by
    have := cross_dvd (g := 0) ap gab (kab t.1)
    rwa [co_mem (c := t.2) nT ht] at this
  have b1 : b = 1 := c'.cop b bp ⟨g, by rw [eb, Int.mul_comm]⟩ fun t ht => by
    have := cross_dvd (g := 0) bp (by rw [Int.gcd_comm]; exact gab) (kab t.1).symm
    rwa [co_mem (c := t.2) nS ht] at this
  subst a1 b1
  have k1 : ∀ m, co m T = co m S := fun m => by
    have := kab m
    omega
  refine ⟨sorted_terms O c.srt c'.srt fun p => ?_, by omega⟩
  obtain ⟨m, x⟩ := p
  constructor
  · intro hp
    have e1 := co_mem nT hp
    have := mem_co nS (m := m) (by rw [← k1, e1]; exact c.nz _ hp)
    rwa [← k1, e1] at this
  · intro hp
    have e1 := co_mem nS hp
    have := mem_co nT (m := m) (by rw [k1, e1]; exact c'.nz _ hp)
    rwa [k1, e1] at this
end
theorem natCast_dvd' {g : Nat} {c : Int} : (g : Int) ∣ c ↔ g ∣ c.natAbs := by
  rw [← Int.natAbs_dvd_natAbs, Int.natAbs_natCast]
/-! ### the greatest common divisor along a list -/
def gfold (g : Nat) (l : List Int) : Nat := l.foldl (fun g c => Nat.gcd g c.natAbs) g
theorem gfold_dvd : ∀ (l : List Int) (g : Nat), gfold g l ∣ g ∧ ∀ c ∈ l, (gfold g l : Int) ∣ c
  | [], g => ⟨Nat.dvd_refl _, fun c h => nomatch h⟩
  | x :: l, g => by
    obtain ⟨a, b⟩ := gfold_dvd l (Nat.gcd g x.natAbs)
    have e : gfold g (x :: l) = gfold (Nat.gcd g x.natAbs) l := rfl
    rw [e]
    refine ⟨Nat.dvd_trans a (Nat.gcd_dvd_left _ _), fun c hc => ?_⟩
    rcases List.mem_cons.mp hc with k | k
    · subst k
      exact natCast_dvd'.mpr (Nat.dvd_trans a (Nat.gcd_dvd_right _ _))
    · exact b c k
theorem dvd_gfold : ∀ (l : List Int) (g k : Nat), k ∣ g → (∀ c ∈ l, (k : Int) ∣ c) → k ∣ gfold g l
  | [], _, _, h, _ => h
  | x :: l, g, k, h, hl => dvd_gfold l _ k (Nat.dvd_gcd h (natCast_dvd'.mp (hl x List.mem_cons_self))) fun c hc => hl c (List.mem_cons_of_mem _ hc)
theorem gfold_pos (l : List Int) {g : Nat} (h : 0 < g) : 0 < gfold g l := Nat.pos_of_dvd_of_pos (gfold_dvd l g).1 h
/-- the one form: kept, divided -/
theorem can_norm {lt : Mo → Mo → Prop} {T R : List (Mo × Int)} {d : Int} (hd : 0 < d) (good : ∀ t ∈ T, Good t.1) (nd : (T.map (·.1)).Nodup)
    (hs : R.Pairwise fun s t => lt s.1 t.1) (hp : R.Perm (T.filter fun t => decide (t.2 ≠ 0))) :
    Can lt (R.map fun t => (t.1, t.2 / (gfold d.natAbs (T.map (·.2)) : Nat))) (d / (gfold d.natAbs (T.map (·.2)) : Nat)) ∧
    ∀ u, ev u (R.map fun t => (t.1, t.2 / (gfold d.natAbs (T.map (·.2)) : Nat))) * d = ev u T * (d / (gfold d.natAbs (T.map (·.2)) : Nat)) := by
  obtain ⟨g1, g2⟩ := gfold_dvd (T.map (·.2)) d.natAbs
  have gp : 0 < gfold d.natAbs (T.map (·.2)) := gfold_pos _ (by omega)
  have gr := dvd_gfold (T.map (·.2)) d.natAbs
  generalize gfold d.natAbs (T.map (·.2)) = g at g1 g2 gp gr ⊢
  have gd : (g : Int) ∣ d := natCast_dvd'.mpr g1
  have memT : ∀ t ∈ R, t ∈ T ∧ t.2 ≠ 0 := fun t ht => by
    have := List.mem_filter.mp (hp.mem_iff.mp ht)
    exact ⟨this.1, of_decide_eq_true this.2⟩
  have gt : ∀ t ∈ T, (g : Int) ∣ t.2 := fun t ht => g2 t.2 (List.mem_map.mpr ⟨t, ht, rfl⟩)
  have ed : d / g * g = d := Int.ediv_mul_cancel gd
  have dp : 0 < d / g := Int.ediv_pos_of_pos_of_dvd hd (by omega) gd
  constructor
  · refine ⟨fun t ht => ?_, fun t ht => ?_, ?_, dp, fun k hk kd kt => ?_⟩
    · obtain ⟨s, hs', rfl⟩ := List.mem_map.mp ht
      exact good s (memT s hs').1
    · obtain ⟨s, hs', rfl⟩ := List.mem_map.mp ht
      have := Int.ediv_mul_cancel (gt s (memT s hs').1)
      intro z
      have z' : s.2 / (g : Int) = 0 := z
      rw [z'] at this
      exact (memT s hs').2 (by omega)
    · rw [List.pairwise_map]
      exact hs
    · have kg : (k.natAbs * g) ∣ g := by
        refine gr _ ?_ fun c hc => ?_
        · have : (k * g) ∣ d := by
            rw [← ed]
            exact Int.mul_dvd_mul kd (Int.dvd_refl _)
          have := Int.natAbs_dvd_natAbs.mpr this
          rwa [Int.natAbs_mul, Int.natAbs_natCast] at this
        · obtain ⟨t, ht, rfl⟩ := List.mem_map.mp hc
          have e2 := Int.ediv_mul_cancel (gt t ht)
          have ek : ((k.natAbs * g : Nat) : Int) = k * g := by
            rw [Int.natCast_mul]
            congr 1
            omega
          rw [ek]
          by_cases z : t.2 = 0
          · rw [z]
            exact Int.dvd_zero _
          · rw [← e2]
            refine Int.mul_dvd_mul (kt (t.1, t.2 / g) (List.mem_map.mpr ⟨t, hp.mem_iff.mpr (List.mem_filter.mpr ⟨ht, by simpa using z⟩), rfl⟩)) (Int.dvd_refl _)
      have := Nat.le_of_dvd gp kg
      have : k.natAbs ≤ 1 := by
        rcases Nat.lt_or_ge 1 k.natAbs with q | q
        · have := Nat.mul_le_mul_right g (show 2 ≤ k.natAbs from q)
          omega
        · exact q
      omega
  · intro u
    have e1 : ev u R = ev u T := by
      rw [ev_perm hp]
      clear hp hs memT nd good g2 gr gt
      induction T with
      | nil => rfl
      | cons t T ih =>
        rw [List.filter_cons]
        by_cases z : t.2 = 0
        · rw [if_neg (by simpa using z), ih]
          conv => rhs; unfold ev
          rw [z]
          omega
        · rw [if_pos (by simpa using z)]
          unfold ev
          rw [ih]
    have e2 : ev u (R.map fun t => (t.1, t.2 / (g : Int))) * g = ev u R := by
      have all : ∀ R : List (Mo × Int), (∀ t ∈ R, (g : Int) ∣ t.2) → ev u (R.map fun t => (t.1, t.2 / (g : Int))) * g = ev u R := by
        intro R
        induction R with
        | nil => intro _; simp [ev]
        | cons t R ih =>
          intro h
          show (t.2 / (g : Int) * worth u t.1 + ev u (R.map fun t => (t.1, t.2 / (g : Int)))) * g = t.2 * worth u t.1 + ev u R
          have := Int.ediv_mul_cancel (h t List.mem_cons_self)
          rw [← ih fun q hq => h q (List.mem_cons_of_mem _ hq)]
          grind
      exact all R fun t ht => gt t (memT t ht).1
    rw [← e1, ← e2]
    grind
end Po
set_option maxHeartbeats 2000000
/-! dicts whose keys are monomials: tuples of pairs (text, int) -/
namespace Po
open PySem PySem.Spec L2 PyProof.Rows
def keyP (p : Str × Int) : NestedKey := .tup [.text p.1, .num p.2]
def keyM (m : Mo) : NestedKey := .tup (m.map keyP)
theorem keyM_inj {a b : Mo} (h : keyM a = keyM b) : a = b := by
  have h1 : a.map keyP = b.map keyP := by injection h
  clear h
  induction a generalizing b with
  | nil =>
    cases b with
    | nil => rfl
    | cons q b => simp at h1
  | cons p a ih =>
    cases b with
    | nil => simp at h1
    | cons q b =>
      rw [List.map_cons, List.map_cons, List.cons.injEq] at h1
      rw [ih h1.2]
      congr 1
      have h2 := h1.1
      unfold keyP at h2
      injection h2 with h3
      injection h3 with h4 h5
      injection h4 with h6
      injection h5 with h7 _
      injection h7 with h8
      exact Prod.ext h6 h8
theorem keyM_depth (m : Mo) : (keyM m).depth ≤ 8 := by
  have : ∀ m : Mo, NestedKey.depthAll (m.map keyP) ≤ 1 := by
    intro m
    induction m with
    | nil => exact Nat.zero_le _
    | cons p m ih =>
      show max (keyP p).depth (NestedKey.depthAll (m.map keyP)) ≤ 1
      refine Nat.max_le.mpr ⟨?_, ih⟩
      simp [keyP, NestedKey.depth, NestedKey.depthAll]
  have := this m
  show NestedKey.depthAll (m.map keyP) + 1 ≤ 8
  omega
/-- a pair (name, exponent) at a -/
def PrK (H : Hp) (p : Str × Int) (a : Addr) : Prop := H a = some (.tup [.str p.1, .int p.2])
/-- the monomial m at q: a tuple whose object is known -/
def MoK (H : Hp) (m : Mo) (q : Addr) : Prop := ∃ (as : List Addr) (o : Obj), H q = some (.frz o (.tup (as.map V.ref))) ∧ o.dict = none ∧ Paired (PrK H) m as
structure Keep2 (H H' : Hp) : Prop where
  t : ∀ b xs, H b = some (.tup xs) → H' b = some (.tup xs)
  f : ∀ b o xs, H b = some (.frz o (.tup xs)) → H' b = some (.frz o (.tup xs))
theorem MoK.keeps {H H' : Hp} {m : Mo} {q : Addr} (x : MoK H m q) (k : Keep2 H H') : MoK H' m q := by
  obtain ⟨as, o, h1, h0, h2⟩ := x
  exact ⟨as, o, k.f _ _ _ h1, h0, Paired.mapP h2 fun _ _ z => k.t _ _ z⟩
theorem Same.keep2 {H H' : Hp} (s : Same H H') : Keep2 H H' := ⟨fun b xs e => s b _ e, fun b o u e => s b _ e⟩
theorem MoK.same {H H' : Hp} {m : Mo} {q : Addr} (x : MoK H m q) (s : Same H H') : MoK H' m q := x.keeps (Same.keep2 s)
theorem keep2_upd {H : Hp} {a : Addr} {o : HO} {φ : Heap → Prop} (e : H a = some (.ext φ)) : Keep2 H (upd H a o) := by
  refine ⟨fun b xs h => ?_, fun b ob u h => ?_⟩
  · rw [upd_ne (ne_of h e (fun z => nomatch z))]
    exact h
  · rw [upd_ne (ne_of h e (fun z => nomatch z))]
    exact h
theorem MoK.seq {K : PySem.W.Frag} {H : Hp} {m : Mo} {q : Addr} (x : MoK H m q) : ∃ as, SqT K H q (as.map V.ref) ∧ Paired (PrK H) m as := by
  obtain ⟨as, o, h1, _, h2⟩ := x
  exact ⟨as, .inl (.inr ⟨o, h1⟩), h2⟩
theorem refs_of : ∀ {as : List Addr} {us : List Value}, Vals (as.map V.ref) us → us = as.map Value.ref
  | [], _, r => by cases r; rfl
  | a :: as, _, r => by
    rw [List.map_cons] at r
    cases r with
    | cons h t =>
      cases h
      rw [List.map_cons, ← refs_of t]
section
variable {P : Program} {w : World} {H : Hp} {h : Heap} {m : Mo} {q : Addr}
theorem prK_is (ok : HOk P w H h) {p : Str × Int} {a : Addr} (x : PrK H p a) : NestedIs h (keyP p) (.ref a) := by
  obtain ⟨_, its, r, o, h1, h2, n, h3⟩ := (show ObjOk P w H h a (.tup [.str p.1, .int p.2]) from ok a _ x)
  cases r with
  | cons r1 r' =>
    cases r' with
    | cons r2 r'' =>
      cases r''
      obtain ⟨t, rfl⟩ := r1
      obtain ⟨t', rfl⟩ := r2
      exact .tup h1 h2 h3 (.cons (.text _ _) (.cons (.int _ _) .nil))
theorem moK_is (ok : HOk P w H h) (x : MoK H m q) : NestedIs h (keyM m) (.ref q) := by
  obtain ⟨as, ob, e, _, pr⟩ := x
  obtain ⟨hlen, its, r, o, h1, h2, n, h3⟩ := (show ObjOk P w H h q (.tup (as.map V.ref)) from (show Rd H q (.tup (as.map V.ref)) from .inr ⟨ob, e⟩).ok ok)
  have eq := refs_of r
  subst eq
  refine .tup h1 h2 h3 ?_
  show NestedAll h (m.map keyP) (as.map Value.ref)
  clear e r h3 hlen
  induction pr with
  | nil => exact .nil
  | cons p _ ih => exact .cons (prK_is ok p) ih
theorem moK_key (ok : HOk P w H h) (x : MoK H m q) : (nestedKind P w).is h (keyM m) q := ⟨moK_is ok x, keyM_depth m⟩
end
/-! ### the dict -/
abbrev Ent := Mo × Addr × Int
def EntR (p : Ent) (q : NestedKey × Addr × Value) : Prop := keyM p.1 = q.1 ∧ p.2.1 = q.2.1 ∧ RelV (.int p.2.2) q.2.2
def NdP (P : Program) (w : World) (a : Addr) (ks : List Ent) : Heap → Prop := fun h => ks.length ≤ sizeLine ∧ (a == sysModules) = false ∧ ∃ xs : List (NestedKey × Addr × Value), Paired EntR ks xs ∧
  ∃ o es ep, h.get? a = some o ∧ o.ExactDict ∧ o.data = .dict es ep ∧ es.toList = xs.map (entryOfKey (nestedKind P w)) ∧ (xs.map (·.1)).Nodup
def NdO (P : Program) (w : World) (a : Addr) (ks : List Ent) : HO := .ext (NdP P w a ks)
def strip (ks : List Ent) : List (Mo × Int) := ks.map fun e => (e.1, e.2.2)
/-- the terms T at a, to be read -/
def ND (P : Program) (w : World) (H : Hp) (a : Addr) (T : List (Mo × Int)) : Prop := ∃ ks, Rd H a (NdO P w a ks) ∧ (∀ e ∈ ks, MoK H e.1 e.2.1) ∧ strip ks = T
/-- .. to be written -/
def NDW (P : Program) (w : World) (H : Hp) (a : Addr) (T : List (Mo × Int)) : Prop := ∃ ks, H a = some (NdO P w a ks) ∧ (∀ e ∈ ks, MoK H e.1 e.2.1) ∧ strip ks = T
section
variable {P : Program} {w : World} {H H' : Hp} {h : Heap} {a : Addr} {T : List (Mo × Int)} {ks : List Ent}
theorem NDW.rd (x : NDW P w H a T) : ND P w H a T := let ⟨ks, e, k, s⟩ := x; ⟨ks, .inl e, k, s⟩
theorem NDW.same (x : NDW P w H a T) (s : Same H H') : NDW P w H' a T := let ⟨ks, e, k, t⟩ := x; ⟨ks, s _ _ e, fun z hz => (k z hz).same s, t⟩
theorem NDW.at' (x : NDW P w H a T) (e : H' a = H a) (s : Keep2 H H') : NDW P w H' a T := let ⟨ks, e', k, t⟩ := x; ⟨ks, e.trans e', fun z hz => (k z hz).keeps s, t⟩
theorem ndp_at {h h' : Heap} (p : NdP P w a ks h) (k : ∀ o, h.get? a = some o → h'.get? a = some o) : NdP P w a ks h' := by
  obtain ⟨z, m, xs, r, o, es, ep, ho, c⟩ := p
  exact ⟨z, m, xs, r, o, es, ep, k o ho, c⟩
theorem ndo_new (p : NdP P w a ks h) : ObjOk P w H h a (NdO P w a ks) := by
  have ⟨_, _, _, _, o, _, _, ho, _⟩ := p
  exact ⟨p, ⟨o, ho⟩, fun _ _ q k => ndp_at q k⟩
theorem ndp_of (ok : HOk P w H h) (e : Rd H a (NdO P w a ks)) : NdP P w a ks h := (e.ok ok).1
theorem ndp_dict (ok : HOk P w H h) (mk : ∀ e ∈ ks, MoK H e.1 e.2.1) (p : NdP P w a ks h) : ks.length ≤ sizeLine ∧ (a == sysModules) = false ∧ ∃ xs, Paired EntR ks xs ∧ h.DictOfH (nestedKind P w) a xs := by
  obtain ⟨z, m, xs, r, o, es, ep, ho, hc, hd, he, hn⟩ := p
  refine ⟨z, m, xs, r, o, es, ep, ho, hc, hd, he, ?_, hn⟩
  clear he hn z hd
  induction r with
  | nil => intro x hx; exact nomatch hx
  | @cons p q ps qs hq t ih =>
    intro x hx
    rcases List.mem_cons.mp hx with e | hx
    · subst e
      rw [← hq.1, ← hq.2.1]
      exact moK_key ok (mk p List.mem_cons_self)
    · exact ih (fun e he => mk e (List.mem_cons_of_mem _ he)) x hx
end
/-! ### what is at a key -/
def valE (ks : List Ent) (m : Mo) : Option (Addr × Int) := (ks.find? fun e => decide (e.1 = m)).map (·.2)
def valT (T : List (Mo × Int)) (m : Mo) : Option Int := (T.find? fun e => decide (e.1 = m)).map (·.2)
theorem valT_strip (ks : List Ent) (m : Mo) : valT (strip ks) m = (valE ks m).map (·.2) := by
  induction ks with
  | nil => rfl
  | cons e ks ih =>
    by_cases c : e.1 = m
    · simp [valT, valE, strip, c]
    · simpa [valT, valE, strip, c] using ih
def putE (ks : List Ent) (m : Mo) (q : Addr) (c : Int) : List Ent := if (valE ks m).isSome then ks.map fun e => if e.1 = m then (e.1, e.2.1, c) else e else ks ++ [(m, q, c)]
def putT (T : List (Mo × Int)) (m : Mo) (c : Int) : List (Mo × Int) := if (valT T m).isSome then T.map fun e => if e.1 = m then (e.1, c) else e else T ++ [(m, c)]
theorem strip_put (ks : List Ent) (m : Mo) (q : Addr) (c : Int) : strip (putE ks m q c) = putT (strip ks) m c := by
  unfold putE putT
  rw [valT_strip, Option.isSome_map]
  by_cases z : (valE ks m).isSome = true
  · rw [if_pos z, if_pos z]
    unfold strip
    rw [List.map_map, List.map_map]
    refine List.map_congr_left fun e _ => ?_
    by_cases y : e.1 = m <;> simp [y]
  · rw [if_neg z, if_neg z]
    simp [strip]
theorem len_putE (ks : List Ent) (m : Mo) (q : Addr) (c : Int) : (putE ks m q c).length ≤ ks.length + 1 := by
  unfold putE
  split <;> simp
theorem len_putT (T : List (Mo × Int)) (m : Mo) (c : Int) : (putT T m c).length ≤ T.length + 1 := by
  unfold putT
  split <;> simp
theorem entr_val {ks : List Ent} {xs : List (NestedKey × Addr × Value)} (r : Paired EntR ks xs) (m : Mo) : (∃ p v, valE ks m = some p ∧ atKey xs (keyM m) = some (p.1, v) ∧ RelV (.int p.2) v) ∨ (valE ks m = none ∧ atKey xs (keyM m) = none) := by
  induction r with
  | nil => exact .inr ⟨rfl, rfl⟩
  | @cons p q ps qs h t ih =>
    obtain ⟨h1, h2, h3⟩ := h
    by_cases e : p.1 = m
    · refine .inl ⟨p.2, q.2.2, ?_, ?_, h3⟩
      · simp [valE, e]
      · have : q.1 = keyM m := by rw [← h1, e]
        simp [atKey, this, h2]
    · have e' : ¬ q.1 = keyM m := fun z => e (keyM_inj (h1.trans z))
      have a1 : valE (p :: ps) m = valE ps m := by simp [valE, e]
      have a2 : atKey (q :: qs) (keyM m) = atKey qs (keyM m) := by simp [atKey, e']
      rw [a1, a2]
      exact ih
theorem entr_put {ks : List Ent} {xs : List (NestedKey × Addr × Value)} (r : Paired EntR ks xs) (m : Mo) (q : Addr) {c : Int} {u : Value} (ru : RelV (.int c) u) : Paired EntR (putE ks m q c) (storedH xs (keyM m) q u) := by
  unfold putE storedH
  have e : (valE ks m).isSome = (atKey xs (keyM m)).isSome := by
    rcases entr_val r m with ⟨p, v, a, b, _⟩ | ⟨a, b⟩
    · rw [a, b]; rfl
    · rw [a, b]
      rfl
  rw [e]
  by_cases z : (atKey xs (keyM m)).isSome = true
  · rw [if_pos z, if_pos z]
    clear e z
    induction r with
    | nil => exact .nil
    | @cons p q' ps qs h t ih =>
      rw [List.map_cons, List.map_cons]
      refine .cons ?_ ih
      obtain ⟨h1, h2, h3⟩ := h
      unfold putAt
      by_cases e : p.1 = m
      · rw [if_pos e, if_pos (by rw [← h1, e])]
        exact ⟨h1, h2, ru⟩
      · rw [if_neg e, if_neg fun z => e (keyM_inj (h1.trans z))]
        exact ⟨h1, h2, h3⟩
  · rw [if_neg z, if_neg z]
    exact Paired.snoc r ⟨rfl, rfl, ru⟩
section
variable {X : Cx} {pins : List (Addr × Obj)} {σ : L2.St} {H : Hp} {s : Shared} {a q : Addr} {m : Mo} {T : List (Mo × Int)} {A : Around} {E : Value → Shared → Prop}
theorem mo_val {u : Value} (r : RelV (.ref q) u) : u = .ref q := r
/-- the key is there -/
theorem n_getItem {c : Int} {Q : Value → Shared → Prop} (hu : A.units + 9 < cLine) (I : Inv X pins σ H s) (d : ND X.prog X.w H a T) (k : MoK H m q) (l : valT T m = some c) (h : ∀ w' s', Inv X pins σ H s' → RelV (.int c) w' → Q w' s') :
    wpAny (model X.prog X.w) A (getItem (.ref a) (.ref q)) Q E s := by
  obtain ⟨ks, e, mk, rfl⟩ := d
  obtain ⟨z, hd, xs, rel, dd⟩ := ndp_dict I.hok mk (ndp_of I.hok e)
  rw [valT_strip] at l
  rcases entr_val rel m with ⟨p, v, e1, e2, e3⟩ | ⟨e1, _⟩
  · rw [e1] at l
    have : p.2 = c := Option.some.inj l
    subst this
    exact wpAny_getItem_heap (show A.units + 1 + 8 < cLine by omega) (moK_key I.hok k) dd e2 (h _ _ (I.tok _) e3)
  · rw [e1] at l
    cases l
theorem n_get2 {c : V} {r : Value} {Q : Value → Shared → Prop} (hu : A.units + 9 < cLine) (I : Inv X pins σ H s) (d : ND X.prog X.w H a T) (k : MoK H m q) (rr : RelV c r) (h : ∀ w' s', Inv X pins σ H s' → RelV (((valT T m).map V.int).getD c) w' → Q w' s') :
    wpAny (model X.prog X.w) A (call (.builtin "dict.get") [.ref a, .ref q, r]) Q E s := by
  obtain ⟨ks, e, mk, rfl⟩ := d
  obtain ⟨z, hd, xs, rel, dd⟩ := ndp_dict I.hok mk (ndp_of I.hok e)
  refine call_meetsIn PySem.F.slot_dict_get dd.typeIs PySem.F.entry_dict_get (PySem.F.args_dict_get_3 _ _ _) (meetsH_dict_get_default (nestedKind X.prog X.w) a q hd r) ⟨show A.units + 1 + 8 < cLine by omega, keyM m, xs, moK_key I.hok k, dd, h _ _ (I.tok _) ?_⟩
  rw [valT_strip]
  rcases entr_val rel m with ⟨p, v, e1, e2, e3⟩ | ⟨e1, e2⟩
  · rw [e1, e2]
    exact e3
  · rw [e1, e2]
    exact rr
theorem nd_put (I : Inv X pins σ H s) {ks : List Ent} (e : H a = some (NdO X.prog X.w a ks)) (mk : ∀ e ∈ ks, MoK H e.1 e.2.1) (k : MoK H m q) (c : Int) : NDW X.prog X.w (upd H a (NdO X.prog X.w a (putE ks m q c))) a (putT (strip ks) m c) := by
  have n : ∀ o, Keep2 H (upd H a o) := fun o => keep2_upd e
  refine ⟨_, upd_same, fun z hz => ?_, strip_put ..⟩
  unfold putE at hz
  split at hz
  · obtain ⟨y, hy, rfl⟩ := List.mem_map.mp hz
    split
    · exact (mk y hy).keeps (n _)
    · exact (mk y hy).keeps (n _)
  · rcases List.mem_append.mp hz with y | y
    · exact (mk z y).keeps (n _)
    · rw [List.mem_singleton.mp y]
      exact k.keeps (n _)
/-- what the store leaves: the heap but for a -/
def NPut (P : Program) (w : World) (H : Hp) (a : Addr) (m : Mo) (c : Int) (T : List (Mo × Int)) (H' : Hp) : Prop := NDW P w H' a (putT T m c) ∧ ∃ ks, H' = upd H a (NdO P w a ks)
theorem n_after {h' : Heap} {t' : Nat} {r : Value} {c : Int} {ks : List Ent} {xs : List (NestedKey × Addr × Value)} (I : Inv X pins σ H s) (e : H a = some (NdO X.prog X.w a ks)) (hz : (putE ks m q c).length ≤ sizeLine) (hd : (a == sysModules) = false) (rel : Paired EntR ks xs) (rv : RelV (.int c) r)
    (dd' : h'.DictOfH (nestedKind X.prog X.w) a (storedH xs (keyM m) q r)) (hs : Heap.SameBut a s.heap h') : Inv X pins σ (upd H a (NdO X.prog X.w a (putE ks m q c))) { s with heap := h', toks := t' } := by
  obtain ⟨o, es, ep, ho, h2, h3, h4, _, h5⟩ := dd'
  exact d_write I (by rw [e]; exact True.intro) hs ⟨o, ho⟩ (ndo_new ⟨hz, hd, _, entr_put rel m q rv, o, es, ep, ho, h2, h3, h4, h5⟩)
theorem n_setItem {c : Int} {r : Value} {Q : Unit → Shared → Prop} (hu : A.units + 9 < cLine) (I : Inv X pins σ H s) (d : NDW X.prog X.w H a T) (hl : T.length < sizeLine) (k : MoK H m q) (rv : RelV (.int c) r) (h : ∀ H' s', NPut X.prog X.w H a m c T H' → Inv X pins σ H' s' → Q () s') :
    wpAny (model X.prog X.w) A (setItem (.ref a) (.ref q) r) Q E s := by
  obtain ⟨ks, e, mk, rfl⟩ := d
  obtain ⟨z, hd, xs, rel, dd⟩ := ndp_dict I.hok mk (ndp_of I.hok (.inl e))
  have lx : xs.length ≤ sizeLine := by rw [← Paired.length rel]; exact z
  have lp : (putE ks m q c).length ≤ sizeLine := by
    have := len_putE ks m q c
    have : ks.length = (strip ks).length := by simp [strip]
    omega
  exact wpAny_setItem_heap (hsz := lx) (show A.units + 1 + 8 < cLine by omega) (moK_key I.hok k) dd fun h' dd' hs => h _ _ ⟨nd_put I e mk k c, _, rfl⟩ (n_after I e lp hd rel rv dd' hs)
theorem n_dictSet {c : Int} {r : Value} {Q : Unit → Shared → Prop} (hu : A.units + 9 < cLine) (I : Inv X pins σ H s) (d : NDW X.prog X.w H a T) (hl : T.length < sizeLine) (k : MoK H m q) (rv : RelV (.int c) r) (h : ∀ H' s', NPut X.prog X.w H a m c T H' → Inv X pins σ H' s' → Q () s') :
    wpAny (model X.prog X.w) A (dictSet a (.ref q) r) Q E s := by
  obtain ⟨ks, e, mk, rfl⟩ := d
  obtain ⟨z, hd, xs, rel, dd⟩ := ndp_dict I.hok mk (ndp_of I.hok (.inl e))
  have lx : xs.length ≤ sizeLine := by rw [← Paired.length rel]; exact z
  have lp : (putE ks m q c).length ≤ sizeLine := by
    have := len_putE ks m q c
    have : ks.length = (strip ks).length := by simp [strip]
    omega
  exact wpAny_dictSet_heap (hsz := lx) (show A.units + 8 < cLine by omega) (moK_key I.hok k) dd fun h' dd' hs => h _ _ ⟨nd_put I e mk k c, _, rfl⟩ (n_after I e lp hd rel rv dd' hs)
theorem nd_type (I : Inv X pins σ H s) (d : ND X.prog X.w H a T) : s.TypeIs (.ref a) "dict" ∧ (∀ b, Value.ref a = .ref b → ∃ ob, s.heap.get? b = some ob ∧ ob.dict = none) ∧ (a == sysModules) = false := by
  obtain ⟨ks, e, mk, rfl⟩ := d
  obtain ⟨z, hd, xs, rel, dd⟩ := ndp_dict I.hok mk (ndp_of I.hok e)
  refine ⟨dd.typeIs, fun b q => ?_, hd⟩
  cases q
  obtain ⟨ob, _, _, h1, h2, _⟩ := dd
  exact ⟨ob, h1, h2.2.1⟩
end
/-! ### the rules -/
/-- d[m] -/
def tNGet (P : Program) (w : World) (td ty : TE) : TE := fun σ H Q => td σ H fun x H1 => ty σ H1 fun y H2 => ∃ a q m T c, x = .ref a ∧ y = .ref q ∧ ND P w H2 a T ∧ MoK H2 m q ∧ valT T m = some c ∧ Q (.int c) H2
/-- d.get(m, 0) -/
def tNGet2 (P : Program) (w : World) (td ty tx : TE) : TE := fun σ H Q => td σ H fun x H1 => ∃ a T0, x = .ref a ∧ ND P w H1 a T0 ∧ ty σ H1 fun y H2 => tx σ H2 fun z H3 => ∃ q m T, y = .ref q ∧ ND P w H3 a T ∧ MoK H3 m q ∧ Q (((valT T m).map V.int).getD z) H3
/-- d[m] = v -/
def sNPut (P : Program) (w : World) (td ty tv : TE) : TS := fun D σ H => tv σ H fun v H1 => td σ H1 fun x H2 => ty σ H2 fun y H3 => ∃ a q m c T, x = .ref a ∧ y = .ref q ∧ v = .int c ∧ NDW P w H3 a T ∧ T.length < sizeLine ∧ MoK H3 m q ∧ ∀ H4, NPut P w H3 a m c T H4 → D.nx σ H4
section
variable {X : Cx} {o i e f value : Expr} {pos pos' apos cpos : Pos} {td ty tv tx : TE}
theorem pe_nget (hu : X.A.units + 9 < cLine) (ho : PE X o td) (hi : PE X i ty) (hs : NoSl i) : PE X (.Subscript o i pos) (tNGet X.prog X.w td ty) := by
  refine ⟨fun pins s σ H Q I h => ?_⟩
  refine subD_of PySem.F.slot_dict_getitem.lookup hs (thn (ho.run pins s σ H _ I h) fun u s1 ⟨x, H1, I1, rx, q1⟩ => thn (hi.run pins s1 σ H1 _ I1 q1) fun iv s2 ⟨y, H2, I2, ry, a, q, m, T, c, ex, ey, d, k, l, q2⟩ => ?_)
  subst ex ey
  obtain rfl : u = Value.ref a := rx
  obtain rfl : iv = Value.ref q := ry
  exact ⟨(nd_type I2 d).1, n_getItem hu I2 d k l fun w' s3 I3 rw' => ⟨.int c, H2, I3, rw', q2⟩⟩
theorem pe_nget2 (hu : X.A.units + 9 < cLine) (ho : PE X o td) (he : PE X e ty) (hf : PE X f tx) (m : M2 X o "get" apos e f cpos) : PE X (.Call (.Attribute o "get" apos) [e, f] [] cpos) (tNGet2 X.prog X.w td ty tx) := by
  refine ⟨fun pins s σ H Q I h => ?_⟩
  refine wpAny_Call_method m.base m.few m.line PySem.F.plainAttrs_dict PySem.F.slot_dict_get PySem.F.type_dict_get (thn (ho.run pins s σ H _ I h) fun u s1 ⟨x, H1, I1, rx, a, T0, ex, d, q1⟩ => ?_)
  subst ex
  obtain rfl : u = Value.ref a := rx
  obtain ⟨t1, t2, _⟩ := nd_type I1 d
  refine ⟨t1, t2, ?_⟩
  rw [m.trees]
  refine Calls.callWith_builtin rfl (Calls.evalArgs_plain (Calls.spliced_cons (thn (he.run pins s1 σ H1 _ I1 q1) fun iv s2 ⟨y, H2, I2, ry, q2⟩ =>
    Calls.spliced_cons (thn (hf.run pins s2 σ H2 _ I2 q2) fun fv s3 ⟨z, H3, I3, rz, q, mm, T, ey, d3, k, q3⟩ => Calls.spliced_nil ?_))))
  subst ey
  obtain rfl : iv = Value.ref q := ry
  exact n_get2 hu I3 d3 k rz fun w' s4 I4 rw' => ⟨_, H3, I4, rw', q3⟩
theorem ps_nput (hu : X.A.units + 9 < cLine) (ho : PE X o td) (hi : PE X i ty) (hv : PE X value tv) (hs : swapsWith value (some (.Subscript o i pos')) pos.line X.env = pure false) :
    PS X (.Assign [.Subscript o i pos'] value pos) (sNPut X.prog X.w td ty tv) := by
  refine ⟨fun pins s σ H D I h => ?_⟩
  refine wpAny_Assign_Subscript (thn (hv.run pins s σ H _ I h) fun r s1 ⟨v, H1, I1, rv, q1⟩ => thn (ho.run pins s1 σ H1 _ I1 q1) fun u s2 ⟨x, H2, I2, rx, q2⟩ => thn (hi.run pins s2 σ H2 _ I2 q2) fun iv s3 ⟨y, H3, I3, ry, a, q, m, c, T, ex, ey, ev, d, l, k, q3⟩ => ?_) hs
  subst ex ey ev
  obtain rfl : u = Value.ref a := rx
  obtain rfl : iv = Value.ref q := ry
  exact n_setItem hu I3 d l k rv fun H' s4 n I4 => ⟨σ, H', I4, q3 H' n⟩
/-- len(d) -/
def rLenN (P : Program) (w : World) : List V → Hp → VK → Prop := fun xs H Q => ∃ p T, xs = [.ref p] ∧ ND P w H p T ∧ Q (.int ((T.length : Nat) : Int)) H
theorem call_lenN : CallR X (.builtin "len") (rLenN X.prog X.w) := by
  intro pins s σ H xs us Q I r h
  obtain ⟨p, T, rfl, ⟨ks, e, mk, rfl⟩, q⟩ := h
  obtain ⟨u, rfl, rx⟩ := vals1 r
  obtain rfl : u = .ref p := rx
  obtain ⟨z, hd, ys, rel, dd⟩ := ndp_dict I.hok mk (ndp_of I.hok e)
  have hl : ks.length = ys.length := Paired.length rel
  refine call_len_dictH hd dd (by rw [← hl]; rw [sizeLine_eq] at z; omega) ?_
  rw [← hl]
  have : (strip ks).length = ks.length := by simp [strip]
  rw [this] at q
  exact ⟨.int ((ks.length : Nat) : Int), H, I.tok _, ⟨_, rfl⟩, q⟩
/-- {} -/
def tNNew (P : Program) (w : World) : TE := fun _ H Q => ∀ p, H p = none → Q (.ref p) (upd H p (NdO P w p []))
theorem nd_empty {P : Program} {w : World} (h : Heap) (hb : sysModules < h.objs.size) : NdP P w h.objs.size [] (h.push { cls := .type "dict", data := .dict #[] }) :=
  ⟨Nat.zero_le _, beq_eq_false_iff_ne.mpr (Ne.symm (Nat.ne_of_lt hb)), [], .nil, _, #[], 0, Heap.get?_push_size _ rfl, ⟨rfl, rfl, rfl⟩, rfl, rfl, List.nodup_nil⟩
theorem pe_nnew : PE X (.Dict [] [] pos) (tNNew X.prog X.w) := ⟨fun pins s σ H Q I h =>
  wpAny_Dict_empty ⟨.ref s.heap.objs.size, _, I.laid (a := s.heap.objs.size) (o := NdO X.prog X.w s.heap.objs.size []) (t' := s.toks) (fun _ _ q => Heap.get?_push_of_some _ q) (Nat.le_refl _) (ndo_new (nd_empty s.heap I.big)), rfl, h _ (I.hok.fresh (Nat.le_refl _))⟩⟩
/-- {m: v, ..} -/
def PutAll (P : Program) (w : World) (p : Addr) : List (V × V) → List (Mo × Int) → Hp → (List (Mo × Int) → Hp → Prop) → Prop
  | [], T, H, Q => Q T H
  | kv :: r, T, H, Q => ∃ q m c, kv = (.ref q, .int c) ∧ MoK H m q ∧ T.length < sizeLine ∧ ∀ H', NPut P w H p m c T H' → PutAll P w p r (putT T m c) H' Q
def tNDisp (P : Program) (w : World) (trs : List (TE × TE)) : TE := fun σ H Q => ∀ p, H p = none → tPairs trs σ (upd H p (NdO P w p [])) fun ps H2 => NDW P w H2 p [] ∧ PutAll P w p ps [] H2 fun T H3 => Q (.ref p) H3
theorem putAll_run {p : Addr} {pins : List (Addr × Obj)} {σ : L2.St} {A : Around} {E : Value → Shared → Prop} (hu : A.units + 9 < cLine) {Q : List (Mo × Int) → Hp → Prop} : ∀ (ps : List (V × V)) (vs : List (Value × Value)) (T : List (Mo × Int)) (H : Hp) (s : Shared), Inv X pins σ H s → VV ps vs → NDW X.prog X.w H p T →
    PutAll X.prog X.w p ps T H Q → wpAny (model X.prog X.w) A (storeAll p vs) (fun _ s' => ∃ T H', Inv X pins σ H' s' ∧ Q T H') E s
  | [], vs, T, H, s, I, r, d, q => by
    cases r
    unfold storeAll
    rw [List.forIn_nil]
    exact wpAny_pure ⟨T, H, I, q⟩
  | kv :: ps, vs, T, H, s, I, r, d, h => by
    cases r with
    | @cons _ uv _ vs' r1 r2 =>
      obtain ⟨q, m, c, rfl, k, l, h'⟩ := h
      obtain ⟨r3, r4⟩ := r1
      obtain ⟨u, v⟩ := uv
      obtain rfl : u = Value.ref q := r3
      unfold storeAll
      rw [List.forIn_cons]
      refine wpAny_bind (wpAny_bind (n_dictSet (c := c) hu I d l k r4 fun H' s' n I' => wpAny_pure ?_))
      exact putAll_run hu ps vs' _ H' s' I' r2 n.1 (h' H' n)
theorem pe_ndisp {keys : List (Option Expr)} {values : List Expr} {trs : List (TE × TE)} (hu : X.A.units + 9 < cLine) (h : PPs X pos keys values trs) (hall : keys.all (·.isSome) = true) (hl : keys.length = values.length) (h0 : keys ≠ [])
    (h15 : keys.length ≤ 15) : PE X (.Dict keys values pos) (tNDisp X.prog X.w trs) := by
  refine ⟨fun pins s σ H Q I q => ?_⟩
  have hn := I.hok.fresh (Nat.le_refl s.heap.objs.size)
  have I1 := I.laid (a := s.heap.objs.size) (o := NdO X.prog X.w s.heap.objs.size []) (h' := s.heap.push { cls := .type "dict", data := .dict #[] }) (t' := s.toks) (fun _ _ q => Heap.get?_push_of_some _ q) (Nat.le_refl _) (ndo_new (nd_empty s.heap I.big))
  refine wpAny_Dict_any hall hl h0 h15 (thn (h.run pins _ σ _ _ I1 (q _ hn)) fun ws s2 ⟨ps, H2, I2, rel, e, q2⟩ => ?_)
  exact thn (putAll_run hu ps ws [] H2 s2 I2 rel e q2) fun _ s3 ⟨T, H3, I3, q3⟩ => ⟨.ref s.heap.objs.size, H3, I3, rfl, q3⟩
end
end Po
set_option maxHeartbeats 2000000
/-! walks over dicts of monomials, comprehensions that make them -/
namespace Po
open PySem PySem.Spec L2 PyProof.Rows
section
variable {X : Cx} {pins : List (Addr × Obj)} {σ : L2.St} {H : Hp} {s : Shared} {d : Addr} {o : Obj} {ks : List Ent}
theorem frzN (I : Inv X pins σ H s) (h : H d = some (.frz o (NdO X.prog X.w d ks))) :
    (d == sysModules) = false ∧ s.heap.get? d = some o ∧ ∃ (es : Array DictEntry) (ep : Nat), o.data = .dict es ep ∧ s.heap.DictRaw d es ep ∧ es.size = ks.length ∧
      ∀ (i : Nat) (e : Ent) (hi : i < es.size), ks[i]? = some e → es[i].key = .ref e.2.1 ∧ RelV (.int e.2.2) es[i].val := by
  obtain ⟨hd, q⟩ := I.hok d _ h
  obtain ⟨z, m, xs, r, o', es, ep, ho, hc, hdt, he, hn⟩ := (show NdP X.prog X.w d ks s.heap from q.1)
  rw [hd] at ho
  cases ho
  have l1 : es.size = xs.length := by rw [← Array.length_toList, he, List.length_map]
  have l2 : ks.length = xs.length := Paired.length r
  refine ⟨m, hd, es, ep, hdt, ⟨o, hd, hc, hdt⟩, by omega, fun i e hi hk => ?_⟩
  obtain ⟨x, hx, h1, h2, h3⟩ := paired_get r hk
  have q : es.toList[i]? = some (entryOfKey (nestedKind X.prog X.w) x) := by rw [he, List.getElem?_map, hx]; rfl
  rw [Array.getElem?_toList, Array.getElem?_eq_getElem hi] at q
  have q' := Option.some.inj q
  rw [q']
  exact ⟨by rw [h2]; rfl, h3⟩
end
abbrev NF (P : Program) (w : World) (d : Addr) (o : Obj) (ks : List Ent) (H : Hp) : Prop := H d = some (.frz o (NdO P w d ks))
/-- keys, values, pairs of the locked dict -/
def Ink (P : Program) (w : World) (d : Addr) (o : Obj) (ks : List Ent) : It :=
  ⟨fun i H => NF P w d o ks H ∧ i < ks.length, fun i H x H' => H' = H ∧ ∃ e, ks[i]? = some e ∧ x = .ref e.2.1, fun i H => NF P w d o ks H ∧ ks.length ≤ i⟩
def Inv' (P : Program) (w : World) (d : Addr) (o : Obj) (ks : List Ent) : It :=
  ⟨fun i H => NF P w d o ks H ∧ i < ks.length, fun i H x H' => H' = H ∧ ∃ e, ks[i]? = some e ∧ x = .int e.2.2, fun i H => NF P w d o ks H ∧ ks.length ≤ i⟩
def Ini (P : Program) (w : World) (d : Addr) (o : Obj) (ks : List Ent) : It :=
  ⟨fun i H => NF P w d o ks H ∧ i < ks.length, fun i H x H' => ∃ T e, ks[i]? = some e ∧ x = .ref T ∧ H T = none ∧ H' = upd H T (.tup [.ref e.2.1, .int e.2.2]), fun i H => NF P w d o ks H ∧ ks.length ≤ i⟩
section
variable {P : Program} {w : World} {K : PySem.W.Frag} {tg : Expr} {d : Addr} {o : Obj} {es : Array DictEntry} {ep : Nat} {ks : List Ent}
theorem turn_nkeys (it : Addr) (hod : o.data = .dict es ep) : Turn P w K tg (Ink P w d o ks) [it] it (fun i h => h.IsKeyIter it d i ks.length ep) where
  mem := by simp
  obj := fun i h st b hb => by
    have e : b = it := by simpa using hb
    subst e
    obtain ⟨oi, e, c, dd⟩ := st
    exact ⟨oi, e, fun v z => by rw [dd] at z; cases z⟩
  keep := fun i h h' st k => st.at fun oi e => k it (by simp) oi e
  item := by
    intro X hP hw hK hc i pins s σ H E I hf st hg
    subst hP hw hK
    obtain ⟨hd, hi⟩ := hg
    obtain ⟨f0, f1, f2, f3, f4, f5⟩ := hf it (by simp)
    obtain ⟨hs, hgd, es', ep', hdt, hr, hsz, ent⟩ := frzN I hd
    obtain ⟨rfl, rfl⟩ := dict_ep hod hdt
    obtain ⟨e, hkv⟩ : ∃ p, ks[i]? = some p := ⟨ks[i], List.getElem?_eq_getElem hi⟩
    have hi' : i < es'.size := by omega
    obtain ⟨k1, k2⟩ := ent i e hi' hkv
    rw [← hsz] at st
    refine wpAny_pyNext_keys_item_raw st hr hi' fun h' st' sb => ?_
    have I1 : Inv X pins σ H { s with heap := h' } := I.turned (t' := s.toks) (fun b ob hb e => (sb.2 b hb).trans e) f0 f1 f3 f4 f5
    obtain ⟨oi, e0, c, dd⟩ := id st'
    refine ⟨_, rfl, go_of (s := { s with heap := h' }) e0 c dd (by decide) ⟨.ref e.2.1, H, I1, k1, ⟨rfl, e, hkv, rfl⟩, ?_, fun b hb => (hf b hb).1⟩⟩
    show h'.IsKeyIter it d (i + 1) ks.length _
    rw [← hsz]
    exact st'
  done := by
    intro X hP hw hK hc i pins s σ H E I hf st hg
    subst hP hw hK
    obtain ⟨hd, hi⟩ := hg
    obtain ⟨f0, f1, f2, f3, f4, f5⟩ := hf it (by simp)
    obtain ⟨hs, hgd, es', ep', hdt, hr, hsz, ent⟩ := frzN I hd
    obtain ⟨rfl, rfl⟩ := dict_ep hod hdt
    rw [← hsz] at st
    exact wpAny_pyNext_keys_end_raw (I.ok.hd hc) st hr (by omega) fun h' eb => ⟨rfl, I.turned (t' := s.toks) (fun b ob hb e => eb b ob hb e) f0 f1 f3 f4 f5⟩
  self := fun A i s Q E st h => by
    refine wpAny_pyIter_slot st.typeIs F.slot_dict_keyiterator_iter (wpAny_call_entry F.slot_dict_keyiterator_iter st.typeIs F.entry_dict_keyiterator_iter ?_ (F.args_dict_keyiterator_iter_1 _))
    show wpAny _ _ (ret (.ref it)) _ _ s
    exact wpAny_pure ⟨_, rfl, "dict_keyiterator", _, st.typeIs, F.slot_dict_keyiterator_next.lookup, h⟩
theorem turn_nvals (it : Addr) (hod : o.data = .dict es ep) : Turn P w K tg (Inv' P w d o ks) [it] it (fun i h => h.IsValIter it d i ks.length ep) where
  mem := by simp
  obj := fun i h st b hb => by
    have e : b = it := by simpa using hb
    subst e
    obtain ⟨oi, e, c, dd⟩ := st
    exact ⟨oi, e, fun v z => by rw [dd] at z; cases z⟩
  keep := fun i h h' st k => st.at fun oi e => k it (by simp) oi e
  item := by
    intro X hP hw hK hc i pins s σ H E I hf st hg
    subst hP hw hK
    obtain ⟨hd, hi⟩ := hg
    obtain ⟨f0, f1, f2, f3, f4, f5⟩ := hf it (by simp)
    obtain ⟨hs, hgd, es', ep', hdt, hr, hsz, ent⟩ := frzN I hd
    obtain ⟨rfl, rfl⟩ := dict_ep hod hdt
    obtain ⟨e, hkv⟩ : ∃ p, ks[i]? = some p := ⟨ks[i], List.getElem?_eq_getElem hi⟩
    have hi' : i < es'.size := by omega
    obtain ⟨k1, k2⟩ := ent i e hi' hkv
    rw [← hsz] at st
    refine wpAny_pyNext_values_item_raw st hr hi' fun h' st' sb => ?_
    have I1 : Inv X pins σ H { s with heap := h' } := I.turned (t' := s.toks) (fun b ob hb e => (sb.2 b hb).trans e) f0 f1 f3 f4 f5
    obtain ⟨oi, e0, c, dd⟩ := id st'
    refine ⟨_, rfl, go_of (s := { s with heap := h' }) e0 c dd (by decide) ⟨.int e.2.2, H, I1, k2, ⟨rfl, e, hkv, rfl⟩, ?_, fun b hb => (hf b hb).1⟩⟩
    show h'.IsValIter it d (i + 1) ks.length _
    rw [← hsz]
    exact st'
  done := by
    intro X hP hw hK hc i pins s σ H E I hf st hg
    subst hP hw hK
    obtain ⟨hd, hi⟩ := hg
    obtain ⟨f0, f1, f2, f3, f4, f5⟩ := hf it (by simp)
    obtain ⟨hs, hgd, es', ep', hdt, hr, hsz, ent⟩ := frzN I hd
    obtain ⟨rfl, rfl⟩ := dict_ep hod hdt
    rw [← hsz] at st
    exact wpAny_pyNext_values_end_raw (I.ok.hd hc) st hr (by omega) fun h' eb => ⟨rfl, I.turned (t' := s.toks) (fun b ob hb e => eb b ob hb e) f0 f1 f3 f4 f5⟩
  self := fun A i s Q E st h => wpAny_pyIter_valiter st h
theorem turn_nitems {elts : List Expr} {kk : Nat} {tpos : Pos} (it : Addr) (hod : o.data = .dict es ep) :
    Turn P w K (.Tuple elts kk tpos) (Ini P w d o ks) [it] it (fun i h => ∃ ok ov, IsItemIter h it d i ks.length ep ok ov) where
  mem := by simp
  obj := fun i h st b hb => by
    have e : b = it := by simpa using hb
    subst e
    obtain ⟨ok, ov, e⟩ := st
    exact ⟨_, e, fun v z => nomatch z⟩
  keep := fun i h h' st k => let ⟨ok, ov, e⟩ := st; ⟨ok, ov, k it (by simp) _ e⟩
  item := by
    intro X hP hw hK hc i pins s σ H E I hf st hg
    subst hP hw hK
    obtain ⟨hd, hi⟩ := hg
    obtain ⟨hs, hgd, es', ep', hdt, hr, hsz, ent⟩ := frzN I hd
    obtain ⟨rfl, rfl⟩ := dict_ep hod hdt
    obtain ⟨e, hkv⟩ : ∃ p, ks[i]? = some p := ⟨ks[i], List.getElem?_eq_getElem hi⟩
    have hi' : i < es'.size := by omega
    obtain ⟨k1, k2⟩ := ent i e hi' hkv
    obtain ⟨ok, ov, he⟩ := st
    rw [← hsz] at he
    have hlt : it < s.heap.objs.size := Heap.lt_size he
    refine wpAny_pyNext_items_item_raw he hr hi' fun h' ho hT hz hk => ?_
    refine ⟨_, rfl, wpAny_letOwnedTupleGo_items (s := { s with heap := h' }) ho fun h'' he' sb => ?_⟩
    have hT2 : h''.get? s.heap.objs.size = some { cls := .type "tuple", data := .seq #[es'[i].key, es'[i].val] } := (sb.2 _ (Nat.ne_of_gt hlt)).trans hT
    have new : ObjOk X.prog X.w (upd H s.heap.objs.size (.tup [.ref e.2.1, .int e.2.2])) h'' s.heap.objs.size (.tup [.ref e.2.1, .int e.2.2]) :=
      ⟨by show 2 ≤ sizeLine; decide, [es'[i].key, es'[i].val], .cons k1 (.cons k2 .nil), ⟨_, hT2, rfl, _, rfl⟩⟩
    have I1 : Inv X pins σ (upd H s.heap.objs.size (.tup [.ref e.2.1, .int e.2.2])) { s with heap := h'' } :=
      I.turnedNew (t' := s.toks) (ch := [it]) (fun b ob hb e => (sb.2 b (by simpa using hb)).trans (hk b ob (by simpa using hb) e)) hf (Nat.le_refl _) new
    refine ⟨.ref s.heap.objs.size, _, I1, rfl, ⟨_, e, hkv, rfl, I.hok.fresh (Nat.le_refl _), rfl⟩, ⟨es'[i].key, es'[i].val, ?_⟩, fun b hb => ?_⟩
    · rw [← hsz]; exact he'
    · have e : b = it := by simpa using hb
      rw [e, upd_ne (Nat.ne_of_lt hlt)]
      exact (hf it (by simp)).1
  done := by
    intro X hP hw hK hc i pins s σ H E I hf st hg
    subst hP hw hK
    obtain ⟨hd, hi⟩ := hg
    obtain ⟨f0, f1, f2, f3, f4, f5⟩ := hf it (by simp)
    obtain ⟨hs, hgd, es', ep', hdt, hr, hsz, ent⟩ := frzN I hd
    obtain ⟨rfl, rfl⟩ := dict_ep hod hdt
    obtain ⟨ok, ov, he⟩ := st
    rw [← hsz] at he
    exact wpAny_pyNext_items_end_raw (I.ok.hd hc) he hr (by omega) fun h' eb => ⟨rfl, I.turned (t' := s.toks) (fun b ob hb e => eb b ob hb e) f0 f1 f3 f4 f5⟩
  self := fun A i s Q E st h => let ⟨_, _, e⟩ := st; PySem.W.kcp_self e h
end
def iNKeys (P : Program) (w : World) (td : TE) : TI := fun σ H R => td σ H fun x H1 => ∃ d o ks, x = .ref d ∧ NF P w d o ks H1 ∧ R (Ink P w d o ks) H1
def iNVals (P : Program) (w : World) (td : TE) : TI := fun σ H R => td σ H fun x H1 => ∃ d o ks, x = .ref d ∧ NF P w d o ks H1 ∧ R (Inv' P w d o ks) H1
def iNItems (P : Program) (w : World) (td : TE) : TI := fun σ H R => td σ H fun x H1 => ∃ d o ks, x = .ref d ∧ NF P w d o ks H1 ∧ R (Ini P w d o ks) H1
section
variable {X : Cx} {tg e : Expr} {td : TE} {apos cpos : Pos}
theorem pi_nkeys (he : PE X e td) : PI X tg e (iNKeys X.prog X.w td) := by
  refine ⟨fun pins s σ H R I h => ?_⟩
  refine thn (he.run pins s σ H _ I h) fun u s1 ⟨x, H1, I1, rx, d, o, ks, ex, hd, q⟩ => ?_
  subst ex
  obtain rfl : u = Value.ref d := rx
  obtain ⟨hs, hgd, es, ep, hdt, hr, hsz, ent⟩ := frzN I1 hd
  refine wpAny_pyIter_dict_raw hs hr (pi_one (tk := s1.toks) I1 _ (turn_nkeys _ hdt) ⟨_, Heap.get?_push_size _ rfl, rfl, ?_⟩ q)
  rw [hsz] <;> rfl
theorem nf_noDict {pins : List (Addr × Obj)} {σ : L2.St} {H : Hp} {s : Shared} {d : Addr} {o : Obj} {ks : List Ent} (I : Inv X pins σ H s) (h : NF X.prog X.w d o ks H) : ∀ b, Value.ref d = .ref b → ∃ ob, s.heap.get? b = some ob ∧ ob.dict = none := fun b q => by
  cases q
  obtain ⟨hs, hgd, es, ep, hdt, ⟨o', ho, hc, _⟩, _⟩ := frzN I h
  exact ⟨o', ho, hc.2.1⟩
theorem pi_nvalues (he : PE X e td) (hbase : attributeBase e "values" X.env (eval e X.env) = eval e X.env := by rfl) (hline : (apos.endLine == cpos.line) = true := by rfl) : PI X tg (.Call (.Attribute e "values" apos) [] [] cpos) (iNVals X.prog X.w td) := by
  refine ⟨fun pins s σ H R I h => ?_⟩
  refine wpAny_Call_method (T := "dict") (id := "dict.values") hbase rfl hline F.plainAttrs_dict F.slot_dict_values F.type_dict_values (thn (he.run pins s σ H _ I h) fun u s1 ⟨x, H1, I1, rx, d, o, ks, ex, hd, q⟩ => ?_)
  subst ex
  obtain rfl : u = Value.ref d := rx
  obtain ⟨hs, hgd, es, ep, hdt, hr, hsz, ent⟩ := frzN I1 hd
  refine ⟨hr.typeIs, nf_noDict I1 hd, ?_⟩
  have I2 : Inv X pins σ H1 { s1 with heap := s1.heap.push { cls := .type "dict_values", data := .fields #[.ref d] } } := I1.kept (t' := s1.toks) fun b ob q => Heap.get?_push_of_some _ q
  have fin : wpAny (model X.prog X.w) X.A (pyIter (.ref s1.heap.objs.size)) (PIE X pins σ tg R) X.xe { s1 with heap := s1.heap.push { cls := .type "dict_values", data := .fields #[.ref d] } } := by
    refine wpAny_pyIter_values_raw (d := d) ⟨_, Heap.get?_push_size _ rfl, rfl, rfl⟩ (hr.at fun o e => Heap.get?_push_of_some _ e) (pi_one (tk := s1.toks) I2 _ (turn_nvals _ hdt) ⟨_, Heap.get?_push_size _ rfl, rfl, ?_⟩ q)
    rw [hsz] <;> rfl
  show wpAny _ _ (callWith cpos (.builtin "dict.values") [.ref d] [] []) _ X.xe s1
  exact method_meetsIn F.slot_dict_values F.entry_dict_values rfl (PySem.evalArgs_none ⟨rfl, hr.typeIs, F.args_dict_values_1 _, _, meets_dict_values_raw d hs, ⟨⟨es, ep, hr⟩, fin⟩⟩)
theorem pi_nitems {elts : List Expr} {kk : Nat} {tpos : Pos} (he : PE X e td) (hbase : attributeBase e "items" X.env (eval e X.env) = eval e X.env := by rfl) (hline : (apos.endLine == cpos.line) = true := by rfl) :
    PI X (.Tuple elts kk tpos) (.Call (.Attribute e "items" apos) [] [] cpos) (iNItems X.prog X.w td) := by
  refine ⟨fun pins s σ H R I h => ?_⟩
  refine wpAny_Call_method (T := "dict") (id := "dict.items") hbase rfl hline F.plainAttrs_dict F.slot_dict_items F.type_dict_items (thn (he.run pins s σ H _ I h) fun u s1 ⟨x, H1, I1, rx, d, o, ks, ex, hd, q⟩ => ?_)
  subst ex
  obtain rfl : u = Value.ref d := rx
  obtain ⟨hs, hgd, es, ep, hdt, hr, hsz, ent⟩ := frzN I1 hd
  refine ⟨hr.typeIs, nf_noDict I1 hd, ?_⟩
  have I2 : Inv X pins σ H1 { s1 with heap := s1.heap.push { cls := .type "dict_items", data := .fields #[.ref d] } } := I1.kept (t' := s1.toks) fun b ob q => Heap.get?_push_of_some _ q
  have fin : wpAny (model X.prog X.w) X.A (pyIter (.ref s1.heap.objs.size)) (PIE X pins σ (.Tuple elts kk tpos) R) X.xe { s1 with heap := s1.heap.push { cls := .type "dict_items", data := .fields #[.ref d] } } := by
    refine wpAny_pyIter_items_raw (d := d) ⟨_, Heap.get?_push_size _ rfl, rfl, rfl⟩ (hr.at fun o e => Heap.get?_push_of_some _ e) (pi_one (tk := s1.toks) I2 _ (turn_nitems _ hdt) ⟨.none, .none, ?_⟩ q)
    rw [← hsz]
    exact Heap.get?_push_size _ rfl
  show wpAny _ _ (callWith cpos (.builtin "dict.items") [.ref d] [] []) _ X.xe s1
  exact method_meetsIn F.slot_dict_items F.entry_dict_items rfl (PySem.evalArgs_none ⟨rfl, hr.typeIs, F.args_dict_items_1 _, _, meets_dict_items_raw d hs, ⟨⟨es, ep, hr⟩, fin⟩⟩)
end
section
variable {P : Program} {w : World} {d : Addr} {o : Obj} {ks : List Ent}
theorem walk_nkeys : Walk (Ink P w d o ks) ks.length (NF P w d o ks) (fun i H x H' => H' = H ∧ ∃ e, ks[i]? = some e ∧ x = .ref e.2.1) :=
  ⟨fun _ _ hi q => ⟨q, hi⟩, fun _ q => ⟨q, Nat.le_refl _⟩, fun _ _ _ _ _ _ y => y⟩
theorem walk_nvals : Walk (Inv' P w d o ks) ks.length (NF P w d o ks) (fun i H x H' => H' = H ∧ ∃ e, ks[i]? = some e ∧ x = .int e.2.2) :=
  ⟨fun _ _ hi q => ⟨q, hi⟩, fun _ q => ⟨q, Nat.le_refl _⟩, fun _ _ _ _ _ _ y => y⟩
theorem walk_nitems : Walk (Ini P w d o ks) ks.length (NF P w d o ks) (fun i H x H' => ∃ T e, ks[i]? = some e ∧ x = .ref T ∧ H T = none ∧ H' = upd H T (.tup [.ref e.2.1, .int e.2.2])) :=
  ⟨fun _ _ hi q => ⟨q, hi⟩, fun _ q => ⟨q, Nat.le_refl _⟩, fun _ _ _ _ _ _ y => y⟩
end
/-! ### {m: v for ..} -/
section
variable {X : Cx}
def tDcN (P : Program) (w : World) (wi : TI) (g : TG) (tt : TT) (tk tv : TE) (vs : List Nat) : TE := fun σ H Q => wi σ H fun J H1 => ∀ D, H1 D = none → ∃ W : Nat → Nat → Hp → Prop, (∃ m, W 0 m (upd H1 D (NdO P w D []))) ∧ ∀ i m H, W i m H →
  (J.stop i H ∧ Q (.ref D) H) ∨ (J.go i H ∧ ∃ Nx : Hp → Prop, (∀ H', Nx H' → ∃ m', m' < m ∧ W (i + 1) m' H') ∧ ∀ x H', J.yld i H x H' → g x (wipe σ vs) H' fun σ2 H2 => wipe σ2 vs = wipe σ vs ∧ tt σ2 H2 fun b H3 =>
    if b = true then tk σ2 H3 fun y H4 => tv σ2 H4 fun z H5 => ∃ q m c T, y = .ref q ∧ z = .int c ∧ NDW P w H5 D T ∧ T.length < sizeLine ∧ MoK H5 m q ∧ ∀ H6, NPut P w H5 D m c T H6 → Nx H6 else Nx H3)
theorem dcN_core {pins : List (Addr × Obj)} {s : Shared} {σ : L2.St} {H : Hp} {Q : VK} {kx vx tg iter : Expr} {ifs : List Expr} {scope : Scope} {own : List (Str × Nat)} {pos pos' : Pos} {wi : TI} {g : TG} {tt : TT} {tk tv : TE} {use : Option (Value → Sem Unit)} {Qf : Value → Shared → Prop}
    (hu : X.A.units + 9 < cLine) (hc : X.calm = true) (hN : X.N.Nodup) (I : Inv X pins σ H s) (hi : PI X tg iter wi) (ok : BlkOk X.N X.env.scope scope own)
    (hg : ∀ (s : Shared) (H : Hp) (C : Addr) (cl : List (Str × Addr)) (fp : List Addr), PG (X.blk s H scope (compEnvC scope cl C X.env) fp) tg g) (ht : ∀ (s : Shared) (H : Hp) (C : Addr) (cl : List (Str × Addr)) (fp : List Addr), PTs (X.blk s H scope (compEnvC scope cl C X.env) fp) ifs tt)
    (hk : ∀ (s : Shared) (H : Hp) (C : Addr) (cl : List (Str × Addr)) (fp : List Addr), PE (X.blk s H scope (compEnvC scope cl C X.env) fp) kx tk)
    (he : ∀ (s : Shared) (H : Hp) (C : Addr) (cl : List (Str × Addr)) (fp : List Addr), PE (X.blk s H scope (compEnvC scope cl C X.env) fp) vx tv) (hs : ∀ x, foldedSetIterable iter X.env x = pure x)
    (h : tDcN X.prog X.w wi g tt tk tv (own.map (·.2)) σ H Q)
    (hRR : ∀ D C s' m H', Inv X pins σ H' s' → Q (.ref D) H' → s'.heap.Ns C m → FpOk X pins H' C → compPost (model X.prog X.w) X.A X.xe use Qf (.ref D) C (.ok .next) s') :
    wpAny (model X.prog X.w) X.A (comprehension (.DictComp kx vx [⟨tg, iter, ifs, 0⟩] scope pos) scope X.env pos' newDict false (eval iter X.env) use) Qf X.xe s := by
  have hfree : ∀ y ∈ scope.names, y.2 = .free → ∃ c, X.env.cells.lookup y.1 = some c := fun y hy e => by
    rcases ok.free y hy e with k | k
    · exact I.ok.has _ (.inl k)
    · exact I.ok.has _ (.inr k)
  refine wpAny_comprehension_free (use := use) rfl hs (closure_ok hfree) ok.kind (fun y hy e => by rw [ok.uniq y hy, e])
    (thn (hi.run pins s σ H _ I h) fun xv s1 hx => thn hx fun itv s2 h2 => ?_)
  obtain ⟨it, fp, tn, J, H2, e, I2, T, st2, f2, q⟩ := h2
  subst e
  refine wpAny_newObj_type (newEnv_comp ?_)
  generalize hD : s2.heap.objs.size = D
  have hDn : H2 D = none := I2.hok.fresh (Nat.le_of_eq hD)
  obtain ⟨W, ⟨m0, w0⟩, turn⟩ := q D hDn
  generalize hs3 : ({ s2 with heap := s2.heap.push { cls := .type "dict", data := .dict #[] } } : Shared) = s3
  have I3 : Inv X pins σ (upd H2 D (NdO X.prog X.w D [])) s3 := by
    rw [← hs3]
    refine I2.laid (t' := s2.toks) (fun b o e => Heap.get?_push_of_some _ e) (Nat.le_of_eq hD) ?_
    rw [← hD]
    exact ndo_new (nd_empty s2.heap I2.big)
  have h3 : s3.heap = s2.heap.push { cls := .type "dict", data := .dict #[] } := by rw [← hs3]
  have sz : ∀ b ∈ fp, b < s2.heap.objs.size := fun b hb => by
    obtain ⟨o, e, _⟩ := T.obj _ _ st2 b hb
    exact Heap.lt_size e
  have f3 : ∀ b ∈ fp, FpOk X pins (upd H2 D (NdO X.prog X.w D [])) b ∧ b < s3.heap.objs.size := fun b hb => by
    have hlt := sz b hb
    refine ⟨⟨?_, (f2 b hb).2⟩, by rw [h3, Heap.size_push]; exact Nat.lt_succ_of_lt hlt⟩
    rw [upd_ne (by rw [← hD]; exact Nat.ne_of_lt hlt)]
    exact (f2 b hb).1
  have st3 : tn 0 s3.heap := T.keep _ _ _ st2 fun b _ o e => by rw [h3]; exact Heap.get?_push_of_some _ e
  have I4 := block_start I3 ok hN f3
  have pg := hg s3 (upd H2 D (NdO X.prog X.w D [])) s3.heap.objs.size (cellsFrom (s3.heap.objs.size + 1) scope.names (cloFrom X.env.cells scope.names [])) fp
  have pt := ht s3 (upd H2 D (NdO X.prog X.w D [])) s3.heap.objs.size (cellsFrom (s3.heap.objs.size + 1) scope.names (cloFrom X.env.cells scope.names [])) fp
  have pk := hk s3 (upd H2 D (NdO X.prog X.w D [])) s3.heap.objs.size (cellsFrom (s3.heap.objs.size + 1) scope.names (cloFrom X.env.cells scope.names [])) fp
  have pe := he s3 (upd H2 D (NdO X.prog X.w D [])) s3.heap.objs.size (cellsFrom (s3.heap.objs.size + 1) scope.names (cloFrom X.env.cells scope.names [])) fp
  show codeAny _ _ (.compStart (.DictComp kx vx [⟨tg, iter, ifs, 0⟩] scope pos) 0 (.ref it) (.ref D) (compEnvC scope (cellsFrom (s3.heap.objs.size + 1) scope.names (cloFrom X.env.cells scope.names [])) s3.heap.objs.size X.env)) (compPost (model X.prog X.w) X.A X.xe use Qf (.ref D) s3.heap.objs.size) { s3 with heap := pushCells (s3.heap.push { cls := .type "dict", data := .dict #[] }) scope.names }
  have nfp : ∀ b ∈ fp, (upd H2 D (NdO X.prog X.w D [])) b = none := fun b hb => (f3 b hb).1.1
  generalize hce : compEnvC scope (cellsFrom (s3.heap.objs.size + 1) scope.names (cloFrom X.env.cells scope.names [])) s3.heap.objs.size X.env = ce at I4 pg pt pk pe ⊢
  have cL : ce.locals = s3.heap.objs.size := by subst hce; rfl
  generalize hH3 : upd H2 D (NdO X.prog X.w D []) = H3 at I3 I4 pg pt pk pe w0 nfp f3
  generalize hs4 : ({ s3 with heap := pushCells (s3.heap.push { cls := .type "dict", data := .dict #[] }) scope.names } : Shared) = s4 at I4 ⊢
  have st4 : tn 0 s4.heap := T.keep _ _ _ st3 fun b _ o e => by rw [← hs4]; exact pushCells_keeps _ _ _ _ (Heap.get?_push_of_some _ e)
  have stat : ∀ {σ' : L2.St} {H' : Hp} {s' : Shared}, Inv (X.blk s3 H3 scope ce fp) [] σ' H' s' → (∀ b ∈ fp, H' b = none) → ∀ b ∈ fp, FpOk (X.blk s3 H3 scope ce fp) [] H' b := fun {σ' H' s'} I' hn b hb =>
    ⟨hn b hb, (I'.ok.exf b hb).1, I'.ok.exfs b hb, .inl hb, fun x c e => (I'.ok.exf b hb).2 x c e, fun p hp => absurd (show p ∈ ([] : List (Addr × Obj)) ++ [] from hp) (by simp)⟩
  have loop : codeAny (model X.prog X.w) X.A (.compLoop (.DictComp kx vx [⟨tg, iter, ifs, 0⟩] scope pos) 0 (.ref it) (.ref D) ce) (compPost (model X.prog X.w) X.A X.xe use Qf (.ref D) s3.heap.objs.size) s4 := by
    refine compLoop_anyD (fun n s' => ∃ i H', Inv (X.blk s3 H3 scope ce fp) [] (wipe σ (own.map (·.2))) H' s' ∧ tn i s'.heap ∧ (∀ b ∈ fp, H' b = none) ∧ W i n H') ?_ m0 ⟨0, H3, I4, st4, nfp, w0⟩
    rintro n s5 ⟨i, H5, I5, st5, n5, w5⟩
    rcases turn i n H5 w5 with ⟨stop, qq⟩ | ⟨go, Nx, hNx, step⟩
    · have td := T.done (X.blk s3 H3 scope ce fp) rfl rfl rfl hc i [] s5 _ H5 (fun _ _ => False) I5 (stat I5 n5) st5 stop
      refine thnF td fun r s6 ⟨hr, I6⟩ => ?_
      subst hr
      have I7 : Inv X pins σ H5 s6 := I3.call' (ch := fp) I6.os I6.base I6.hok I6.bare fun b hb => ⟨(f3 b hb).1.2.2.2.1, (f3 b hb).1.2.1, (f3 b hb).1.2.2.2.2.1, (f3 b hb).1.2.2.2.2.2⟩
      have nC : H5 s3.heap.objs.size = none := by
        have z : H5 ce.locals = none := I6.free
        rw [cL] at z
        exact z
      obtain ⟨m, hn, _⟩ := I6.loc
      have hn : s6.heap.Ns ce.locals m := hn
      rw [cL] at hn
      exact hRR D s3.heap.objs.size s6 m H5 I7 qq hn (I3.fpOk (Nat.le_refl _) nC)
    · have ti := T.item (X.blk s3 H3 scope ce fp) rfl rfl rfl hc i [] s5 _ H5 (fun _ _ => False) I5 (stat I5 n5) st5 go
      refine thnF ti fun r s6 ⟨u, hr, h6⟩ => ?_
      subst hr
      refine thnF h6 fun _ s7 ⟨x, H7, I7, r7, y7, st7, n7⟩ => ?_
      have I7' := I7.pinned (stat I7 n7) (T.obj _ _ st7)
      refine thnF (pg.run _ s7 _ H7 x u _ I7' r7 (step x H7 y7)) fun _ s8 ⟨σ8, H8, I8, hw8, q8⟩ => ?_
      refine thnF (pt.run _ s8 σ8 H8 _ I8 q8) fun b s9 ⟨H9, I9, q9⟩ => ?_
      have fin : ∀ {s' : Shared} {H' : Hp}, Inv (X.blk s3 H3 scope ce fp) ([] ++ pinsAt fp s7.heap) σ8 H' s' → Nx H' → ∃ m, m < n ∧ ∃ i H', Inv (X.blk s3 H3 scope ce fp) [] (wipe σ (own.map (·.2))) H' s' ∧ tn i s'.heap ∧ (∀ b ∈ fp, H' b = none) ∧ W i m H' := fun {s' H'} I' nx => by
        obtain ⟨m', hm, w'⟩ := hNx H' nx
        have pin' : ∀ b ∈ fp, ∀ o, s7.heap.get? b = some o → s'.heap.get? b = some o ∧ H' b = none := fun b hb o e =>
          let z := I'.pin (b, o) (List.mem_append_right _ (List.mem_append_right _ (mem_pinsAt hb e)))
          ⟨z.1, z.2.1⟩
        have hl : (wipe σ (own.map (·.2))).length = σ8.length := by rw [← hw8, wipe_length]
        refine ⟨m', hm, i + 1, H', (I'.unpinned (pins := [])).weak hl (fun j v e => ?_), T.keep _ _ _ st7 fun b hb o e => (pin' b hb o e).1, fun b hb => ?_, w'⟩
        · rw [← hw8] at e
          exact (wipe_some e).1
        · obtain ⟨o, e, _⟩ := T.obj _ _ st7 b hb
          exact (pin' b hb o e).2
      cases b with
      | false =>
        simp only [Bool.false_eq_true, if_false] at q9 ⊢
        exact fin I9 q9
      | true =>
        simp only [if_true] at q9 ⊢
        refine thnF (pk.run _ s9 σ8 H9 _ I9 q9) fun z s10 ⟨yk, H10, I10, r10, q10⟩ => ?_
        refine thnF (pe.run _ s10 σ8 H10 _ I10 q10) fun z2 s11 ⟨yv, H11, I11, r11, qk, mm, cc, TT, ek, ev, hD11, hz11, k11, nx⟩ => ?_
        subst ek ev
        obtain rfl : z = Value.ref qk := r10
        exact n_dictSet (X := X.blk s3 H3 scope ce fp) hu I11 hD11 hz11 k11 r11 fun H12 s12 n12 I12 => fin I12 (nx H12 n12)
  exact codeAny_compStart_dict loop (T.self X.A 0 _ _ _ st4 loop)
theorem pe_dcN {kx vx tg iter : Expr} {ifs : List Expr} {scope : Scope} {own : List (Str × Nat)} {pos : Pos} {wi : TI} {g : TG} {tt : TT} {tk tv : TE} (hu : X.A.units + 9 < cLine) (hc : X.calm = true) (hN : X.N.Nodup) (hi : PI X tg iter wi) (ok : BlkOk X.N X.env.scope scope own)
    (hg : ∀ (s : Shared) (H : Hp) (C : Addr) (cl : List (Str × Addr)) (fp : List Addr), PG (X.blk s H scope (compEnvC scope cl C X.env) fp) tg g) (ht : ∀ (s : Shared) (H : Hp) (C : Addr) (cl : List (Str × Addr)) (fp : List Addr), PTs (X.blk s H scope (compEnvC scope cl C X.env) fp) ifs tt)
    (hk : ∀ (s : Shared) (H : Hp) (C : Addr) (cl : List (Str × Addr)) (fp : List Addr), PE (X.blk s H scope (compEnvC scope cl C X.env) fp) kx tk)
    (he : ∀ (s : Shared) (H : Hp) (C : Addr) (cl : List (Str × Addr)) (fp : List Addr), PE (X.blk s H scope (compEnvC scope cl C X.env) fp) vx tv) (hs : ∀ x, foldedSetIterable iter X.env x = pure x := by intro _; rfl) :
    PE X (.DictComp kx vx [⟨tg, iter, ifs, 0⟩] scope pos) (tDcN X.prog X.w wi g tt tk tv (own.map (·.2))) := by
  refine ⟨fun pins s σ H Q I h => ?_⟩
  rw [arm_eval_DictComp]
  refine dcN_core hu hc hN I hi ok hg ht hk he hs h fun D C s' m H' I' q hn f => ⟨m, hn, fun h'' sb => ?_⟩
  obtain ⟨f0, f1, f2, f3, f4, f5⟩ := f
  exact ⟨.ref D, H', I'.turned (t' := s'.toks) (fun b o hb e => (sb.2 b hb).trans e) f0 f1 f3 f4 f5, rfl, q⟩
theorem dcN_it {P : Program} {w : World} {J : It} {n : Nat} {G : Hp → Prop} {Y : Nat → Hp → V → Hp → Prop} (W : Walk J n G Y) {g : TG} {tt : TT} {tk tv : TE} {vs : List Nat} {σ : L2.St} {H1 : Hp} {D : Addr} {Qd : Hp → Prop} (Pv : Nat → Hp → Prop) (h0 : Pv 0 (upd H1 D (NdO P w D []))) (hG : ∀ i H, i ≤ n → Pv i H → G H)
    (hs : ∀ i x H H', i < n → Pv i H → Y i H x H' → g x (wipe σ vs) H' fun σ2 H2 => wipe σ2 vs = wipe σ vs ∧ tt σ2 H2 fun b H3 =>
      if b = true then tk σ2 H3 fun y H4 => tv σ2 H4 fun z H5 => ∃ q m c T, y = .ref q ∧ z = .int c ∧ NDW P w H5 D T ∧ T.length < sizeLine ∧ MoK H5 m q ∧ ∀ H6, NPut P w H5 D m c T H6 → Pv (i + 1) H6 else Pv (i + 1) H3) (hd : ∀ H, Pv n H → Qd H) :
    ∃ W : Nat → Nat → Hp → Prop, (∃ m, W 0 m (upd H1 D (NdO P w D []))) ∧ ∀ i m H, W i m H →
      (J.stop i H ∧ Qd H) ∨ (J.go i H ∧ ∃ Nx : Hp → Prop, (∀ H', Nx H' → ∃ m', m' < m ∧ W (i + 1) m' H') ∧ ∀ x H', J.yld i H x H' → g x (wipe σ vs) H' fun σ2 H2 => wipe σ2 vs = wipe σ vs ∧ tt σ2 H2 fun b H3 =>
        if b = true then tk σ2 H3 fun y H4 => tv σ2 H4 fun z H5 => ∃ q m c T, y = .ref q ∧ z = .int c ∧ NDW P w H5 D T ∧ T.length < sizeLine ∧ MoK H5 m q ∧ ∀ H6, NPut P w H5 D m c T H6 → Nx H6 else Nx H3) := by
  refine ⟨fun i m H => m = n - i ∧ i ≤ n ∧ Pv i H, ⟨n, by simp, Nat.zero_le _, h0⟩, ?_⟩
  rintro i m H ⟨rfl, hi, p⟩
  have q := hG i H hi p
  by_cases hlt : i < n
  · exact .inr ⟨W.goes i H hlt q, Pv (i + 1), fun H' p' => ⟨n - (i + 1), by omega, rfl, hlt, p'⟩, fun x H' y => hs i x H H' hlt p (W.yields i H x H' hlt q y)⟩
  · have e : i = n := by omega
    subst e
    exact .inl ⟨W.stops H q, hd H p⟩
end
end Po
set_option maxHeartbeats 2000000
/-! sorted of lists of tuples of which some may be empty -/
namespace PySem.W
open PySem PySem.Calls PyProof.Rows PySem.SeqAt
section
variable {prog : Program} {w : World} {A : Around} {E : Value → Shared → Prop} {s : Shared}
theorem po_call_tuple_lt {Q : Value → Shared → Prop} {l b : Addr} {items items2 : Array Value} {e r : Nat → Bool} (hl : s.heap.IsTuple l items) (hb : s.heap.IsTuple b items2)
    (he : ∀ j (h1 : j < items.size) (h2 : j < items2.size), EqAt A.in1 s items[j] items2[j] (e j)) (hr : ∀ j (h1 : j < items.size) (h2 : j < items2.size), e j = false → RcLt A.in1 s items[j] items2[j] (r j))
    (h : Q (.bool (firstLt e r (decide (items.size < items2.size)) (List.range (min items.size items2.size)))) s) : wpAny (model prog w) A (call (.builtin "tuple.__lt__") [.ref l, .ref b]) Q E s := by
  obtain ⟨⟨cls, dd, data, sl⟩, ho, hc, n, hd⟩ := id hl
  obtain ⟨⟨cls2, dd2, data2, sl2⟩, ho2, hc2, n2, hd2⟩ := id hb
  simp only at hc hd hc2 hd2
  subst hc hd hc2 hd2
  exact call_meets F.slot_tuple_lt ⟨_, ho, rfl⟩ F.entry_tuple_lt (F.args_tuple_lt_2 _ _) (tuple_ltAt l b items items2 n n2 dd dd2 sl sl2 e r) ⟨ho, ho2, he, hr, h⟩
theorem po_oneLt {f : Bool} {xs ys : List PyData} {a b : Value} {as bs : List Addr} {Q : Bool → Shared → Prop} (ra : Reads s.heap a (.tuple xs) as) (rb : Reads s.heap b (.tuple ys) bs) (h : alike (.tuple xs) (.tuple ys) = true)
    (hu : A.units + min (PyData.tuple xs).depth (PyData.tuple ys).depth < cLine) (hq : Q (dataLt (.tuple xs) (.tuple ys)) s) : wpAny (model prog w) A (oneLt' f a b) Q E s := by
  cases f with
  | false => exact oneLt_alike (fun z => nomatch z) ra rb h (fun z => nomatch z) hu hq
  | true =>
    have hal : alikeAll xs ys = true := by simpa [alike] using h
    cases ra with
    | @tuple l o vs n _ as₁ h1 h2 h3 h4 =>
      cases rb with
      | @tuple l' o' vs' n' _ bs₁ k1 k2 k3 k4 =>
        have n1 : vs.size = xs.length := by simpa using ReadsAll.length _ _ _ h4
        have n2 : vs'.size = ys.length := by simpa using ReadsAll.length _ _ _ k4
        rw [dataLt_tuple, ← firstLt_toks xs ys hal, ← n1, ← n2] at hq
        rw [oneLt'_eq]
        simp only [if_true]
        refine wpAny_bind (wpAny_cRoomFor (room_here hu) ?_)
        refine wpAny_bind (wpAny_callSpecialIfBound?_slot (T := "tuple") ⟨_, h1, h2⟩ F.slot_tuple_lt (po_call_tuple_lt (e := pairEq xs ys) (r := fun j => dataLt (xs.getD j .none) (ys.getD j .none)) ⟨_, h1, h2, n, h3⟩ ⟨_, k1, k2, n', k3⟩ (fun j j1 j2 => ?_) (fun j j1 j2 hj => ?_) ?_))
        · have := eqAt_alikeAll xs ys A.in1 s vs.toList vs'.toList _ _ h4 k4 hal (room_in hu) j (by simpa using j1) (by simpa using j2)
          simpa using this
        · have := rcLt_alikeAll xs ys A.in1 s vs.toList vs'.toList _ _ h4 k4 hal (room_in hu) j (by simpa using j1) (by simpa using j2) hj
          simpa using this
        · exact wpAny_truthy_bool hq
/-- the first items, where there are any -/
theorem po_firsts {M : Model} : ∀ (vs : List Value) (ds : List PyData) {Q : List (Option Value) → Shared → Prop}, EachIs (fun v d => (∃ as, Reads s.heap v d as) ∧ ∃ xs, d = .tuple xs) vs ds →
    (∀ fs : List (Option Value), fs.length = ds.length → (∀ (i : Nat) f d, fs[i]? = some f → ds[i]? = some d → (f.isSome = true ↔ d ≠ .tuple [])) → Q fs s) → wpAny M A (vs.mapM firstOfTuple') Q E s
  | [], [], _, _, h => by
    rw [List.mapM_nil]
    exact wpAny_pure (h [] rfl fun i f d e => by simp at e)
  | v :: vs, d :: ds, Q, .cons h0 t, h => by
    obtain ⟨⟨as, r⟩, xs, rfl⟩ := h0
    cases r with
    | @tuple a o its n _ _ ho hc hd hr =>
      rw [List.mapM_cons]
      refine wpAny_bind ?_
      rw [kas_first_eq]
      refine wpAny_bind (Looks.here (show Looks M s.heap (typeOf (.ref a)) o.cls from (Looks.ld ho).andThen .now) ?_)
      rw [hc, if_neg (by first | decide | simp)]
      refine wpAny_bind (listItems_at ho hd (wpAny_pure ?_))
      refine wpAny_bind (po_firsts vs ds (Q := fun bs s' => wpAny M A (pure (its[0]? :: bs)) Q E s') t fun fs hl hf => wpAny_pure (h _ (by simp [hl]) fun i f d e1 e2 => ?_))
      cases i with
      | zero =>
        simp only [List.getElem?_cons_zero, Option.some.injEq] at e1 e2
        subst e1 e2
        have n1 : its.size = xs.length := by simpa using ReadsAll.length _ _ _ hr
        cases xs with
        | nil =>
          have : its[0]? = none := Array.getElem?_eq_none (by simp at n1; simp [n1])
          rw [this]
          simp
        | cons x xs =>
          have : 0 < its.size := by simp at n1; omega
          rw [Array.getElem?_eq_getElem this]
          simp
      | succ i =>
        simp only [List.getElem?_cons_succ] at e1 e2
        exact hf i f d e1 e2
theorem po_sortsAt {vs : List Value} {ds : List PyData} (e : EachIs (fun v d => ∃ as, Reads s.heap v d as) vs ds) (hal : AllAlike ds) (ht : ∀ d, d ∈ ds → ∃ xs, d = .tuple xs) (hu : ∀ d, d ∈ ds → A.units + d.depth < cLine) : SortsAt prog w A s (dataKind s.heap ds) vs := by
  by_cases hall : ∀ d, d ∈ ds → ∃ x r, d = .tuple (x :: r)
  · exact SortsAt.data e hal (.inl hall) hu
  have hempty : ∃ d, d ∈ ds ∧ d = .tuple [] := Classical.byContradiction fun k => hall fun d hd => by
    obtain ⟨xs, rfl⟩ := ht d hd
    cases xs with
    | nil => exact absurd ⟨_, hd, rfl⟩ k
    | cons x r => exact ⟨x, r, rfl⟩
  have room : ∀ {d d' : PyData}, d ∈ ds → A.units + min d.depth d'.depth < cLine := fun {d d'} hd => Nat.lt_of_le_of_lt (Nat.add_le_add_left (Nat.min_le_left _ _) _) (hu d hd)
  have cmp : ∀ (f : Bool) (E : Value → Shared → Prop) (x y : Value) (a b : (dataKind s.heap ds).α) {Q : Bool → Shared → Prop}, (dataKind s.heap ds).keyOf x = some a → (dataKind s.heap ds).keyOf y = some b → Q ((dataKind s.heap ds).blt a b) s → wpAny (model prog w) A (oneLt' f x y) Q E s := by
    intro f E x y a b Q ha hb hq
    obtain ⟨d, as, hd, ra, rfl⟩ := dataKind_inv ha
    obtain ⟨d', as', hd', rb, rfl⟩ := dataKind_inv hb
    obtain ⟨xs, rfl⟩ := ht d hd
    obtain ⟨ys, rfl⟩ := ht d' hd'
    exact po_oneLt ra rb (hal _ hd _ hd') (room hd) hq
  refine ⟨fun v hv => ?_, ?_⟩
  · obtain ⟨d, hd, as, r⟩ := e.left v hv
    exact ⟨_, dataKind_some hal hd r⟩
  · have e2 : EachIs (fun v d => (∃ as, Reads s.heap v d as) ∧ ∃ xs, d = .tuple xs) vs ds := (each_mem e).mono fun v d h => ⟨h.1, ht d h.2⟩
    obtain ⟨d0, hd0, rfl⟩ := hempty
    obtain ⟨k, hk⟩ := List.mem_iff_getElem?.mp hd0
    have notall : ∀ fs : List (Option Value), fs.length = ds.length → (∀ (i : Nat) f d, fs[i]? = some f → ds[i]? = some d → (f.isSome = true ↔ d ≠ .tuple [])) → ¬ (fs.toArray.all fun x => x.isSome) = true := by
      intro fs hl hf z
      have hk' : k < fs.length := by rw [hl]; exact (List.getElem?_eq_some_iff.mp hk).1
      have e1 := List.getElem?_eq_getElem hk'
      have := (hf k _ _ e1 hk).mp (by
        rw [List.all_toArray, List.all_eq_true] at z
        exact z _ (List.getElem_mem hk'))
      exact this rfl
    cases ds with
    | nil => exact nomatch hd0
    | cons d1 ds1 =>
      by_cases h1 : d1 = .tuple []
      · refine ⟨oneType', fun E x y a b Q ha hb hq => ?_, fun h2 E Q hq => ?_⟩
        · rw [keyLt'_oneType]
          exact cmp true E x y a b ha hb hq
        · rw [kat_kind_eq, List.mapM_toArray, map_eq_pure_bind]
          refine wpAny_bind (wpAny_bind (po_firsts vs _ e2 fun fs hl hf => wpAny_pure ?_))
          rw [if_neg (notall fs hl hf)]
          have f0 : ¬ ((fs.toArray[0]?.bind id).isSome = true) := by
            cases fs with
            | nil => simp at hl
            | cons f fs =>
              have := hf 0 f d1 rfl rfl
              intro z
              have z' : f.isSome = true := by simpa using z
              exact this.mp z' h1
          rw [if_neg f0]
          have hT : ∀ v ∈ vs, Looks (model prog w) s.heap (typeOf v) (Value.type "tuple") := fun v hv => by
            obtain ⟨d, hd, as, r⟩ := e.left v hv
            obtain ⟨xs, rfl⟩ := ht d hd
            exact looks_reads r
          rw [oneTypeOnly'_eq, List.mapM_toArray, map_eq_pure_bind]
          refine wpAny_bind (wpAny_bind (wpAny_bind (kas_mapM (r := Value.type "tuple") _ (fun v hv Q' hq => (hT v hv).here hq) (wpAny_pure ?_))))
          obtain ⟨v1, v2, rest, rfl⟩ : ∃ v1 v2 rest, vs = v1 :: v2 :: rest := by
            match vs, h2 with
            | [], h2 => simp at h2
            | [_], h2 => simp at h2
            | v₁ :: v₂ :: rest, _ => exact ⟨v₁, v₂, rest, rfl⟩
          have hall : ((List.map (fun _ => Value.type "tuple") (v1 :: v2 :: rest)).toArray.all fun x => x == Value.type "tuple") = true := by
            simp only [List.all_toArray, List.all_map, List.all_eq_true]
            intro _ _
            exact beq_self_eq_true _
          have h0 : (List.map (fun _ => Value.type "tuple") (v1 :: v2 :: rest)).toArray[0]? = some (Value.type "tuple") := by simp
          rw [h0]
          simp only [hall, if_true]
          exact wpAny_pure (wpAny_pure hq)
      · refine ⟨general', fun E x y a b Q ha hb hq => cmp false E x y a b ha hb hq, fun h2 E Q hq => ?_⟩
        rw [kat_kind_eq, List.mapM_toArray, map_eq_pure_bind]
        refine wpAny_bind (wpAny_bind (po_firsts vs _ e2 fun fs hl hf => wpAny_pure ?_))
        rw [if_neg (notall fs hl hf)]
        have f0 : (fs.toArray[0]?.bind id).isSome = true := by
          cases fs with
          | nil => simp at hl
          | cons f fs =>
            have := (hf 0 f d1 rfl rfl).mpr h1
            simpa using this
        rw [if_pos f0]
        exact wpAny_pure hq
end
section
variable {prog : Program} {w : World} {A : Around} {E : Value → Shared → Prop} {s : Shared} {β : Type} {R : Value → β → Prop} {enc : β → PyData} {vs : List Value} {bs : List β}
theorem po_sorted {l : Addr} {Q : Value → Shared → Prop} (hl : s.heap.IsList l vs.toArray) (e : EachIs R vs bs) (er : EachIs (fun v b => ∃ as, Reads s.heap v (enc b) as) vs bs) (hal : AllAlike (bs.map enc)) (hk : ∀ b, ∃ xs, enc b = .tuple xs) (hL : bs.length ≤ sizeLine)
    (hu : ∀ b, b ∈ bs → A.units + 2 + (enc b).depth < cLine) (h : ∀ out, out.length = bs.length → EachIs R out (bs.mergeSort (dataLe false enc)) → Q (.ref (s.heap.objs.size + 1)) { s with heap := sortedAll s.heap vs (List.toArray out) }) :
    wpAny (model prog w) A (call (.builtin "sorted") [.ref l]) Q E s := by
  have er' : EachIs (fun v b => ∃ as, Reads (sortingHeap (copyHeap s.heap vs) (s.heap.objs.size + 1) vs) v (enc b) as) vs bs := er.mono fun _ _ ⟨as, r⟩ => ⟨as, PyProof.Rows.Reads.keeps (fun _ _ => sorting_copy_old) r⟩
  exact sorted_vals hl (po_sortsAt (s := { s with heap := sortingHeap (copyHeap s.heap vs) (s.heap.objs.size + 1) vs }) (each_map (R := fun v d => ∃ as, Reads (sortingHeap (copyHeap s.heap vs) (s.heap.objs.size + 1) vs) v d as) enc er') hal (fun d hd => by
    obtain ⟨b, _, rfl⟩ := List.mem_map.mp hd
    exact hk b) (bound_map hu)) (by rw [e.length]; exact hL)
    (h _ (by rw [sortVals_length false rfl]; exact e.length) (sortVals_data false e er' hal))
end
end PySem.W
set_option maxHeartbeats 2000000
/-! sorted of monomials; d.items() and sorted of it -/
namespace Po
open PySem PySem.Spec PySem.W L2 PyProof.Rows PySem.SeqAt
abbrev pdat (p : Str × Int) : PyData := .tuple [.str p.1, .int p.2]
abbrev mdat (m : Mo) : PyData := .tuple (m.map pdat)
def mlt (a b : Mo) : Prop := dataLt (mdat a) (mdat b) = true
theorem toks_inj : ∀ {a b : Mo}, keyToksAll (a.map pdat) = keyToksAll (b.map pdat) → a = b
  | [], [], _ => rfl
  | [], q :: b, h => by simp [keyToksAll] at h
  | p :: a, [], h => by simp [keyToksAll] at h
  | p :: a, q :: b, h => by
    simp only [List.map_cons, keyToksAll, keyToks, List.cons_append, List.nil_append, List.cons.injEq, Sum.inr.injEq, Sum.inl.injEq, true_and] at h
    obtain ⟨h1, h2, h3⟩ := h
    rw [toks_inj h3, Prod.ext (str_of_cps h1) h2]
theorem mlt_ord : MOrd mlt where
  irr := fun a h => by
    have : dataLt (mdat a) (mdat a) = false := (listOrd itemOrd).irrefl _
    unfold mlt at h
    rw [this] at h
    cases h
  tr := fun a b c h1 h2 => (listOrd itemOrd).trans _ _ _ h1 h2
theorem mlt_of {a b : Mo} (h : dataLt (mdat b) (mdat a) = false) (ne : a ≠ b) : mlt a b := by
  unfold mlt
  cases c : dataLt (mdat a) (mdat b) with
  | true => rfl
  | false =>
    have e : keyToks (mdat a) = keyToks (mdat b) := (listOrd itemOrd).total _ _ c h
    simp only [keyToks] at e
    exact absurd (toks_inj e) ne
theorem alike_pd (p q : Str × Int) : alike (pdat p) (pdat q) = true := by simp [alike, alikeAll]
theorem alike_md : ∀ a b : Mo, alike (mdat a) (mdat b) = true := by
  intro a b
  simp only [alike]
  induction a generalizing b with
  | nil => simp [alikeAll]
  | cons p a ih =>
    cases b with
    | nil => simp [alikeAll]
    | cons q b =>
      rw [List.map_cons, List.map_cons, alikeAll, alike_pd, ih b]
      rfl
theorem depth_md (m : Mo) : (mdat m).depth ≤ 2 := by
  have : PyData.depthAll (m.map pdat) ≤ 1 := by
    induction m with
    | nil => simp [PyData.depthAll]
    | cons p m ih =>
      rw [List.map_cons, PyData.depthAll]
      have : (pdat p).depth = 1 := by simp [PyData.depth, PyData.depthAll]
      rw [this]
      omega
  rw [PyData.depth]
  omega
theorem pd_lt {p q : Str × Int} (h : dataLt (pdat q) (pdat p) = false) (ne : p.1 ≠ q.1) : slt p.1 q.1 := by
  rw [dataLt_tuple] at h
  simp only [keyToksAll, keyToks, List.cons_append, List.nil_append] at h
  rw [lex_self (O := itemOrd)] at h
  have nc : (Sum.inr q.1.cps.toList : Int ⊕ List Nat) ≠ Sum.inr p.1.cps.toList := fun e => ne (str_of_cps (Sum.inr.inj e).symm)
  rw [lex_diff (O := itemOrd) nc] at h
  have h2 : ¬ q.1.cps.toList < p.1.cps.toList := by
    have h3 : itemLt (.inr q.1.cps.toList) (.inr p.1.cps.toList) = false := h
    have h4 := dataLt_str q.1 p.1
    unfold dataLt at h4
    simp only [keyToks] at h4
    rw [lex_one, h3] at h4
    exact of_decide_eq_false h4.symm
  have h5 : p.1.cps.toList ≤ q.1.cps.toList := List.not_lt.mp h2
  exact Classical.byContradiction fun k => ne (str_of_cps (List.le_antisymm h5 (List.not_lt.mp k)))
/-- distinct monomials in order -/
theorem sorted_mo {β : Type} (f : β → Mo) (bs : List β) (nd : (bs.map f).Nodup) : (bs.mergeSort (dataLe false fun b => mdat (f b))).Pairwise (fun a b => mlt (f a) (f b)) ∧ (bs.mergeSort (dataLe false fun b => mdat (f b))).Perm bs := by
  have pm := List.mergeSort_perm bs (dataLe false fun b => mdat (f b))
  refine ⟨?_, pm⟩
  have st := List.pairwise_mergeSort (le := dataLe false fun b => mdat (f b)) (sortLe_total (listOrd itemOrd) false fun b => keyToks (mdat (f b))).trans (fun a b => by rw [Bool.or_eq_true]; exact (sortLe_total (listOrd itemOrd) false fun b => keyToks (mdat (f b))).total a b) bs
  have nd2 : ((bs.mergeSort (dataLe false fun b => mdat (f b))).map f).Nodup := (pm.map f).nodup_iff.mpr nd
  rw [List.Nodup, List.pairwise_map] at nd2
  refine (st.and nd2).imp fun {a b} h => mlt_of ?_ h.2
  have h1 : (!dataLt (mdat (f b)) (mdat (f a))) = true := h.1
  simpa using h1
theorem sorted_pd (bs : List (Str × Int)) (nd : (bs.map (·.1)).Nodup) : (bs.mergeSort (dataLe false pdat)).Pairwise (fun a b => slt a.1 b.1) ∧ (bs.mergeSort (dataLe false pdat)).Perm bs := by
  have pm := List.mergeSort_perm bs (dataLe false pdat)
  refine ⟨?_, pm⟩
  have st := List.pairwise_mergeSort (le := dataLe false pdat) (sortLe_total (listOrd itemOrd) false fun b => keyToks (pdat b)).trans (fun a b => by rw [Bool.or_eq_true]; exact (sortLe_total (listOrd itemOrd) false fun b => keyToks (pdat b)).total a b) bs
  have nd2 : ((bs.mergeSort (dataLe false pdat)).map (·.1)).Nodup := (pm.map (·.1)).nodup_iff.mpr nd
  rw [List.Nodup, List.pairwise_map] at nd2
  refine (st.and nd2).imp fun {a b} h => pd_lt ?_ h.2
  have h1 : (!dataLt (pdat b) (pdat a)) = true := h.1
  simpa using h1
section
variable {P : Program} {w : World} {H : Hp} {h : Heap}
theorem prK_reads (ok : HOk P w H h) {p : Str × Int} {a : Addr} (x : PrK H p a) : ∃ as, Reads h (.ref a) (pdat p) as := by
  obtain ⟨_, its, r, o, h1, h2, n, h3⟩ := (show ObjOk P w H h a (.tup [.str p.1, .int p.2]) from ok a _ x)
  cases r with
  | cons r1 r' =>
    cases r' with
    | cons r2 r'' =>
      cases r''
      obtain ⟨t, rfl⟩ := r1
      obtain ⟨t', rfl⟩ := r2
      exact ⟨_, .tuple h1 h2 h3 (.cons (.str _ _) (.cons (.int _ _) .nil))⟩
theorem moK_reads (ok : HOk P w H h) {m : Mo} {q : Addr} (x : MoK H m q) : ∃ as, Reads h (.ref q) (mdat m) as := by
  obtain ⟨as, ob, e, _, pr⟩ := x
  obtain ⟨hlen, its, r, o, h1, h2, n, h3⟩ := (show ObjOk P w H h q (.tup (as.map V.ref)) from (show Rd H q (.tup (as.map V.ref)) from .inr ⟨ob, e⟩).ok ok)
  have eq := refs_of r
  subst eq
  have all : ∃ bs, ReadsAll h (as.map Value.ref) (m.map pdat) bs := by
    clear e r h3 hlen
    induction pr with
    | nil => exact ⟨[], .nil⟩
    | cons p _ ih =>
      obtain ⟨a1, q1⟩ := prK_reads ok p
      obtain ⟨a2, q2⟩ := ih
      exact ⟨a1 ++ a2, .cons q1 q2⟩
  obtain ⟨bs, q⟩ := all
  exact ⟨bs, .tuple h1 h2 h3 (by simpa using q)⟩
end
theorem each_of {α β : Type} {R : α → β → Prop} (f : β → α) : ∀ bs : List β, (∀ b ∈ bs, R (f b) b) → EachIs R (bs.map f) bs
  | [], _ => .nil
  | b :: bs, h => .cons (h b List.mem_cons_self) (each_of f bs fun c hc => h c (List.mem_cons_of_mem _ hc))
theorem each_eq {α β : Type} (f : β → α) : ∀ {as : List α} {bs : List β}, EachIs (fun a b => a = f b) as bs → as = bs.map f
  | _, _, .nil => rfl
  | _, _, .cons h t => by rw [List.map_cons, h, each_eq f t]
section
variable {X : Cx}
/-- sorted(list of monomials) -/
def rSortMo (K : PySem.W.Frag) : List V → Hp → VK → Prop := fun vs H Q => ∃ (a : Addr) (ms : List (Mo × Addr)), vs = [.ref a] ∧ SqL K H a (ms.map fun e => V.ref e.2) ∧ (∀ e ∈ ms, MoK H e.1 e.2) ∧ (ms.map (·.1)).Nodup ∧
  ∀ (out : List (Mo × Addr)) p, out.Perm ms → out.Pairwise (fun a b => mlt a.1 b.1) → H p = none → Q (.ref p) (upd H p (.lst (out.map fun e => V.ref e.2)))
theorem cr_sortMo (hu : X.A.units + 10 < cLine) : CallR X (.builtin "sorted") (rSortMo X.K) := by
  intro pins s σ H vs us Q I r h
  obtain ⟨a, ms, rfl, hs, mk, nd, q⟩ := h
  obtain ⟨its, rv, hl, hz⟩ := I.list hs
  rw [Vals.ref1 r]
  have ei : its = ms.map fun e => Value.ref e.2 := by
    have : ms.map (fun e => V.ref e.2) = (ms.map (·.2)).map V.ref := by rw [List.map_map]; rfl
    rw [this] at rv
    rw [refs_of rv, List.map_map]
    rfl
  subst ei
  rw [List.length_map] at hz
  obtain ⟨s1, s2⟩ := sorted_mo (fun e : Mo × Addr => e.1) ms nd
  refine po_sorted (R := fun v e => v = Value.ref e.2) (enc := fun e : Mo × Addr => mdat e.1) hl.isList (each_of _ ms fun _ _ => rfl) (each_of _ ms fun b hb => moK_reads I.hok (mk b hb)) (AllAlike.of fun b b' => alike_md _ _) (fun b => ⟨_, rfl⟩) hz (fun b _ => ?_) fun out h1 h2 => ?_
  · have := depth_md b.1
    omega
  · have eo := each_eq (fun e : Mo × Addr => Value.ref e.2) h2
    generalize ms.mergeSort (dataLe false fun e => mdat e.1) = zs at s1 s2 h2 eo
    obtain ⟨ep, he'⟩ := PyProof.Rows.sortedAll_at s.heap (ms.map fun e => Value.ref e.2) out.toArray
    have hlen : (zs.map fun e => V.ref e.2).length ≤ sizeLine := by
      rw [List.length_map, s2.length_eq]
      exact hz
    have rv2 : Vals (zs.map fun e => V.ref e.2) out := by
      rw [eo]
      exact vals_maps (fun e : Mo × Addr => V.ref e.2) (fun e => Value.ref e.2) zs fun _ _ => rfl
    exact ⟨.ref _, upd H (s.heap.objs.size + 1) (.lst (zs.map fun e => V.ref e.2)), I.laid (t' := s.toks) (fun _ _ => PyProof.Rows.sortedAll_old) (Nat.le_succ _) ⟨hlen, out, ep, rv2, he'⟩, rfl, q _ _ s2 s1 (I.hok.fresh (Nat.le_succ _))⟩
/-- d.items() of a dict of texts -/
def rItemsK : V → List V → Hp → VK → Prop := fun x xs H Q => ∃ (a : Addr) (kvs : List (L2.Key × V)), x = .ref a ∧ xs = [] ∧ H a = some (.dK kvs) ∧ ∀ p, H p = none → Q (.ref p) (upd H p (L2.DX.itemsO p a))
theorem mt_itemsK : MtR X "dict.items" rItemsK := by
  intro pins s σ H x xs v us Q I rx rxs h
  obtain ⟨a, kvs, rfl, rfl, ha, q⟩ := h
  cases rx
  cases rxs
  obtain ⟨z, hd, vs, rel, o, es, ep, ho, hx, hdat, _⟩ := dk_of I.hok ha
  refine DT.callItems (es := es) (ep := ep) hd ⟨o, ho, hx, hdat⟩ ?_
  have hf : H s.heap.objs.size = none := I.hok.fresh (Nat.le_refl _)
  exact ⟨.ref s.heap.objs.size, upd H s.heap.objs.size (L2.DX.itemsO s.heap.objs.size a), I.laid (t' := s.toks) (fun b u e => Heap.get?_push_of_some _ e) (Nat.le_refl _) (L2.DX.itemsO_ok (Heap.get?_push_size _ rfl)), rfl, q _ hf⟩
/-- sorted(d.items()), keys texts, values ints -/
def rSortPd : List V → Hp → VK → Prop := fun vs H Q => ∃ (p a : Addr) (E : List (Str × Int)), vs = [.ref p] ∧ H p = some (L2.DX.itemsO p a) ∧ H a = some (.dK (E.map fun e => (Sum.inr e.1, V.int e.2))) ∧ (E.map (·.1)).Nodup ∧
  ∀ (H' : Hp) (l : Addr) (zs : List (Str × Int)) (as : List Addr), (∀ b o, H b = some o → H' b = some o) → zs.Perm E → zs.Pairwise (fun a b => slt a.1 b.1) → H' l = some (.lst (as.map V.ref)) → Paired (PrK H') zs as → Q (.ref l) H'
theorem cr_sortPd (hc : X.calm = true) (hu : X.A.units + 10 < cLine) : CallR X (.builtin "sorted") rSortPd := by
  intro pins s σ H xs us Q I r h
  obtain ⟨p, a, E, rfl, hp, ha, ndE, q⟩ := h
  obtain rfl := Vals.ref1 r
  have view : s.heap.IsItemsView p a := (show ObjOk X.prog X.w H s.heap p (L2.DX.itemsO p a) from I.hok p _ hp).1
  obtain ⟨z, hd, vs, rel, dd⟩ := dk_of I.hok ha
  obtain ⟨es, ep, hr, hsz, ent⟩ := dd.raw
  have hln : E.length = vs.length := by rw [← rel.length, List.length_map]
  rw [List.length_map] at z
  have hh : X.A.handled = none := I.ok.hd hc
  obtain ⟨ro, rho, rhc, rhd⟩ := id hr
  refine DT.sortedI (es := es) (ep := ep) hh view ⟨ro, rho, rhc, rhd⟩ (by omega) fun h' tk as hk hlt hl hG => ?_
  have lak : as.length = E.length := by omega
  have nd : as.Nodup := List.Pairwise.imp (fun h => Nat.ne_of_lt h) hG.rise
  have pr : ∀ (j : Nat) (b : Addr), as[j]? = some b → ∃ (e : Str × Int) (t u : Tok), E[j]? = some e ∧ h'.get? b = some { cls := .type "tuple", data := .seq #[Value.str e.1 t, Value.int e.2 u] } := by
    intro j b hj
    have hj' : j < E.length := by rw [← lak]; exact (List.getElem?_eq_some_iff.mp hj).1
    obtain ⟨en, he, hg⟩ := hG.pairs j b hj
    have hes : j < es.size := by omega
    rw [Array.getElem?_eq_getElem hes] at he
    cases he
    obtain ⟨u, hu', ru⟩ := kv_get rel (i := j) (k := Sum.inr E[j].1) (v := V.int E[j].2) (by rw [List.getElem?_map, List.getElem?_eq_getElem hj']; rfl)
    obtain ⟨k1, k2⟩ := ent j hes _ _ hu'
    obtain ⟨t, et⟩ := relV_key (show keyIs (Sum.inr E[j].1) es[j].key = true from k1)
    obtain ⟨t2, et2⟩ := ru
    refine ⟨E[j], t, t2, List.getElem?_eq_getElem hj', ?_⟩
    rw [hg, et, k2, et2]
  have hob : (h'.push { cls := .type "list", data := .seq (as.map Value.ref).toArray }).get? h'.objs.size = some (seqObj "list" (as.map Value.ref).toArray 0) := Heap.get?_push_size _ rfl
  have kb : ∀ b o, s.heap.get? b = some o → (h'.push { cls := .type "list", data := .seq (as.map Value.ref).toArray }).get? b = some o := fun b o e => Heap.get?_push_of_some _ (hk b o e)
  have ne0 : ∀ b o, h'.get? b = some o → b ≠ h'.objs.size := fun b o e => Nat.ne_of_lt (Heap.lt_size e)
  generalize hh2 : h'.push { cls := .type "list", data := .seq (as.map Value.ref).toArray } = h2 at hob kb ⊢
  have ka : ∀ b o, h'.get? b = some o → h2.get? b = some o := fun b o e => by rw [← hh2]; exact Heap.get?_push_of_some _ e
  -- the items with their places
  have zl : (E.zip as).map (·.1) = E := List.map_fst_zip (by omega)
  have zr : (E.zip as).map (·.2) = as := List.map_snd_zip (by omega)
  have idx : ∀ e ∈ E.zip as, ∃ j : Nat, E[j]? = some e.1 ∧ as[j]? = some e.2 := fun e he => by
    obtain ⟨j, hj⟩ := List.mem_iff_getElem?.mp he
    exact ⟨j, List.getElem?_zip_eq_some.mp hj⟩
  have rd : ∀ e ∈ E.zip as, ∃ ws, Reads h2 (.ref e.2) (pdat e.1) ws ∧ h'.objs.size ∉ ws := fun e he => by
    obtain ⟨j, j1, j2⟩ := idx e he
    obtain ⟨e', t, u, he', hg⟩ := pr j e.2 j2
    rw [j1] at he'
    cases he'
    exact ⟨_, .tuple (ka _ _ hg) rfl rfl (.cons (.str _ _) (.cons (.int _ _) .nil)), by simp⟩
  have evs : as.map Value.ref = (E.zip as).map fun e => Value.ref e.2 := by
    conv => lhs; rw [← zr]
    rw [List.map_map]
    rfl
  rw [evs] at hob hh2
  refine list_sort_data (s := { s with heap := h2, toks := tk }) (R := fun v e => v = Value.ref e.2) (enc := fun e : (Str × Int) × Addr => pdat e.1) hob (each_of _ _ fun _ _ => rfl) (each_of _ _ fun b hb => rd b hb) (AllAlike.of fun b b' => alike_pd _ _) (.inl fun d hd => by
      obtain ⟨b, _, rfl⟩ := List.mem_map.mp hd
      exact ⟨_, _, rfl⟩) (by rw [List.length_zip]; omega) (fun b _ => ?_) fun out o1 o2 => ?_
  · have : (pdat b.1).depth = 1 := by simp [PyData.depth, PyData.depthAll]
    show X.A.units + 1 + 1 + (pdat b.1).depth < cLine
    omega
  · show EP X pins σ Q (.ref h'.objs.size) { s with heap := sortedHeap h2 h'.objs.size ((E.zip as).map fun e => Value.ref e.2) (List.toArray out), toks := tk }
    have eo := each_eq (fun e : (Str × Int) × Addr => Value.ref e.2) o2
    have pm := List.mergeSort_perm (E.zip as) (dataLe false fun e => pdat e.1)
    have srt : ((E.zip as).mergeSort (dataLe false fun e => pdat e.1)).Pairwise fun a b => slt a.1.1 b.1.1 := by
      have st := List.pairwise_mergeSort (le := dataLe false fun e : (Str × Int) × Addr => pdat e.1) (sortLe_total (listOrd itemOrd) false fun b : (Str × Int) × Addr => keyToks (pdat b.1)).trans (fun a b => by rw [Bool.or_eq_true]; exact (sortLe_total (listOrd itemOrd) false fun b : (Str × Int) × Addr => keyToks (pdat b.1)).total a b) (E.zip as)
      have nd2 : (((E.zip as).mergeSort (dataLe false fun e => pdat e.1)).map (·.1.1)).Nodup := (pm.map (·.1.1)).nodup_iff.mpr (by
        have : (E.zip as).map (fun e => e.1.1) = E.map (·.1) := by
          conv => rhs; rw [← zl]
          rw [List.map_map]
          rfl
        rw [this]
        exact ndE)
      rw [List.Nodup, List.pairwise_map] at nd2
      refine (st.and nd2).imp fun {a b} h => pd_lt ?_ h.2
      have h1 : (!dataLt (pdat b.1) (pdat a.1)) = true := h.1
      simpa using h1
    generalize (E.zip as).mergeSort (dataLe false fun e => pdat e.1) = zs at o2 eo pm srt
    have kF : ∀ b o, b ≠ h'.objs.size → h2.get? b = some o → (sortedHeap h2 h'.objs.size ((E.zip as).map fun e => Value.ref e.2) (List.toArray out)).get? b = some o := fun b o hb e => (PyProof.Rows.sortedHeap_old hb (Heap.lt_size e)).trans e
    have kS : ∀ b o, s.heap.get? b = some o → (sortedHeap h2 h'.objs.size ((E.zip as).map fun e => Value.ref e.2) (List.toArray out)).get? b = some o := fun b o e => kF b o (ne0 _ _ (hk b o e)) (kb b o e)
    obtain ⟨eF, heF⟩ := PyProof.Rows.sortedHeap_at (vs := (E.zip as).map fun e => Value.ref e.2) (out := List.toArray out) hob
    generalize sortedHeap h2 h'.objs.size ((E.zip as).map fun e => Value.ref e.2) (List.toArray out) = hF at kF kS heF ⊢
    have I1 : Inv X pins σ H { s with heap := hF, toks := tk } := I.kept (t' := tk) kS
    have hn0 : H h'.objs.size = none := I.hok.fresh (Nat.le_of_lt hlt)
    have hlen : ((zs.map (·.2)).map V.ref).length ≤ sizeLine := by
      rw [List.length_map, List.length_map, pm.length_eq, List.length_zip]
      omega
    have rv : Vals ((zs.map (·.2)).map V.ref) out := by
      rw [eo, List.map_map]
      exact vals_maps (fun e : (Str × Int) × Addr => V.ref e.2) (fun e => Value.ref e.2) zs fun _ _ => rfl
    have I2 : Inv X pins σ (upd H h'.objs.size (.lst ((zs.map (·.2)).map V.ref))) { s with heap := hF, toks := tk } :=
      I1.take (h' := hF) (t' := tk) (fun b ob _ e => e) (I.fpOk (Nat.le_of_lt hlt) hn0) ⟨hlen, out, eF, rv, heF⟩
    obtain ⟨H2, I3, g, qt⟩ := L2.DX.takeT (P := fun b vs => ∃ (j : Nat) (e : Str × Int), as[j]? = some b ∧ E[j]? = some e ∧ vs = [.str e.1, .int e.2]) I as _ I2 nd fun b hb => by
      obtain ⟨j, hj⟩ := List.mem_iff_getElem?.mp hb
      obtain ⟨e, t, u, he, hg⟩ := pr j b hj
      have hbl : s.heap.objs.size ≤ b := Nat.le_of_lt (hG.above b hb)
      have hgF := kF b _ (ne0 b _ hg) (ka b _ hg)
      have okT : ∀ H3, ObjOk X.prog X.w H3 (hF) b (.tup [.str e.1, .int e.2]) := fun H3 => ⟨by show 2 ≤ sizeLine; decide, [Value.str e.1 t, Value.int e.2 u], .cons ⟨t, rfl⟩ (.cons ⟨u, rfl⟩ .nil), ⟨_, hgF, rfl, _, rfl⟩⟩
      refine ⟨hbl, ?_, [.str e.1, .int e.2], ⟨j, e, hj, he, rfl⟩, okT⟩
      rw [upd_ne (ne0 _ _ hg)]
      exact I.hok.fresh hbl
    have gr : ∀ b o, H b = some o → H2 b = some o := fun b o e => g b o (by rw [upd_ne (ne_of_none e hn0)]; exact e)
    refine ⟨.ref h'.objs.size, H2, I3, rfl, q H2 h'.objs.size (zs.map (·.1)) (zs.map (·.2)) gr ?_ ?_ (g _ _ upd_same) ?_⟩
    · have := pm.map (·.1)
      rwa [zl] at this
    · rw [List.pairwise_map]
      exact srt
    · have all : ∀ l : List ((Str × Int) × Addr), (∀ e ∈ l, PrK H2 e.1 e.2) → Paired (PrK H2) (l.map (·.1)) (l.map (·.2)) := by
        intro l
        induction l with
        | nil => intro _; exact .nil
        | cons e l ih => intro h; exact .cons (h e List.mem_cons_self) (ih fun x hx => h x (List.mem_cons_of_mem _ hx))
      refine all zs fun e he => ?_
      obtain ⟨i, i1, i2⟩ := idx e (pm.mem_iff.mp he)
      obtain ⟨vs', ⟨j, e', j1, j2, ev⟩, hH⟩ := qt e.2 (List.mem_of_getElem? i2)
      have eij : i = j := (List.getElem?_inj (List.getElem?_eq_some_iff.mp i2).1 nd).mp (i2.trans j1.symm)
      subst eij
      rw [i1] at j2
      cases j2
      subst ev
      exact hH
end
end Po
set_option maxHeartbeats 2000000
/-! operators of an own class with an int on the other side -/
namespace Po
open PySem PySem.Spec PySem.W L2 PyProof.Rows PySem.SeqAt
section
variable {prog : Program} {w : World} {A : Around} {E : Value → Shared → Prop} {s : Shared} {K : PySem.W.Frag} {x C f g dx : Addr} {od : Option Obj} {nm : String} {id : String}
/-- an int's own slot declines an instance -/
theorem int_declines {nm' : String} {fn : Int → Int → Sem PySem.Fin} {i : Int} {t : Tok} {P : PySem.Fin → Shared → Prop} (ho : s.heap.get? x = some (PySem.W.instObj C dx)) (h : P (.done (.ret .notImplemented)) s) :
    wpAny (model prog w) A (Builtin.Int.intBinary nm' fn false ⟨[.int i t, .ref x], []⟩) P E s := by
  unfold Builtin.Int.intBinary
  refine wpAny_bind (m := slotArgs nm' 1 _) (wpAny_pure ?_)
  refine wpAny_bind (m := Builtin.Int.intOfSelf (.int i t)) (wpAny_pure ?_)
  refine wpAny_bind (m := asInt? (.ref x)) ?_
  unfold asInt?
  refine wpAny_bind (wpAny_load ho ?_)
  show wpAny _ _ (pure none) _ _ _
  exact wpAny_pure (wpAny_bind (wpAny_rule (wpAny_pure h)))
/-- the int's slot of an operator -/
structure IntSlot (nm id : String) : Prop where
  fills : fillsNumberSlot (.type "int") nm = pure true
  slot : Slot "int" (PySem.dunder nm) id
  ent : ∃ (nm' : String) (fn : Int → Int → Sem PySem.Fin), entryFor table id = some (Builtin.Int.intBinary nm' fn false)
  args : ∀ a b, argsOk id ⟨[a, b], []⟩
  refl : ∃ r, typeLookup (.type "int") (dunderR nm) = pure r
theorem is_add : IntSlot "add" "int.__add__" := ⟨F.fills_int_add, F.slot_int_add, ⟨_, _, F.entry_int_add⟩, F.args_int_add_2, ⟨_, F.slot_int_radd.lookup⟩⟩
theorem is_sub : IntSlot "sub" "int.__sub__" := ⟨F.fills_int_sub, F.slot_int_sub, ⟨_, _, F.entry_int_sub⟩, F.args_int_sub_2, ⟨_, F.slot_int_rsub.lookup⟩⟩
theorem is_mul : IntSlot "mul" "int.__mul__" := ⟨F.fills_int_mul, F.slot_int_mul, ⟨_, _, F.entry_int_mul⟩, F.args_int_mul_2, ⟨_, F.slot_int_rmul.lookup⟩⟩
/-- what the class has -/
structure NumCls (K : PySem.W.Frag) (C : Addr) (nm : String) (f g : Addr) : Prop where
  first : PySem.W.selfFirst K C = true
  hasf : PySem.W.findIn K (.ref C) (PySem.dunder nm) = some (some (.ref f))
  hasg : PySem.W.findIn K (.ref C) (dunderR nm) = some (some (.ref g))
  okf : PySem.W.isFn K (.ref f) = true
  okg : PySem.W.isFn K (.ref g) = true
  notInt : PySem.W.subIn K (.ref C) (.type "int") = some false
  intNot : PySem.W.subIn K (.type "int") (.ref C) = some false
theorem NumCls.fills {M : Model} {h : Heap} (N : NumCls K C nm f g) (X : K.In h) : Looks M h (fillsNumberSlot (.ref C) nm) true := by
  obtain ⟨cd, hcd, hm⟩ := any_some N.first
  obtain ⟨rest, hm⟩ : ∃ rest, cd.mro = .ref C :: rest := by
    cases q : cd.mro with
    | nil => rw [q] at hm; cases hm
    | cons a r => rw [q] at hm; exact ⟨r, by rw [List.head?_cons] at hm; cases (beq_iff_eq.mp hm); rfl⟩
  exact fills_K X hcd hm N.hasf
/-- an int on the left: the instance's reflected method -/
theorem binop1_int_left {i : Int} {t : Tok} {Q : Option Value → Shared → Prop} (S : IntSlot nm id) (X : K.In s.heap) (ho : s.heap.get? x = some (PySem.W.instObj C dx)) (I : InstAt s.heap x (PySem.W.instObj C dx) C od) (N : NumCls K C nm f g)
    (h : wpAny (model prog w) A (call (.ref g) [.ref x, .int i t]) (PySem.W.CmpBack fun v => Q (some v)) E s) : wpAny (model prog w) A (binaryOp1 nm (.int i t) (.ref x)) Q E s := by
  obtain ⟨nm', fn, he⟩ := S.ent
  unfold binaryOp1
  refine wpAny_bind (m := typeOf (.int i t)) (wpAny_pure ?_)
  refine wpAny_bind (I.type.here ?_)
  refine wpAny_bind (wpAny_of_eq (a := true) S.fills ?_)
  rw [if_neg (by simp)]
  refine wpAny_bind ((N.fills X).here ?_)
  simp only [Bool.and_self, if_true]
  refine wpAny_bind (m := isSubtype (.ref C) (.type "int")) ((looks_subIn X N.notInt).here ?_)
  simp only [Bool.false_eq_true, if_false, Bool.not_false, Bool.and_self, if_true]
  refine wpAny_bind (m := numberSlotInPython (.type "int") nm) (wpAny_pure ?_)
  simp only [Bool.false_eq_true, if_false]
  refine wpAny_bind (m := tryMethod (.int i t) _ (.ref x)) ?_
  unfold tryMethod
  refine wpAny_bind (wpAny_callSpecial?_slot (T := "int") rfl S.slot (wpAny_call_entry S.slot rfl he (int_declines ho ⟨_, rfl, wpAny_pure ?_⟩) (S.args _ _)))
  refine wpAny_bind (wpAny_bind (special_fn X I N.hasg (beq_iff_eq.mp N.okg) (wpAny_mono h (fun v s' hv => ?_) fun _ _ e => e)))
  cases v <;> first | exact hv.elim | exact wpAny_pure (wpAny_bind (wpAny_rule (wpAny_pure hv)))
theorem NumCls.python {M : Model} {h : Heap} (N : NumCls K C nm f g) (X : K.In h) : Looks M h (numberSlotInPython (.ref C) nm) true := by
  intro A Q E s k q
  unfold numberSlotInPython
  refine wpAny_bind ((looks_findIn X N.hasf) A _ E s k ?_)
  refine wpAny_bind (m := calledByName (.ref C) (PySem.dunder nm) (some (.ref f))) (wpAny_pure ?_)
  refine wpAny_bind ((looks_findIn X N.hasg) A _ E s k ?_)
  refine wpAny_bind (m := calledByName (.ref C) (dunderR nm) (some (.ref g))) (wpAny_pure ?_)
  simp only [Bool.or_self, if_true]
  exact wpAny_pure q
/-- an int on the right: the instance's own method -/
theorem binop1_int_right {i : Int} {t : Tok} {Q : Option Value → Shared → Prop} (S : IntSlot nm id) (X : K.In s.heap) (I : InstAt s.heap x (PySem.W.instObj C dx) C od) (N : NumCls K C nm f g)
    (h : wpAny (model prog w) A (call (.ref f) [.ref x, .int i t]) (PySem.W.CmpBack fun v => Q (some v)) E s) : wpAny (model prog w) A (binaryOp1 nm (.ref x) (.int i t)) Q E s := by
  obtain ⟨r, hr⟩ := S.refl
  unfold binaryOp1
  refine wpAny_bind (I.type.here ?_)
  refine wpAny_bind (m := typeOf (.int i t)) (wpAny_pure ?_)
  refine wpAny_bind ((N.fills X).here ?_)
  rw [if_neg (by simp)]
  refine wpAny_bind (wpAny_of_eq (a := true) S.fills ?_)
  simp only [Bool.and_self, if_true]
  refine wpAny_bind (m := isSubtype (.type "int") (.ref C)) ((looks_subIn X N.intNot).here ?_)
  simp only [Bool.false_eq_true, if_false, Bool.not_false, Bool.and_self, if_true]
  refine wpAny_bind ((N.python X).here ?_)
  simp only [if_true]
  refine wpAny_bind (m := numberSlotInPython (.type "int") nm) (wpAny_pure ?_)
  simp only [Bool.not_false, if_true]
  refine wpAny_bind (wpAny_of_eq (a := r) hr ?_)
  refine wpAny_bind (m := tryMethod (.ref x) _ (.int i t)) ?_
  unfold tryMethod
  refine wpAny_bind (special_fn X I N.hasf (beq_iff_eq.mp N.okf) (wpAny_mono h (fun v s' hv => ?_) fun _ _ e => e))
  cases v <;> first | exact hv.elim | exact wpAny_pure (wpAny_pure hv)
end
section
variable {X : Cx} {CX : CXT} {k n : Nat} {f g C : Addr} {sp : Sp} {E : XK} {op : Operator} {nm id : String}
/-- int op x -/
def rIntL (C : Addr) (sp : Sp) (E : XK) : R2 := fun x y H Q => ∃ i b dy gs, x = .int i ∧ y = .ref b ∧ H b = some (.ins C dy gs) ∧ sp [.ref b, .int i] H (fun z H' => ∃ c, z = .ref c ∧ Q z H') E
theorem op_intL (ho : op.info.2 = nm) (S : IntSlot nm id) (N : NumCls X.K C nm f g) (F : FnR X.prog X.w X.K X.mg X.base CX n g sp) (hr : Room n X.A) (hx : Passes CX X E) : OpR X (binaryOp op) (rIntL C sp E) := by
  rintro pins s σ H x y v u Q I rx ry ⟨i, b, dy, gs, rfl, rfl, hb, q⟩
  cases ry
  obtain ⟨t, rfl⟩ := rx
  obtain ⟨mA, O, _⟩ := ins_get I.hok hb
  obtain ⟨od, J, _⟩ := O.look
  obtain ⟨_, _, _, hob, _⟩ := (show ObjOk X.prog X.w H s.heap b (.ins C dy gs) from I.hok b _ hb)
  unfold binaryOp
  refine wpAny_holding ?_
  obtain ⟨sym, nm', hi⟩ : ∃ a b, op.info = (a, b) := ⟨_, _, rfl⟩
  rw [hi]
  rw [hi] at ho
  simp only at ho
  subst ho
  refine wpAny_bind (binop1_int_left S I.kIn hob J N (wpAny_mono (wpAny_call (SlX.run_at (us := [.ref b, .int i t]) (ws := [.ref b, .int i]) F hr I.env0 hx I (.cons rfl (.cons ⟨t, rfl⟩ .nil)) q)) (fun v t ht => ?_) fun _ _ z => z))
  obtain ⟨z, H', J', rz, c, rfl, qz⟩ := ht
  cases (show v = Value.ref c from rz)
  exact wpAny_pure ⟨.ref c, H', J', rfl, qz⟩
/-- x op int -/
def rIntR (C : Addr) (sp : Sp) (E : XK) : R2 := fun x y H Q => ∃ i b dy gs, x = .ref b ∧ y = .int i ∧ H b = some (.ins C dy gs) ∧ sp [.ref b, .int i] H (fun z H' => ∃ c, z = .ref c ∧ Q z H') E
theorem op_intR (ho : op.info.2 = nm) (S : IntSlot nm id) (N : NumCls X.K C nm f g) (F : FnR X.prog X.w X.K X.mg X.base CX n f sp) (hr : Room n X.A) (hx : Passes CX X E) : OpR X (binaryOp op) (rIntR C sp E) := by
  rintro pins s σ H x y v u Q I rx ry ⟨i, b, dy, gs, rfl, rfl, hb, q⟩
  cases rx
  obtain ⟨t, rfl⟩ := ry
  obtain ⟨mA, O, _⟩ := ins_get I.hok hb
  obtain ⟨od, J, _⟩ := O.look
  obtain ⟨_, _, _, hob, _⟩ := (show ObjOk X.prog X.w H s.heap b (.ins C dy gs) from I.hok b _ hb)
  unfold binaryOp
  refine wpAny_holding ?_
  obtain ⟨sym, nm', hi⟩ : ∃ a b, op.info = (a, b) := ⟨_, _, rfl⟩
  rw [hi]
  rw [hi] at ho
  simp only at ho
  subst ho
  obtain ⟨e1, e2⟩ : ∃ od', InstAt s.heap b (PySem.W.instObj C dy) C od' := by
    obtain ⟨a1, a2, a3, a4⟩ := J
    rw [hob] at a1
    cases a1
    exact ⟨od, hob, a2, a3, a4⟩
  refine wpAny_bind (binop1_int_right S I.kIn e2 N (wpAny_mono (wpAny_call (SlX.run_at (us := [.ref b, .int i t]) (ws := [.ref b, .int i]) F hr I.env0 hx I (.cons rfl (.cons ⟨t, rfl⟩ .nil)) q)) (fun v t ht => ?_) fun _ _ z => z))
  obtain ⟨z, H', J', rz, c, rfl, qz⟩ := ht
  cases (show v = Value.ref c from rz)
  exact wpAny_pure ⟨.ref c, H', J', rfl, qz⟩
end
end Po
set_option maxHeartbeats 2000000
/-! == and != of dicts of monomials -/
namespace PySem.W
open PySem PySem.Calls PyProof.Rows PySem.Spec
section
variable {prog : Program} {w : World} {K : Type} [DecidableEq K] {knd : HeapKind prog w K} {A : Around} {E : Value → Shared → Prop} {s : Shared}
theorem po_samePairs {nm : String} {a b : Addr} {ka kb : List (K × Addr × Value)} {Q : Bool → Shared → Prop} (hu : knd.room A) (ha : (a == sysModules) = false) (hb : (b == sysModules) = false)
    (da : s.heap.DictOfH knd a ka) (db : s.heap.DictOfH knd b kb) (hits : ka.length = kb.length → ∀ (i : Nat) (k : K) (p : Addr × Value), ka[i]? = some (k, p) → ∃ (j : Nat) (q : Addr × Value), kb[j]? = some (k, q) ∧ SeqAt.EqP prog w A s p.2 q.2 true) (h : Q (ka.length == kb.length) s) :
    wpAny (model prog w) A (Builtin.Dict.samePairs nm a b) Q E s := by
  obtain ⟨oa, es, ep, hoa, _, hda, hea, hia, hna⟩ := da
  obtain ⟨ob, es', ep', hob, _, hdb, heb, hib, hnb⟩ := db
  have hla : ka.length = es.size := (size_of_entries hea).symm
  have hlb : kb.length = es'.size := (size_of_entries heb).symm
  rw [hla, hlb] at h
  unfold Builtin.Dict.samePairs Builtin.Dict.showsAll
  rw [if_neg (show ¬ (a == sysModules) = true by rw [ha]; exact Bool.false_ne_true), if_neg (show ¬ (b == sysModules) = true by rw [hb]; exact Bool.false_ne_true)]
  refine wpAny_bind (wpAny_pure (wpAny_bind (wpAny_pure ?_)))
  refine wpAny_bind (wpAny_dictEntries hoa hda ?_)
  dsimp only
  refine wpAny_bind (wpAny_dictEntries hob hdb ?_)
  by_cases hsz : es.size = es'.size
  case neg =>
    rw [if_pos (by simpa using hsz)]
    have hbf : (es.size == es'.size) = false := by simpa using hsz
    rw [hbf] at h
    exact wpAny_bind (wpAny_rule (wpAny_pure h))
  case pos =>
    have h' : Q true s := by simpa [hsz] using h
    have hits' := hits (by rw [hla, hlb]; exact hsz)
    rw [if_neg (by rw [hsz]; simp)]
    refine wpAny_bind (wpAny_dictEpoch hoa hda ?_)
    refine wpAny_bind ?_
    rw [Std.Legacy.Range.forIn_eq_forIn_range']
    simp only [Std.Legacy.Range.size, Nat.sub_zero, Nat.add_sub_cancel, Nat.div_one]
    refine wpAny_forIn_list _
      (fun rest q s' => s' = s ∧ q = (none, ()) ∧ ∃ i, rest = List.range' i (es.size - i) ∧ i ≤ es.size)
      _ ?_ ?_ _ _ ⟨rfl, rfl, 0, by simp, Nat.zero_le _⟩
    · rintro x rest q s' ⟨rfl, rfl, i, hr, hi⟩
      have hlt : i < es.size := by
        rcases Nat.lt_or_ge i es.size with h | h
        · exact h
        · rw [Nat.sub_eq_zero_of_le h] at hr; simp at hr
      obtain ⟨rfl, hrest⟩ : x = i ∧ rest = List.range' (i + 1) (es.size - (i + 1)) := by
        have e : es.size - i = (es.size - (i + 1)) + 1 := by omega
        rw [e, List.range'_succ] at hr
        injection hr with h1 h2
        exact ⟨h1, h2⟩
      refine wpAny_bind (wpAny_dictEntries hoa hda ?_)
      rw [Array.getElem?_eq_getElem hlt]
      have hlt' : x < ka.length := by rw [hla]; exact hlt
      obtain ⟨k, p, hkv⟩ : ∃ k p, ka[x]? = some (k, p) := ⟨ka[x].1, ka[x].2, List.getElem?_eq_getElem hlt'⟩
      have een : es[x] = entryOfKey knd (k, p) := by
        have q := entry_at hea x
        rw [hkv, Array.getElem?_eq_getElem hlt] at q
        exact Option.some.inj q
      obtain ⟨j, q, hj, heq⟩ := hits' x k p hkv
      show wpAny _ _ (holding [es[x].key, es[x].val] _ >>= _) _ _ _
      rw [een]
      refine wpAny_bind (wpAny_holding (wpAny_bind (wpAny_dictFind_heap hu (show knd.is s'.heap k p.1 from hia (k, p) (List.mem_of_getElem? hkv)) hob hdb heb hib hnb (fun hno => absurd hj (hno j q)) fun j' q' hj' => ?_)))
      have ej : j' = j := idxH_unique hnb hj' hj
      subst ej
      rw [hj] at hj'
      cases hj'
      have hjlt : j' < es'.size := by rw [← hlb]; exact (List.getElem?_eq_some_iff.mp hj).1
      have ee' : es'[j'] = entryOfKey knd (k, q) := by
        have z := entry_at heb j'
        rw [hj, Array.getElem?_eq_getElem hjlt] at z
        exact Option.some.inj z
      refine wpAny_bind (wpAny_dictEntries hob hdb ?_)
      rw [Array.getElem?_eq_getElem hjlt, ee']
      refine wpAny_holding (heq _ _ ?_)
      show wpAny _ _ (if (!true) = true then _ else _) _ _ _
      rw [if_neg (by decide)]
      refine wpAny_bind (wpAny_dictEpoch hoa hda ?_)
      rw [if_neg (by simp)]
      exact wpAny_pure ⟨rfl, rfl, x + 1, hrest, hlt⟩
    · rintro q s' ⟨rfl, rfl, i, hr, hi⟩
      exact wpAny_pure h'
theorem po_eq_dicts {a b : Addr} {ka kb : List (K × Addr × Value)} {Q : Value → Shared → Prop} (hu' : knd.room A.in1) (ha : (a == sysModules) = false) (hb : (b == sysModules) = false)
    (da : s.heap.DictOfH knd a ka) (db : s.heap.DictOfH knd b kb) (hu : A.units < cLine) (hits : ka.length = kb.length → ∀ (i : Nat) (k : K) (p : Addr × Value), ka[i]? = some (k, p) → ∃ (j : Nat) (q : Addr × Value), kb[j]? = some (k, q) ∧ SeqAt.EqP prog w A.in1 s p.2 q.2 true)
    (h : Q (.bool (ka.length == kb.length)) s) : wpAny (model prog w) A (compareOp .Eq (.ref a) (.ref b)) Q E s := by
  refine wpAny_richCompare_same_room (op := .Eq) da.typeIs db.typeIs PySem.F.slot_dict_eq (wpAny_call_entry PySem.F.slot_dict_eq da.typeIs PySem.F.entry_dict_eq ?_ (PySem.F.args_dict_eq_2 _ _)) hu
  show wpAny _ _ (Builtin.Dict.dictSlotArgs "__eq__" ⟨[.ref a, .ref b], []⟩ >>= _) _ _ s
  refine wpAny_bind ?_
  unfold Builtin.Dict.dictSlotArgs
  refine wpAny_bind (wpAny_notOrdered_dict da.typeIs ?_)
  show wpAny _ _ (pure (Value.ref a, Value.ref b)) _ _ s
  refine wpAny_pure ?_
  refine wpAny_bind (wpAny_isInstance (T := "dict") db.typeIs PySem.F.sub_dict_dict ?_)
  simp only [Bool.not_true, Bool.false_eq_true, if_false]
  refine wpAny_bind (wpAny_pure (wpAny_bind (wpAny_pure ?_)))
  refine wpAny_bind (po_samePairs hu' ha hb da db hits ?_)
  refine wpAny_pure ⟨_, rfl, ?_, ?_⟩
  · exact fun x => nomatch x
  · simpa using h
theorem po_ne_dicts {a b : Addr} {ka kb : List (K × Addr × Value)} {Q : Value → Shared → Prop} (hu' : knd.room A.in1) (ha : (a == sysModules) = false) (hb : (b == sysModules) = false)
    (da : s.heap.DictOfH knd a ka) (db : s.heap.DictOfH knd b kb) (hu : A.units < cLine) (hits : ka.length = kb.length → ∀ (i : Nat) (k : K) (p : Addr × Value), ka[i]? = some (k, p) → ∃ (j : Nat) (q : Addr × Value), kb[j]? = some (k, q) ∧ SeqAt.EqP prog w A.in1 s p.2 q.2 true)
    (h : Q (.bool (!(ka.length == kb.length))) s) : wpAny (model prog w) A (compareOp .NotEq (.ref a) (.ref b)) Q E s := by
  refine wpAny_richCompare_same_room (op := .NotEq) da.typeIs db.typeIs PySem.F.slot_dict_ne (wpAny_call_entry PySem.F.slot_dict_ne da.typeIs PySem.F.entry_dict_ne ?_ (PySem.F.args_dict_ne_2 _ _)) hu
  show wpAny _ _ (Builtin.Dict.dictSlotArgs "__ne__" ⟨[.ref a, .ref b], []⟩ >>= _) _ _ s
  refine wpAny_bind ?_
  unfold Builtin.Dict.dictSlotArgs
  refine wpAny_bind (wpAny_notOrdered_dict da.typeIs ?_)
  show wpAny _ _ (pure (Value.ref a, Value.ref b)) _ _ s
  refine wpAny_pure ?_
  refine wpAny_bind (wpAny_isInstance (T := "dict") db.typeIs PySem.F.sub_dict_dict ?_)
  simp only [Bool.not_true, Bool.false_eq_true, if_false]
  refine wpAny_bind (wpAny_pure (wpAny_bind (wpAny_pure ?_)))
  refine wpAny_bind (po_samePairs hu' ha hb da db hits ?_)
  refine wpAny_pure ⟨_, rfl, ?_, ?_⟩
  · exact fun x => nomatch x
  · simpa using h
end
end PySem.W
namespace Po
open PySem PySem.Spec PySem.W L2 PyProof.Rows
section
variable {X : Cx}
theorem entr_keys : ∀ {ks : List Ent} {xs : List (NestedKey × Addr × Value)}, Paired EntR ks xs → ∀ {i : Nat} {k : NestedKey} {p : Addr × Value}, xs[i]? = some (k, p) → ∃ e, ks[i]? = some e ∧ keyM e.1 = k ∧ RelV (.int e.2.2) p.2
  | _, _, .nil, i, k, p, h => by simp at h
  | _, _, .cons r t, i, k, p, h => by
    cases i with
    | zero =>
      simp only [List.getElem?_cons_zero, Option.some.injEq] at h
      subst h
      exact ⟨_, rfl, r.1, r.2.2⟩
    | succ i =>
      simp only [List.getElem?_cons_succ] at h ⊢
      exact entr_keys t h
/-- two dicts of the same terms in the same order -/
def rEqN (P : Program) (w : World) : R2 := fun x y H Q => ∃ a b T, x = .ref a ∧ y = .ref b ∧ ND P w H a T ∧ ND P w H b T ∧ Q (.bl true) H
theorem op_eqN (hu : X.A.units + 20 < cLine) : OpR X (compareOp .Eq) (rEqN X.prog X.w) := by
  rintro pins s σ H x y v u Q I rx ry ⟨a, b, T, rfl, rfl, ⟨ks, e1, m1, s1⟩, ⟨ls, e2, m2, s2⟩, q⟩
  cases rx
  cases ry
  obtain ⟨z1, d1, xs, r1, D1⟩ := ndp_dict I.hok m1 (ndp_of I.hok e1)
  obtain ⟨z2, d2, ys, r2, D2⟩ := ndp_dict I.hok m2 (ndp_of I.hok e2)
  have l1 : xs.length = T.length := by rw [← Paired.length r1, ← s1]; simp [strip]
  have l2 : ys.length = T.length := by rw [← Paired.length r2, ← s2]; simp [strip]
  refine po_eq_dicts (show X.A.units + 1 + 8 < cLine by omega) d1 d2 D1 D2 (by omega) (fun _ i k p hk => ?_) ?_
  · obtain ⟨e, he, hek, hev⟩ := entr_keys r1 hk
    have hT : T[i]? = some (e.1, e.2.2) := by rw [← s1]; unfold strip; rw [List.getElem?_map, he]; rfl
    rw [← s2] at hT
    unfold strip at hT
    rw [List.getElem?_map] at hT
    cases hl : ls[i]? with
    | none =>
      rw [hl] at hT
      cases hT
    | some e' =>
      rw [hl] at hT
      have hT' : (e'.1, e'.2.2) = (e.1, e.2.2) := Option.some.inj hT
      obtain ⟨x', hx', h1, h2, h3⟩ := paired_get r2 hl
      refine ⟨i, x'.2, ?_, ?_⟩
      · rw [hx', ← hek]
        have : x'.1 = keyM e.1 := by rw [← h1, (Prod.ext_iff.mp hT').1]
        rw [← this]
      · have : e'.2.2 = e.2.2 := (Prod.ext_iff.mp hT').2
        rw [this] at h3
        exact (eqAt_same hev h3 rfl).eqP
  · rw [l1, l2, beq_self_eq_true]
    exact ⟨.bl true, H, I, rfl, q⟩
/-- a dict of terms and an empty one -/
def rNeN (P : Program) (w : World) : R2 := fun x y H Q => ∃ a b T, x = .ref a ∧ y = .ref b ∧ ND P w H a T ∧ ND P w H b [] ∧ Q (.bl (decide (T ≠ []))) H
theorem op_neN (hu : X.A.units + 20 < cLine) : OpR X (compareOp .NotEq) (rNeN X.prog X.w) := by
  rintro pins s σ H x y v u Q I rx ry ⟨a, b, T, rfl, rfl, ⟨ks, e1, m1, s1⟩, ⟨ls, e2, m2, s2⟩, q⟩
  cases rx
  cases ry
  obtain ⟨z1, d1, xs, r1, D1⟩ := ndp_dict I.hok m1 (ndp_of I.hok e1)
  obtain ⟨z2, d2, ys, r2, D2⟩ := ndp_dict I.hok m2 (ndp_of I.hok e2)
  have l1 : xs.length = T.length := by rw [← Paired.length r1, ← s1]; simp [strip]
  have l2 : ys.length = 0 := by rw [← Paired.length r2]; simpa [strip] using congrArg List.length s2
  refine po_ne_dicts (show X.A.units + 1 + 8 < cLine by omega) d1 d2 D1 D2 (by omega) (fun hl i k p hk => ?_) ?_
  · have : i < xs.length := (List.getElem?_eq_some_iff.mp hk).1
    omega
  · rw [l1, l2]
    have : (!T.length == 0) = decide (T ≠ []) := by cases T <;> simp
    rw [this]
    exact ⟨.bl _, H, I, rfl, q⟩
end
end Po
/-! Systems of differences: rings, solutions, the graph of last causes, and why lowering comes to an end. Plain Lean. -/
namespace Lo
section
variable {α : Type} [DecidableEq α]

abbrev Row (α : Type) := α × α × Int
def Sat (rows : List (Row α)) (v : α → Int) : Prop := ∀ r ∈ rows, v r.1 - v r.2.1 ≤ r.2.2
def put {β : Type} (f : α → β) (a : α) (b : β) : α → β := fun x => if x = a then b else f x
theorem put_at {β : Type} (f : α → β) (a : α) (b : β) : put f a b a = b := if_pos rfl
theorem put_off {β : Type} {f : α → β} {a x : α} {b : β} (h : x ≠ a) : put f a b x = f x := if_neg h

/-- the ring of rows es: each right is the next left, no left twice, a negative sum -/
structure IsRing (es : List (Row α)) : Prop where
  two : 2 ≤ es.length
  nd : (es.map (·.1)).Nodup
  turn : es.map (·.2.1) = (es.map (·.1)).drop 1 ++ (es.map (·.1)).take 1
  neg : (es.map (·.2.2)).sum < 0
/-- found are the places of a ring -/
def RingOk (rows : List (Row α)) (found : List Nat) : Prop :=
  ∃ es : List (Row α), found.map (fun i => rows[i]?) = es.map some ∧ IsRing es

theorem sum_map_sub {β : Type} (f g : β → Int) : ∀ l : List β, (l.map fun x => f x - g x).sum = (l.map f).sum - (l.map g).sum
  | [] => rfl
  | x :: l => by
    have ih := sum_map_sub f g l
    simp only [List.map_cons, List.sum_cons]
    omega
theorem sum_le {β : Type} (f g : β → Int) : ∀ l : List β, (∀ x ∈ l, f x ≤ g x) → (l.map f).sum ≤ (l.map g).sum
  | [], _ => Int.le_refl _
  | x :: l, h => by
    have ih := sum_le f g l fun y hy => h y (List.mem_cons_of_mem _ hy)
    have h0 := h x List.mem_cons_self
    simp only [List.map_cons, List.sum_cons]
    omega
theorem sum_lt {β : Type} (f g : β → Int) : ∀ (l : List β) (a : β), a ∈ l → (∀ x ∈ l, f x ≤ g x) → f a < g a → (l.map f).sum < (l.map g).sum
  | [], _, h, _, _ => absurd h List.not_mem_nil
  | x :: l, a, ha, h, hl => by
    have h0 := h x List.mem_cons_self
    have ht : ∀ y ∈ l, f y ≤ g y := fun y hy => h y (List.mem_cons_of_mem _ hy)
    simp only [List.map_cons, List.sum_cons]
    rcases List.mem_cons.mp ha with e | e
    · subst e
      have := sum_le f g l ht
      omega
    · have := sum_lt f g l a e ht hl
      omega
theorem sum_turn {β : Type} (f : β → Int) (l : List β) : ((l.drop 1 ++ l.take 1).map f).sum = (l.map f).sum := by
  cases l with
  | nil => rfl
  | cons x l =>
    simp only [List.drop_succ_cons, List.drop_zero, List.take_succ_cons, List.take_zero, List.map_append, List.sum_append, List.map_cons, List.map_nil, List.sum_cons, List.sum_nil]
    omega
theorem ring_not_sat {rows es : List (Row α)} (h : ∀ e ∈ es, e ∈ rows) (R : IsRing es) (v : α → Int) : ¬ Sat rows v := fun s => by
  have h1 : (es.map fun e => v e.1 - v e.2.1).sum ≤ (es.map (·.2.2)).sum := sum_le _ _ es fun e he => s e (h e he)
  rw [sum_map_sub (fun e : Row α => v e.1) (fun e : Row α => v e.2.1)] at h1
  have h2 : (es.map fun e : Row α => v e.2.1).sum = (es.map fun e : Row α => v e.1).sum := by
    have e1 : (es.map fun e : Row α => v e.2.1) = (es.map (·.2.1)).map v := by rw [List.map_map]; rfl
    have e2 : (es.map fun e : Row α => v e.1) = (es.map (·.1)).map v := by rw [List.map_map]; rfl
    rw [e1, e2, R.turn, sum_turn]
  have := R.neg
  omega
theorem ringOk_not_sat {rows : List (Row α)} {found : List Nat} (h : RingOk rows found) (v : α → Int) : ¬ Sat rows v := by
  obtain ⟨es, e, R⟩ := h
  refine ring_not_sat (fun x hx => ?_) R v
  have h1 : some x ∈ es.map some := List.mem_map_of_mem hx
  rw [← e] at h1
  obtain ⟨i, _, hi⟩ := List.mem_map.mp h1
  exact List.mem_of_getElem? hi

/-- pigeons -/
theorem nodup_le : ∀ (l m : List α), l.Nodup → (∀ x ∈ l, x ∈ m) → l.length ≤ m.length
  | [], _, _, _ => Nat.zero_le _
  | x :: l, m, hd, hs => by
    obtain ⟨h1, h2⟩ := List.nodup_cons.mp hd
    have hx := hs x List.mem_cons_self
    have hl : ∀ y ∈ l, y ∈ m.erase x := fun y hy => by
      have ne : y ≠ x := fun e => h1 (e ▸ hy)
      exact (List.mem_erase_of_ne ne).mpr (hs y (List.mem_cons_of_mem _ hy))
    have ih := nodup_le l (m.erase x) h2 hl
    have z := List.length_erase_of_mem hx
    have p := List.length_pos_of_mem hx
    simp only [List.length_cons]
    omega

/-! ### walks in the graph of the causes -/
abbrev Gr (α : Type) := α → Option (α × Int)
inductive Ch (g : Gr α) : α → List α → α → Int → Prop
  | nil (x : α) : Ch g x [] x 0
  | cons {x y z : α} {c s : Int} {l : List α} : g x = some (y, c) → Ch g y l z s → Ch g x (x :: l) z (c + s)
variable {g : Gr α}
theorem Ch.snoc {x y z : α} {l : List α} {c s : Int} (h : Ch g x l y s) (e : g y = some (z, c)) : Ch g x (l ++ [y]) z (s + c) := by
  induction h with
  | nil x =>
    have q := Ch.cons e (Ch.nil z)
    have z : c + 0 = 0 + c := by omega
    rw [z] at q
    exact q
  | @cons x y z' c' s' l e' _ ih =>
    have q := Ch.cons e' (ih e)
    have z : c' + (s' + c) = c' + s' + c := by omega
    rw [z] at q
    exact q
theorem Ch.from_mem {x y a : α} {l : List α} {s : Int} (h : Ch g x l y s) (ha : a ∈ l) : ∃ p q t, l = p ++ a :: q ∧ Ch g a (a :: q) y t := by
  induction h with
  | nil x => exact absurd ha List.not_mem_nil
  | @cons x y z c s l e h ih =>
    by_cases k : a = x
    · subst k
      exact ⟨[], l, _, rfl, Ch.cons e h⟩
    · have hm : a ∈ l := by
        rcases List.mem_cons.mp ha with q | q
        · exact absurd q k
        · exact q
      obtain ⟨p, q, t, e2, h2⟩ := ih hm
      exact ⟨x :: p, q, t, by rw [e2]; rfl, h2⟩
/-- the walk up to the first stop is told by its start -/
theorem Ch.det {S : α → Prop} {x y y' : α} {l l' : List α} {s s' : Int} (h : Ch g x l y s) (h' : Ch g x l' y' s') (hy : S y) (hy' : S y') (hl : ∀ a ∈ l, ¬ S a) (hl' : ∀ a ∈ l', ¬ S a) : l = l' := by
  induction h generalizing l' s' with
  | nil x =>
    cases h' with
    | nil => rfl
    | cons e h2 => exact absurd hy (hl' _ List.mem_cons_self)
  | @cons x y0 z c s l e h ih =>
    cases h' with
    | nil => exact absurd hy' (hl _ List.mem_cons_self)
    | @cons _ y1 _ c1 s1 l1 e1 h1 =>
      rw [e] at e1
      have q := Option.some.inj e1
      have q1 : y0 = y1 := congrArg Prod.fst q
      subst q1
      have := ih h1 hy (fun a ha => hl a (List.mem_cons_of_mem _ ha)) (fun a ha => hl' a (List.mem_cons_of_mem _ ha))
      rw [this]
theorem Ch.nodup {S : α → Prop} {x y : α} {l : List α} {s : Int} (h : Ch g x l y s) (hy : S y) (hl : ∀ a ∈ l, ¬ S a) : l.Nodup := by
  induction h with
  | nil x => exact List.nodup_nil
  | @cons x y0 z c s l e h ih =>
    have ht : ∀ a ∈ l, ¬ S a := fun a ha => hl a (List.mem_cons_of_mem _ ha)
    refine List.nodup_cons.mpr ⟨fun hm => ?_, ih hy ht⟩
    obtain ⟨p, q, t, e2, h2⟩ := h.from_mem hm
    have hq : ∀ a ∈ x :: q, ¬ S a := fun a ha => ht a (by rw [e2]; exact List.mem_append_right _ ha)
    have z := (Ch.cons e h).det h2 hy hy hl hq
    have z2 := congrArg List.length z
    rw [e2] at z2
    simp only [List.length_cons, List.length_append] at z2
    omega
theorem Ch.le {val : α → Int} (hw : ∀ x y c, g x = some (y, c) → val y + c ≤ val x) {x y : α} {l : List α} {s : Int} (h : Ch g x l y s) : s ≤ val x - val y := by
  induction h with
  | nil x => omega
  | cons e h ih =>
    have := hw _ _ _ e
    omega
theorem Ch.low {M : Int} (hM : ∀ x y c, g x = some (y, c) → -M ≤ c) {x y : α} {l : List α} {s : Int} (h : Ch g x l y s) : -(M * (l.length : Int)) ≤ s := by
  induction h with
  | nil x => simp
  | @cons x y0 z c s l e h ih =>
    have := hM _ _ _ e
    simp only [List.length_cons]
    have e1 : M * ((l.length + 1 : Nat) : Int) = M * (l.length : Int) + M := by
      rw [Int.natCast_add, Int.mul_add]; omega
    rw [e1]
    omega

/-- what holds between the values and the causes -/
structure Low (rows : List (Row α)) (val : α → Int) (g : Gr α) : Prop where
  edge : ∀ x y c, g x = some (y, c) → (x, y, c) ∈ rows ∧ val y + c ≤ val x
  root : ∀ x, g x = none → val x = 0
  neg : ∀ x l s, l ≠ [] → Ch g x l x s → s < 0
theorem Low.start (rows : List (Row α)) : Low rows (fun _ => 0) (fun _ => none) := by
  refine ⟨(fun x y c e => nomatch e), fun _ _ => rfl, fun x l s hl h => ?_⟩
  cases h with
  | nil => exact absurd rfl hl
  | cons e _ => cases e
theorem Low.step {rows : List (Row α)} {val : α → Int} {x0 y0 : α} {c0 : Int} (L : Low rows val g) (hr : (x0, y0, c0) ∈ rows) (hne : x0 ≠ y0) (hlt : val y0 + c0 < val x0) :
    Low rows (put val x0 (val y0 + c0)) (put g x0 (some (y0, c0))) := by
  have weak : ∀ x y c, put g x0 (some (y0, c0)) x = some (y, c) → val y + c ≤ val x := fun x y c e => by
    by_cases k : x = x0
    · subst k
      rw [put_at] at e
      injection e with e
      injection e with e1 e2
      subst e1 e2
      omega
    · rw [put_off k] at e
      exact (L.edge x y c e).2
  have split : ∀ (x z : α) (l : List α) (s : Int), Ch (put g x0 (some (y0, c0))) x l z s → Ch g x l z s ∨ s < val x - val z := fun x z l s h => by
    induction h with
    | nil x => exact .inl (Ch.nil x)
    | @cons x y z c s l e h ih =>
      have hs : s ≤ val y - val z := h.le weak
      by_cases k : x = x0
      · subst k
        rw [put_at] at e
        injection e with e
        injection e with e1 e2
        subst e1 e2
        exact .inr (by omega)
      · rw [put_off k] at e
        have he := (L.edge x y c e).2
        rcases ih with i | i
        · exact .inl (Ch.cons e i)
        · exact .inr (by omega)
  refine ⟨fun x y c e => ?_, fun x e => ?_, fun x l s hl h => ?_⟩
  · by_cases k : x = x0
    · subst k
      rw [put_at] at e
      injection e with e
      injection e with e1 e2
      subst e1 e2
      refine ⟨hr, ?_⟩
      rw [put_at, put_off hne.symm]
      omega
    · rw [put_off k] at e
      have he := L.edge x y c e
      refine ⟨he.1, ?_⟩
      rw [put_off k]
      by_cases j : y = x0
      · subst j
        rw [put_at]
        omega
      · rw [put_off j]
        exact he.2
  · by_cases k : x = x0
    · subst k
      rw [put_at] at e
      cases e
    · rw [put_off k] at e ⊢
      exact L.root x e
  · rcases split x x l s h with i | i
    · exact L.neg x l s hl i
    · omega

/-- from x a name without a cause is reached -/
def Ends (g : Gr α) (x : α) : Prop := ∃ l y s, Ch g x l y s ∧ g y = none
theorem ends_none {x : α} (h : g x = none) : Ends g x := ⟨[], x, 0, Ch.nil x, h⟩
theorem ends_next {x y : α} {c : Int} (e : g x = some (y, c)) (h : Ends g y) : Ends g x := by
  obtain ⟨l, z, s, h1, h2⟩ := h
  exact ⟨_, z, _, Ch.cons e h1, h2⟩
theorem Ch.mem_some {x y : α} {l : List α} {s : Int} (h : Ch g x l y s) : ∀ a ∈ l, g a ≠ none := by
  induction h with
  | nil x => exact fun a ha => absurd ha List.not_mem_nil
  | @cons x y z c s l e h ih =>
    intro a ha
    rcases List.mem_cons.mp ha with q | q
    · rw [q, e]; exact fun z => nomatch z
    · exact ih a q
/-- how low a value can be -/
theorem Low.floor {rows : List (Row α)} {val : α → Int} (L : Low rows val g) (hE : ∀ x, Ends g x) {M : Int} (hM0 : 0 ≤ M) (hM : ∀ r ∈ rows, -M ≤ r.2.2) (x : α) : -(M * (rows.length : Int)) ≤ val x := by
  obtain ⟨l, y, s, h, hy⟩ := hE x
  have hd : l.Nodup := h.nodup (S := fun a => g a = none) hy h.mem_some
  have hl : l.length ≤ (rows.map (·.1)).length := nodup_le l _ hd fun a ha => by
    have k := h.mem_some a ha
    cases e : g a with
    | none => exact absurd e k
    | some p => exact List.mem_map.mpr ⟨_, (L.edge a p.1 p.2 e).1, rfl⟩
  rw [List.length_map] at hl
  have h1 := h.le fun x y c e => (L.edge x y c e).2
  have h2 := h.low (M := M) fun x y c e => hM _ (L.edge x y c e).1
  have h3 := L.root y hy
  have h4 : M * (l.length : Int) ≤ M * (rows.length : Int) := Int.mul_le_mul_of_nonneg_left (by omega) hM0
  omega
end
end Lo
/-! The graph that a table of causes makes, the ring that is read off it, the passes and their measure; least sums of chains. -/
namespace Lo
section
variable {α : Type} [DecidableEq α]
theorem nd_one (x : α) : [x].Nodup := List.nodup_cons.mpr ⟨List.not_mem_nil, List.nodup_nil⟩
theorem Ch.append {g : Gr α} {x y z : α} {l l' : List α} {s s' : Int} (h : Ch g x l y s) (h' : Ch g y l' z s') : Ch g x (l ++ l') z (s + s') := by
  induction h with
  | nil x =>
    have e : (0 : Int) + s' = s' := by omega
    rw [e]
    exact h'
  | @cons x y c0 c s l e _ ih =>
    have q := Ch.cons e (ih h')
    have e2 : c + (s + s') = c + s + s' := by omega
    rw [e2] at q
    exact q
theorem ends_of {g : Gr α} {x y : α} {l : List α} {s : Int} (h : Ch g x l y s) (hy : Ends g y) : Ends g x := by
  obtain ⟨l2, z, s2, h2, hz⟩ := hy
  exact ⟨_, z, _, h.append h2, hz⟩

/-- names cs have causes: the places cz of rows -/
def gOf (rows : List (Row α)) (cs : List α) (cz : α → Nat) : Gr α := fun x => if x ∈ cs then (rows[cz x]?).map fun r => r.2 else none
/-- each cause of a name is a row that begins with it -/
def Lk (rows : List (Row α)) (cs : List α) (cz : α → Nat) : Prop := ∀ x ∈ cs, ∃ y c, rows[cz x]? = some (x, y, c)
variable {rows : List (Row α)} {cs : List α} {cz : α → Nat}
theorem gOf_out {x : α} (h : x ∉ cs) : gOf rows cs cz x = none := if_neg h
theorem gOf_in {x y : α} {c : Int} (h : x ∈ cs) (e : rows[cz x]? = some (x, y, c)) : gOf rows cs cz x = some (y, c) := by
  unfold gOf
  rw [if_pos h, e]
  rfl
theorem gOf_some (k : Lk rows cs cz) {x y : α} {c : Int} (h : gOf rows cs cz x = some (y, c)) : x ∈ cs ∧ rows[cz x]? = some (x, y, c) := by
  by_cases m : x ∈ cs
  · obtain ⟨y', c', e⟩ := k x m
    rw [gOf_in m e] at h
    injection h with h
    injection h with h1 h2
    subst h1 h2
    exact ⟨m, e⟩
  · rw [gOf_out m] at h
    cases h
theorem gOf_none (k : Lk rows cs cz) {x : α} (h : gOf rows cs cz x = none) : x ∉ cs := fun m => by
  obtain ⟨y, c, e⟩ := k x m
  rw [gOf_in m e] at h
  cases h
/-- a list with one more, unless it is there -/
def addN (l : List α) (x : α) : List α := if x ∈ l then l else l ++ [x]
theorem mem_addN {l : List α} {x y : α} : y ∈ addN l x ↔ y ∈ l ∨ y = x := by
  unfold addN
  split
  · rename_i h
    exact ⟨Or.inl, fun z => z.elim id fun e => e ▸ h⟩
  · rw [List.mem_append, List.mem_singleton]
theorem nodup_addN {l : List α} {x : α} (h : l.Nodup) : (addN l x).Nodup := by
  unfold addN
  split
  · exact h
  · rename_i n
    refine List.nodup_append.mpr ⟨h, nd_one x, fun a ha b hb => ?_⟩
    rw [List.mem_singleton] at hb
    subst hb
    exact fun e => n (e ▸ ha)
theorem length_addN {l : List α} {x : α} : (addN l x).length ≤ l.length + 1 := by
  unfold addN
  split <;> simp
theorem lk_put (k : Lk rows cs cz) {x y : α} {c : Int} {i : Nat} (e : rows[i]? = some (x, y, c)) : Lk rows (addN cs x) (put cz x i) := fun z hz => by
  by_cases j : z = x
  · subst j
    exact ⟨y, c, by rw [put_at]; exact e⟩
  · rw [put_off j]
    exact k z ((mem_addN.mp hz).resolve_right j)
theorem gOf_put {x y : α} {c : Int} {i : Nat} (e : rows[i]? = some (x, y, c)) : gOf rows (addN cs x) (put cz x i) = put (gOf rows cs cz) x (some (y, c)) := by
  funext z
  by_cases j : z = x
  · subst j
    rw [put_at]
    refine gOf_in (mem_addN.mpr (.inr rfl)) ?_
    rw [put_at]
    exact e
  · rw [put_off j]
    unfold gOf
    have m : z ∈ addN cs x ↔ z ∈ cs := by
      rw [mem_addN]
      exact ⟨fun h => h.resolve_right j, .inl⟩
    rw [put_off j]
    by_cases h : z ∈ cs
    · rw [if_pos h, if_pos (m.mpr h)]
    · rw [if_neg h, if_neg fun q => h (m.mp q)]

/-! ### the ring -/
theorem Ch.rights (k : Lk rows cs cz) {x y : α} {l : List α} {s : Int} (h : Ch (gOf rows cs cz) x l y s) :
    ∃ es : List (Row α), l.map (fun a => rows[cz a]?) = es.map some ∧ es.map (·.1) = l ∧ x :: es.map (·.2.1) = l ++ [y] ∧ (es.map (·.2.2)).sum = s := by
  induction h with
  | nil x => exact ⟨[], rfl, rfl, rfl, rfl⟩
  | @cons x y z c s l e h ih =>
    obtain ⟨es, h1, h2, h3, h4⟩ := ih
    obtain ⟨_, e2⟩ := gOf_some k e
    refine ⟨(x, y, c) :: es, ?_, ?_, ?_, ?_⟩
    · rw [List.map_cons, e2, h1]
      rfl
    · rw [List.map_cons, h2]
    · show x :: y :: es.map (·.2.1) = x :: (l ++ [z])
      rw [h3]
    · rw [List.map_cons, List.sum_cons, h4]
theorem ring_read (k : Lk rows cs cz) {val : α → Int} (L : Low rows val (gOf rows cs cz)) (hne : ∀ r ∈ rows, r.1 ≠ r.2.1) {start : α} {l : List α} {s : Int} (h : Ch (gOf rows cs cz) start (start :: l) start s)
    (hl : ∀ a ∈ l, a ≠ start) : RingOk rows ((start :: l).map cz) := by
  obtain ⟨es, h1, h2, h3, h4⟩ := h.rights k
  have hs : s < 0 := L.neg start _ s (List.cons_ne_nil _ _) h
  refine ⟨es, ?_, ?_⟩
  · rw [← h1, List.map_map]
    rfl
  · cases h with
    | @cons _ y _ c s' _ e h' =>
      have nd : l.Nodup := h'.nodup (S := fun a => a = start) rfl hl
      refine ⟨?_, ?_, ?_, by rw [h4]; exact hs⟩
      · have hlen : es.length = l.length + 1 := by
          have := congrArg List.length h2
          rw [List.length_map] at this
          exact this
        rw [hlen]
        cases l with
        | cons _ _ => simp
        | nil =>
          cases h' with
          | nil => exact absurd rfl (hne _ (L.edge _ _ _ e).1)
      · rw [h2]
        exact List.nodup_cons.mpr ⟨fun m => hl _ m rfl, nd⟩
      · rw [h2]
        have h5 : es.map (·.2.1) = l ++ [start] := (List.cons.inj h3).2
        rw [h5]
        rfl

/-! ### a pass, and the measure -/
def span (rows : List (Row α)) : Int := ((rows.map fun r => r.2.2.natAbs).sum : Nat)
theorem span_le {rows : List (Row α)} {r : Row α} (h : r ∈ rows) : -span rows ≤ r.2.2 ∧ r.2.2 ≤ span rows := by
  have : r.2.2.natAbs ≤ (rows.map fun r => r.2.2.natAbs).sum := by
    induction rows with
    | nil => exact absurd h List.not_mem_nil
    | cons a t ih =>
      rw [List.map_cons, List.sum_cons]
      rcases List.mem_cons.mp h with e | e
      · subst e
        omega
      · have := ih e
        omega
  unfold span
  omega
theorem span_nonneg (rows : List (Row α)) : 0 ≤ span rows := Int.natCast_nonneg _
/-- how far the values are above what is the least for them -/
def pot (rows : List (Row α)) (ks : List α) (val : α → Int) : Int := (ks.map fun x => val x + span rows * (rows.length : Int)).sum
theorem sum_nonneg {β : Type} (f : β → Int) : ∀ l : List β, (∀ x ∈ l, 0 ≤ f x) → 0 ≤ (l.map f).sum
  | [], _ => Int.le_refl _
  | x :: l, h => by
    have := sum_nonneg f l fun y hy => h y (List.mem_cons_of_mem _ hy)
    have := h x List.mem_cons_self
    rw [List.map_cons, List.sum_cons]
    omega
theorem pot_nonneg {val : α → Int} {g : Gr α} (ks : List α) (L : Low rows val g) (hE : ∀ x, Ends g x) : 0 ≤ pot rows ks val := by
  refine sum_nonneg _ ks fun x _ => ?_
  have := L.floor hE (span_nonneg rows) (fun r hr => (span_le hr).1) x
  omega
theorem pot_put {val : α → Int} {ks : List α} {x : α} {w : Int} (hx : x ∈ ks) (h : w < val x) : pot rows ks (put val x w) < pot rows ks val := by
  refine sum_lt _ _ ks x hx (fun y _ => ?_) ?_
  · by_cases j : y = x
    · subst j
      rw [put_at]
      omega
    · rw [put_off j]
      exact Int.le_refl _
  · rw [put_at]
    omega

/-! ### the places of a turn -/
/-- the rounds of `_turn` at the beginning of turn i: what was met in earlier rounds ends -/
structure Met (g : Gr α) (cs rs : List α) (rn : α → Nat) (i : Nat) : Prop where
  nd : rs.Nodup
  sub : ∀ x ∈ rs, x ∈ cs
  ends : ∀ x ∈ rs, Ends g x ∧ rn x < i
  past : ∀ j x, j < i → cs[j]? = some x → Ends g x
theorem Met.start (g : Gr α) (cs : List α) (rn : α → Nat) : Met g cs [] rn 0 :=
  ⟨List.nodup_nil, fun x h => absurd h List.not_mem_nil, fun x h => absurd h List.not_mem_nil, fun j x h => absurd h (Nat.not_lt_zero _)⟩
/-- within turn i: rs the names met before, t those of this turn -/
structure MetIn (g : Gr α) (cs rs : List α) (rn : α → Nat) (i : Nat) (start : α) (t : List α) (name : α) : Prop where
  nd : (rs ++ t).Nodup
  sub : ∀ x ∈ rs ++ t, x ∈ cs
  ends : ∀ x ∈ rs, Ends g x ∧ rn x < i
  now : ∀ x ∈ t, rn x = i ∧ ∃ l s, l ≠ [] ∧ Ch g x l name s
  from_ : ∃ l s, Ch g start l name s
theorem MetIn.start {g : Gr α} {cs rs : List α} {rn : α → Nat} {i : Nat} (M : Met g cs rs rn i) (start : α) : MetIn g cs rs rn i start [] start := by
  refine ⟨by rw [List.append_nil]; exact M.nd, by rw [List.append_nil]; exact M.sub, M.ends, fun x h => absurd h List.not_mem_nil, [], 0, Ch.nil _⟩
theorem MetIn.step {g : Gr α} {cs rs : List α} {rn : α → Nat} {i : Nat} {start name y : α} {c : Int} {t : List α} (M : MetIn g cs rs rn i start t name) (hc : name ∈ cs) (hn : name ∉ rs ++ t) (e : g name = some (y, c)) :
    MetIn g cs rs (put rn name i) i start (t ++ [name]) y := by
  have one : Ch g name [name] y (c + 0) := Ch.cons e (Ch.nil y)
  refine ⟨?_, fun x hx => ?_, fun x hx => ?_, fun x hx => ?_, ?_⟩
  · rw [← List.append_assoc]
    refine List.nodup_append.mpr ⟨M.nd, nd_one _, fun a ha b hb => ?_⟩
    rw [List.mem_singleton] at hb
    subst hb
    exact fun q => hn (q ▸ ha)
  · rw [← List.append_assoc] at hx
    rcases List.mem_append.mp hx with q | q
    · exact M.sub x q
    · rw [List.mem_singleton] at q
      exact q ▸ hc
  · have ne : x ≠ name := fun q => hn (List.mem_append_left _ (q ▸ hx))
    rw [put_off ne]
    exact M.ends x hx
  · rcases List.mem_append.mp hx with q | q
    · have ne : x ≠ name := fun z => hn (List.mem_append_right _ (z ▸ q))
      obtain ⟨h1, l, s, h2, h3⟩ := M.now x q
      refine ⟨by rw [put_off ne]; exact h1, l ++ [name], _, fun z => ?_, h3.append one⟩
      exact List.cons_ne_nil _ _ (List.append_eq_nil_iff.mp z).2
    · rw [List.mem_singleton] at q
      subst q
      exact ⟨put_at _ _ _, _, _, List.cons_ne_nil _ _, one⟩
  · obtain ⟨l, s, h⟩ := M.from_
    exact ⟨_, _, h.append one⟩
/-- where the walk of turn i comes to something that ends, all of it ends -/
theorem MetIn.close {g : Gr α} {cs rs : List α} {rn : α → Nat} {i : Nat} {start name : α} {t : List α} (M : MetIn g cs rs rn i start t name) (hs : cs[i]? = some start) (h : Ends g name)
    (past : ∀ j x, j < i → cs[j]? = some x → Ends g x) : Met g cs (rs ++ t) rn (i + 1) := by
  refine ⟨M.nd, M.sub, fun x hx => ?_, fun j x hj hx => ?_⟩
  · rcases List.mem_append.mp hx with q | q
    · obtain ⟨h1, h2⟩ := M.ends x q
      exact ⟨h1, by omega⟩
    · obtain ⟨h1, l, s, _, h3⟩ := M.now x q
      exact ⟨ends_of h3 h, by omega⟩
  · by_cases k : j = i
    · subst k
      rw [hs] at hx
      injection hx with hx
      subst hx
      obtain ⟨l, s, h3⟩ := M.from_
      exact ends_of h3 h
    · exact past j x (by omega) hx
theorem Met.all {g : Gr α} {cs rs : List α} {rn : α → Nat} (M : Met g cs rs rn cs.length) (out : ∀ x, x ∉ cs → g x = none) (x : α) : Ends g x := by
  by_cases h : x ∈ cs
  · obtain ⟨j, hj, e⟩ := List.getElem_of_mem h
    exact M.past j x hj (by rw [List.getElem?_eq_getElem hj, e])
  · exact ends_none (out x h)
theorem MetIn.room {g : Gr α} {cs rs : List α} {rn : α → Nat} {i : Nat} {start name : α} {t : List α} (M : MetIn g cs rs rn i start t name) (hc : name ∈ cs) (hn : name ∉ rs ++ t) : (rs ++ t).length < cs.length := by
  have := nodup_le (name :: (rs ++ t)) cs (List.nodup_cons.mpr ⟨hn, M.nd⟩) fun x hx => by
    rcases List.mem_cons.mp hx with q | q
    · exact q ▸ hc
    · exact M.sub x q
  rw [List.length_cons] at this
  omega
end
end Lo
/-! Least sums of chains, told by the solutions: what a system implies. -/
namespace Lo
section
variable {α : Type} [DecidableEq α]
/-- each row that begins with a keeps the sums -/
def Done (rows : List (Row α)) (ss : List α) (sv : α → Int) (a : α) : Prop := ∀ r ∈ rows, r.1 = a → r.2.1 ∈ ss ∧ sv r.2.1 ≤ sv a + r.2.2
/-- the sums so far -/
structure Sums (rows : List (Row α)) (left : α) (ss : List α) (sv : α → Int) : Prop where
  nd : ss.Nodup
  sub : ∀ x ∈ ss, x = left ∨ ∃ r ∈ rows, x = r.2.1
  has : left ∈ ss
  low : sv left ≤ 0
  sound : ∀ x ∈ ss, ∀ u, Sat rows u → u left - u x ≤ sv x
  up : ∀ x ∈ ss, sv x ≤ span rows * (ss.length : Int)
variable {rows : List (Row α)} {left : α} {ss : List α} {sv : α → Int}
theorem Sums.start (rows : List (Row α)) (left : α) (sv : α → Int) (h : sv left = 0) : Sums rows left [left] sv := by
  refine ⟨nd_one left, fun x hx => .inl (List.mem_singleton.mp hx), List.mem_singleton.mpr rfl, by omega, fun x hx u _ => ?_, fun x hx => ?_⟩
  · rw [List.mem_singleton] at hx
    subst hx
    omega
  · rw [List.mem_singleton] at hx
    subst hx
    have := span_nonneg rows
    simp
    omega
/-- a name is reached, or a sum is lowered, by a row -/
theorem Sums.step (S : Sums rows left ss sv) {a b : α} {c : Int} (hr : (a, b, c) ∈ rows) (ha : a ∈ ss) (h : b ∈ ss → sv a + c < sv b) : Sums rows left (addN ss b) (put sv b (sv a + c)) := by
  have hc : -span rows ≤ c ∧ c ≤ span rows := span_le hr
  have h0 := span_nonneg rows
  have hsa := S.up a ha
  have grow : ∀ n : Nat, span rows * ((n : Nat) : Int) ≤ span rows * ((n + 1 : Nat) : Int) := fun n => by
    have : span rows * ((n + 1 : Nat) : Int) = span rows * (n : Int) + span rows := by
      rw [Int.natCast_add, Int.mul_add]
      omega
    omega
  have hlen : b ∉ ss → (addN ss b).length = ss.length + 1 := fun k => by
    unfold addN
    rw [if_neg k, List.length_append]
    rfl
  have hlen2 : b ∈ ss → (addN ss b).length = ss.length := fun k => by
    unfold addN
    rw [if_pos k]
  refine ⟨nodup_addN S.nd, fun x hx => ?_, mem_addN.mpr (.inl S.has), ?_, fun x hx u hu => ?_, fun x hx => ?_⟩
  · rcases mem_addN.mp hx with q | q
    · exact S.sub x q
    · exact .inr ⟨_, hr, q⟩
  · by_cases k : left = b
    · subst k
      have := h S.has
      have := S.low
      rw [put_at]
      omega
    · rw [put_off k]
      exact S.low
  · by_cases k : x = b
    · subst k
      rw [put_at]
      have h1 := S.sound a ha u hu
      have h2 := hu _ hr
      simp only at h2
      omega
    · rw [put_off k]
      exact S.sound x ((mem_addN.mp hx).resolve_right k) u hu
  · by_cases k : x = b
    · subst k
      rw [put_at]
      by_cases m : x ∈ ss
      · have h1 := h m
        have h2 := S.up x m
        rw [hlen2 m]
        omega
      · rw [hlen m]
        have : span rows * ((ss.length + 1 : Nat) : Int) = span rows * (ss.length : Int) + span rows := by
          rw [Int.natCast_add, Int.mul_add]
          omega
        omega
    · rw [put_off k]
      have m := (mem_addN.mp hx).resolve_right k
      have h1 := S.up x m
      by_cases j : b ∈ ss
      · rw [hlen2 j]
        exact h1
      · rw [hlen j]
        have := grow ss.length
        omega
/-- what was done stays done, but for the name that is lowered -/
theorem Done.step {a b x : α} {c : Int} (D : Done rows ss sv x) (hx : x ≠ b) (h : b ∈ ss → sv a + c < sv b) : Done rows (addN ss b) (put sv b (sv a + c)) x := fun r hr e => by
  obtain ⟨h1, h2⟩ := D r hr e
  refine ⟨mem_addN.mpr (.inl h1), ?_⟩
  rw [put_off hx]
  by_cases k : r.2.1 = b
  · rw [k, put_at]
    have := h (k ▸ h1)
    rw [k] at h2
    omega
  · rw [put_off k]
    exact h2
/-! ### the measure -/
def ends_ (rows : List (Row α)) (left : α) : List α := left :: rows.map (·.2.1)
def far (rows : List (Row α)) (left : α) (v : α → Int) : Int := (((ends_ rows left).map fun x => (v left - v x).natAbs).sum : Nat)
theorem far_le {v : α → Int} {x : α} (h : x ∈ ends_ rows left) : -(far rows left v) ≤ v left - v x := by
  have : (v left - v x).natAbs ≤ ((ends_ rows left).map fun x => (v left - v x).natAbs).sum := by
    generalize ends_ rows left = l at h ⊢
    induction l with
    | nil => exact absurd h List.not_mem_nil
    | cons a t ih =>
      rw [List.map_cons, List.sum_cons]
      rcases List.mem_cons.mp h with e | e
      · subst e
        omega
      · have := ih e
        omega
  unfold far
  omega
def slack (rows : List (Row α)) (left : α) (v : α → Int) (ss : List α) (sv : α → Int) (x : α) : Int :=
  if x ∈ ss then sv x - (v left - v x) else span rows * ((rows.length + 1 : Nat) : Int) + far rows left v + 1
def gap (rows : List (Row α)) (left : α) (v : α → Int) (ss : List α) (sv : α → Int) : Int := ((ends_ rows left).map (slack rows left v ss sv)).sum
theorem Sums.few (S : Sums rows left ss sv) : ss.length ≤ rows.length + 1 := by
  have := nodup_le ss (ends_ rows left) S.nd fun x hx => by
    rcases S.sub x hx with e | ⟨r, hr, e⟩
    · exact e ▸ List.mem_cons_self
    · exact List.mem_cons_of_mem _ (List.mem_map.mpr ⟨r, hr, e.symm⟩)
  unfold ends_ at this
  rw [List.length_cons, List.length_map] at this
  exact this
theorem far_nonneg (rows : List (Row α)) (left : α) (v : α → Int) : 0 ≤ far rows left v := Int.natCast_nonneg _
theorem Sums.gap_nonneg (S : Sums rows left ss sv) {v : α → Int} (hv : Sat rows v) : 0 ≤ gap rows left v ss sv := by
  refine sum_nonneg _ _ fun x _ => ?_
  unfold slack
  split
  · rename_i h
    have := S.sound x h v hv
    omega
  · have h1 := far_nonneg rows left v
    have h2 : 0 ≤ span rows * ((rows.length + 1 : Nat) : Int) := Int.mul_nonneg (span_nonneg rows) (Int.natCast_nonneg _)
    omega
theorem Sums.gap_step (S : Sums rows left ss sv) {v : α → Int} {a b : α} {c : Int} (hr : (a, b, c) ∈ rows) (ha : a ∈ ss) (h : b ∈ ss → sv a + c < sv b) :
    gap rows left v (addN ss b) (put sv b (sv a + c)) < gap rows left v ss sv := by
  have S' := S.step hr ha h
  have hb : b ∈ ends_ rows left := List.mem_cons_of_mem _ (List.mem_map.mpr ⟨_, hr, rfl⟩)
  have key : slack rows left v (addN ss b) (put sv b (sv a + c)) b < slack rows left v ss sv b := by
    unfold slack
    rw [if_pos (mem_addN.mpr (.inr rfl)), put_at]
    by_cases k : b ∈ ss
    · rw [if_pos k]
      have := h k
      omega
    · rw [if_neg k]
      have h1 := S'.up b (mem_addN.mpr (.inr rfl))
      rw [put_at] at h1
      have h2 : span rows * ((addN ss b).length : Int) ≤ span rows * ((rows.length + 1 : Nat) : Int) := Int.mul_le_mul_of_nonneg_left (by have := S'.few; omega) (span_nonneg rows)
      have h3 := far_le (v := v) hb
      omega
  refine sum_lt _ _ _ b hb (fun x _ => ?_) key
  by_cases k : x = b
  · rw [k]
    exact Int.le_of_lt key
  · unfold slack
    rw [put_off k]
    by_cases m : x ∈ ss
    · rw [if_pos m, if_pos (mem_addN.mpr (.inl m))]
      exact Int.le_refl _
    · rw [if_neg m, if_neg fun q => k ((mem_addN.mp q).resolve_left m)]
      exact Int.le_refl _
/-! ### at the end -/
theorem big_le (f : Row α → Int) {r : Row α} (h : r ∈ rows) : f r ≤ (((rows.map fun r => (f r).natAbs).sum : Nat) : Int) := by
  have : (f r).natAbs ≤ (rows.map fun r => (f r).natAbs).sum := by
    induction rows with
    | nil => exact absurd h List.not_mem_nil
    | cons a t ih =>
      rw [List.map_cons, List.sum_cons]
      rcases List.mem_cons.mp h with e | e
      · subst e
        omega
      · have := ih e
        omega
  omega
/-- a solution with a greater difference -/
theorem Sums.wide (S : Sums rows left ss sv) (hd : ∀ a ∈ ss, Done rows ss sv a) {v : α → Int} (hv : Sat rows v) {right : α} {n : Int} (h : right ∈ ss → n < sv right) : ∃ u, Sat rows u ∧ n + 1 ≤ u left - u right := by
  refine ⟨fun x => if x ∈ ss then -sv x else v x - ((((rows.map fun r => (v r.1 + sv r.2.1 - r.2.2).natAbs).sum : Nat) : Int) + ((n + 1 + v right).natAbs : Int)), fun r hr => ?_, ?_⟩
  · show (if r.1 ∈ ss then _ else _) - (if r.2.1 ∈ ss then _ else _) ≤ r.2.2
    have hb : v r.1 + sv r.2.1 - r.2.2 ≤ _ := big_le (fun r => v r.1 + sv r.2.1 - r.2.2) hr
    have hs := hv r hr
    by_cases k : r.1 ∈ ss
    · obtain ⟨h1, h2⟩ := hd r.1 k r hr rfl
      rw [if_pos k, if_pos h1]
      omega
    · rw [if_neg k]
      by_cases j : r.2.1 ∈ ss
      · rw [if_pos j]
        omega
      · rw [if_neg j]
        omega
  · show n + 1 ≤ (if left ∈ ss then _ else _) - (if right ∈ ss then _ else _)
    rw [if_pos S.has]
    have hl := S.low
    by_cases k : right ∈ ss
    · rw [if_pos k]
      have := h k
      omega
    · rw [if_neg k]
      omega
/-- what a difference is implied by -/
def Told (rows : List (Row α)) (left right : α) (limit : Int) : Prop := ∀ u, Sat rows u → u left - u right ≤ limit
/-- the greatest value of left minus right (none: there is none) -/
def Best (rows : List (Row α)) (left right : α) (r : Option Int) : Prop := (∀ k, r = some k → Told rows left right k) ∧ ∀ n, (∀ k, r = some k → n < k) → ¬ Told rows left right n
theorem Sums.best (S : Sums rows left ss sv) (hd : ∀ a ∈ ss, Done rows ss sv a) {v : α → Int} (hv : Sat rows v) (right : α) : Best rows left right (if right ∈ ss then some (sv right) else none) := by
  refine ⟨fun k e => ?_, fun n h t => ?_⟩
  · by_cases m : right ∈ ss
    · rw [if_pos m] at e
      injection e with e
      subst e
      exact S.sound right m
    · rw [if_neg m] at e
      cases e
  · obtain ⟨u, h1, h2⟩ := S.wide hd hv (right := right) (n := n) fun m => h _ (by rw [if_pos m])
    have := t u h1
    omega
theorem told_denied {right : α} {limit : Int} : (∃ u, Sat (rows ++ [(right, left, 0 - limit - 1)]) u) ↔ ¬ Told rows left right limit := by
  constructor
  · rintro ⟨u, hu⟩ t
    have h1 := t u fun r hr => hu r (List.mem_append_left _ hr)
    have h2 := hu (right, left, 0 - limit - 1) (List.mem_append_right _ (List.mem_singleton.mpr rfl))
    simp only at h2
    omega
  · intro h
    have : ∃ u, Sat rows u ∧ ¬ u left - u right ≤ limit := by
      refine Classical.byContradiction fun k => h fun u hu => Classical.byContradiction fun j => k ⟨u, hu, j⟩
    obtain ⟨u, h1, h2⟩ := this
    refine ⟨u, fun r hr => ?_⟩
    rcases List.mem_append.mp hr with q | q
    · exact h1 r q
    · rw [List.mem_singleton] at q
      subst q
      show u right - u left ≤ 0 - limit - 1
      omega
theorem told_own {l r : α} {c : Int} (h : (l, r, c) ∈ rows) : Told rows l r c := fun u hu => hu _ h
end
end Lo
namespace Lo
open PySem L2
abbrev SRow := Row Str
/-! ### dicts with text keys -/
def dS (ks : List Str) (f : Str → V) : List (Key × V) := ks.map fun x => ((Sum.inr x : Key), f x)
theorem dS_len (ks : List Str) (f : Str → V) : (dS ks f).length = ks.length := List.length_map ..
theorem dS_val (f : Str → V) (x : Str) : ∀ ks : List Str, valV (dS ks f) (Sum.inr x) = if x ∈ ks then some (f x) else none
  | [] => rfl
  | y :: ks => by
    have ih := dS_val f x ks
    by_cases h : y = x
    · subst h
      rw [if_pos List.mem_cons_self]
      exact valV_pos (p := ((Sum.inr y : Key), f y)) rfl
    · have e : valV (dS (y :: ks) f) (Sum.inr x) = valV (dS ks f) (Sum.inr x) := valV_neg (p := ((Sum.inr y : Key), f y)) fun q => h (Sum.inr.inj q)
      rw [e, ih]
      by_cases m : x ∈ ks
      · rw [if_pos m, if_pos (List.mem_cons_of_mem _ m)]
      · rw [if_neg m, if_neg fun q => (List.mem_cons.mp q).elim (fun z => h z.symm) m]
theorem dS_in {ks : List Str} {f : Str → V} {x : Str} (h : x ∈ ks) : valV (dS ks f) (Sum.inr x) = some (f x) := by rw [dS_val, if_pos h]
theorem dS_out {ks : List Str} {f : Str → V} {x : Str} (h : x ∉ ks) : valV (dS ks f) (Sum.inr x) = none := by rw [dS_val, if_neg h]
theorem dS_congr {ks : List Str} {f g : Str → V} (h : ∀ x ∈ ks, f x = g x) : dS ks f = dS ks g := List.map_congr_left fun x hx => by rw [h x hx]
theorem dS_any {ks : List Str} {f : Str → V} {x : Str} : ((dS ks f).any fun kv => decide (kv.1 = Sum.inr x)) = true ↔ x ∈ ks := by
  rw [valV_any, dS_val]
  by_cases m : x ∈ ks
  · rw [if_pos m]
    exact ⟨fun _ => m, fun _ => rfl⟩
  · rw [if_neg m]
    exact ⟨(fun q => nomatch q), fun q => absurd q m⟩
theorem dS_put (ks : List Str) (f : Str → V) (x : Str) (v : V) : putK (dS ks f) (Sum.inr x) v = dS (addN ks x) (put f x v) := by
  unfold putK addN
  by_cases m : x ∈ ks
  · rw [if_pos (dS_any.mpr m), if_pos m]
    unfold dS
    rw [List.map_map]
    refine List.map_congr_left fun y _ => ?_
    show (if (Sum.inr y : Key) = Sum.inr x then ((Sum.inr y : Key), v) else ((Sum.inr y : Key), f y)) = ((Sum.inr y : Key), put f x v y)
    by_cases j : y = x
    · subst j
      rw [if_pos rfl, put_at]
    · rw [if_neg fun q => j (Sum.inr.inj q), put_off j]
  · rw [if_neg fun q => m (dS_any.mp q), if_neg m]
    have e : dS ks (put f x v) = dS ks f := dS_congr fun y hy => put_off fun q => m (q ▸ hy)
    show dS ks f ++ [((Sum.inr x : Key), v)] = (ks ++ [x]).map _
    rw [List.map_append]
    show _ = dS ks (put f x v) ++ [((Sum.inr x : Key), put f x v x)]
    rw [e, put_at]
theorem dS_keys (ks : List Str) (f : Str → V) : (dS ks f).map (fun kv => kV kv.1) = ks.map V.str := by
  unfold dS
  rw [List.map_map]
  rfl
theorem dget {H : Hp} {a : Addr} {ks : List Str} {f : Str → V} {x : Str} (e : H a = some (.dK (dS ks f))) (h : x ∈ ks) : DGet H a (.str x) (some (f x)) := by
  have q := DGet.k (k := Sum.inr x) e
  rw [dS_in h] at q
  exact q
theorem dget0 {H : Hp} {a : Addr} {ks : List Str} {f : Str → V} {x : Str} (e : H a = some (.dK (dS ks f))) (h : x ∉ ks) : DGet H a (.str x) none := by
  have q := DGet.k (k := Sum.inr x) e
  rw [dS_out h] at q
  exact q
theorem dgetI {H : Hp} {a : Addr} {ks : List Str} {f : Str → V} (x : Str) (e : H a = some (.dK (dS ks f))) : DGet H a (.str x) (if x ∈ ks then some (f x) else none) := by
  have q := DGet.k (k := Sum.inr x) e
  rw [dS_val] at q
  exact q
theorem dput {H : Hp} {a : Addr} {ks : List Str} {f : Str → V} (x : Str) (v : V) (e : H a = some (.dK (dS ks f))) (h : ks.length ≤ 1000) : DPut H a (.str x) v (upd H a (.dK (dS (addN ks x) (put f x v)))) := by
  have q := DPut.k (k := Sum.inr x) (v := v) e (by rw [dS_len]; exact small1000 h)
  rw [dS_put] at q
  exact q
/-! ### heaps -/
theorem same_upd {H : Hp} {p : Addr} {o : HO} (h : H p = none) : Same H (upd H p o) := fun b x e => by
  rw [upd_ne (ne_of_none e h)]
  exact e
/-- what was tracked at the beginning is as it was, though a later thing changes -/
theorem _root_.L2.Same.later {H H' : Hp} {p : Addr} {o : HO} (s : Same H H') (h : H p = none) : Same H (upd H' p o) := fun b x e => by
  rw [upd_ne (ne_of_none e h)]
  exact s b x e
/-! ### systems -/
def rowV (r : SRow) : List V := [.str r.1, .str r.2.1, .int r.2.2]
def RowT (H : Hp) (p : Addr) (r : SRow) : Prop := H p = some (.tup (rowV r))
def RowA (H : Hp) (p : Addr) (r : SRow) : Prop := H p = some (.tup (rowV r)) ∨ H p = some (.lst (rowV r))
/-- a list of rows at a -/
def Sys (R : Hp → Addr → SRow → Prop) (H : Hp) (a : Addr) (rows : List SRow) : Prop :=
  ∃ ps : List Addr, H a = some (.lst (ps.map V.ref)) ∧ ps.length = rows.length ∧ ∀ (i : Nat) (p : Addr) (r : SRow), ps[i]? = some p → rows[i]? = some r → R H p r
def Good1 (r : SRow) : Prop := r.1 ≠ r.2.1 ∧ r.1 ≠ ("" : Str) ∧ r.2.1 ≠ ("" : Str)
structure Good (rows : List SRow) : Prop where
  row : ∀ r ∈ rows, Good1 r
  few : rows.length ≤ 100
theorem RowT.same {H H' : Hp} {p : Addr} {r : SRow} (s : Same H H') (h : RowT H p r) : RowT H' p r := s _ _ h
theorem RowA.same {H H' : Hp} {p : Addr} {r : SRow} (s : Same H H') (h : RowA H p r) : RowA H' p r := h.imp (fun h => s _ _ h) fun h => s _ _ h
theorem RowT.any {H : Hp} {p : Addr} {r : SRow} (h : RowT H p r) : RowA H p r := .inl h
theorem Sys.sameT {H H' : Hp} {a : Addr} {rows : List SRow} (s : Same H H') (h : Sys RowT H a rows) : Sys RowT H' a rows := by
  obtain ⟨ps, h1, h2, h3⟩ := h
  exact ⟨ps, s _ _ h1, h2, fun i p r hp hr => (h3 i p r hp hr).same s⟩
theorem Sys.sameA {H H' : Hp} {a : Addr} {rows : List SRow} (s : Same H H') (h : Sys RowA H a rows) : Sys RowA H' a rows := by
  obtain ⟨ps, h1, h2, h3⟩ := h
  exact ⟨ps, s _ _ h1, h2, fun i p r hp hr => (h3 i p r hp hr).same s⟩
theorem Sys.any {H : Hp} {a : Addr} {rows : List SRow} (h : Sys RowT H a rows) : Sys RowA H a rows := by
  obtain ⟨ps, h1, h2, h3⟩ := h
  exact ⟨ps, h1, h2, fun i p r hp hr => (h3 i p r hp hr).any⟩
/-- the i-th row of a system -/
theorem Sys.at {R : Hp → Addr → SRow → Prop} {H : Hp} {rows : List SRow} {ps : List Addr} (h2 : ps.length = rows.length) (h3 : ∀ (i : Nat) (p : Addr) (r : SRow), ps[i]? = some p → rows[i]? = some r → R H p r) {i : Nat} {v : V} (hv : (ps.map V.ref)[i]? = some v) :
    ∃ p r, v = .ref p ∧ ps[i]? = some p ∧ rows[i]? = some r ∧ r ∈ rows ∧ i < rows.length ∧ R H p r := by
  rw [List.getElem?_map] at hv
  cases e : ps[i]? with
  | none =>
    rw [e] at hv
    cases hv
  | some p =>
    rw [e] at hv
    have hi : i < ps.length := (List.getElem?_eq_some_iff.mp e).1
    have hi2 : i < rows.length := h2 ▸ hi
    refine ⟨p, rows[i], (Option.some.inj hv).symm, rfl, List.getElem?_eq_getElem hi2, List.getElem_mem hi2, hi2, h3 i p _ e (List.getElem?_eq_getElem hi2)⟩
/-- what the module's names hold -/
structure Blt (mg : Str → Option Value) : Prop where
  isi : mg "isinstance" = none
  int : mg "int" = none
  bool : mg "bool" = none
  str : mg "str" = none
  tuple : mg "tuple" = none
  list : mg "list" = none
  len : mg "len" = none
  enum : mg "enumerate" = none
  range : mg "range" = none
  all : mg "all" = none
end Lo
namespace Po
open PySem L2 Lo
def top (i : Nat) : Stmt := PySem.Challenge.pw_loopsheds_k19_power_sums.main.body.getD i (.Pass ⟨0, 0, 0, 0⟩)
abbrev sWhole : Stmt := top 2
abbrev sPoly : Stmt := top 4
abbrev sExponent : Stmt := top 9
abbrev sLeftOut : Stmt := top 10
abbrev sWorth : Stmt := top 11
theorem small4000 {n : Nat} (h : n ≤ 4000) : n < sizeLine := Nat.lt_of_le_of_lt h (by decide)
def SameX (t : Addr) (H H' : Hp) : Prop := ∀ b o, b ≠ t → H b = some o → H' b = some o
theorem SameX.trans {t : Addr} {H H' H'' : Hp} (h : SameX t H H') (k : SameX t H' H'') : SameX t H H'' := fun b o n e => k b o n (h b o n e)
theorem same_x {t : Addr} {H H' : Hp} (h : Same H H') : SameX t H H' := fun b o _ e => h b o e
theorem sameX_back {t : Addr} {H H' : Hp} {o : HO} (e : H t = some o) (h : SameX t H H') : Same H (upd H' t o) := fun b x q => by
  by_cases k : b = t
  · subst k
    rw [upd_same, ← e, q]
  · rw [upd_ne k]
    exact h b x k q
section
variable {P : Program} {w : World} {K : PySem.W.Frag} {mg : Str → Option Value} {base : Heap}
/-! ### is_whole -/
def spWhole : Sp := fun vs H Q _ => ∃ i : Int, vs = [.int i] ∧ Q (.bl true) H
theorem scWhole : FnScope ["thing"] ["thing"] (defScope sWhole) := ⟨rfl, rfl, rfl, by decide +kernel, rfl, by decide +kernel, by decide +kernel⟩
theorem ok_whole {f : Addr} {fd : FuncData} (F : Fun K "is_whole" "is_whole" sWhole f fd) (T : Blt mg) : FnOk P w K mg base CX0 1 f fd ["thing"] spWhole := by
  refine F.ok scWhole (fun vs H Q E h => ?_) (fun cdv A outer s H vs Q E hr h => ?_)
  · obtain ⟨i, rfl, _⟩ := h
    rfl
  · obtain ⟨i, rfl, q⟩ := h
    refine ⟨_, pss_one (ps_ret (pe_and (pe_callB call_isi (by rfl) T.isi PyProof.Rows.boot_isinstance (pa_cons (pv 0) (pa_cons (pe_bltn (v := .ty "int") rfl T.int PyProof.Rows.boot_int rfl) pa_nil)))
      (pe_one (pe_not (pe_callB call_isi (by rfl) T.isi PyProof.Rows.boot_isinstance (pa_cons (pv 0) (pa_cons (pe_bltn (v := .ty "bool") rfl T.bool PyProof.Rows.boot_bool rfl) pa_nil))))))), ?_⟩
    refine ⟨_, rfl, _, _, _, _, true, rfl, .ty _, .base (.int _), kit_ty (by decide +kernel), true, rfl, iteT ?_⟩
    exact ⟨_, rfl, _, _, _, _, false, rfl, .ty _, .base (.int _), kit_ty (by decide +kernel), false, rfl, q⟩
/-! ### _exponent -/
theorem mok_at {H : Hp} {m : Mo} {as : List Addr} (pr : Paired (PrK H) m as) {i : Nat} {x : V} (h : (as.map V.ref)[i]? = some x) : ∃ p a, m[i]? = some p ∧ as[i]? = some a ∧ x = .ref a ∧ H a = some (.tup [.str p.1, .int p.2]) := by
  rw [List.getElem?_map] at h
  obtain ⟨a, ha, rfl⟩ := Option.map_eq_some_iff.mp h
  have hl := Paired.length pr
  have hi : i < m.length := by
    have := (List.getElem?_eq_some_iff.mp ha).1
    omega
  obtain ⟨b, hb, r⟩ := paired_get pr (List.getElem?_eq_getElem hi)
  rw [ha] at hb
  cases hb
  exact ⟨_, _, List.getElem?_eq_getElem hi, ha, rfl, r⟩
def spExponent : Sp := fun vs H Q _ => ∃ (q : Addr) (m : Mo) (x : Str), vs = [.ref q, .str x] ∧ MoK H m q ∧ ∀ H', Same H H' → Q (.int (expo x m)) H'
abbrev nExponent : List Str := ["monomial", "name", "base", "many"]
theorem scExponent : FnScope nExponent ["monomial", "name"] (defScope sExponent) := ⟨rfl, rfl, rfl, by decide +kernel, rfl, by decide +kernel, by decide +kernel⟩
theorem ok_exponent {f : Addr} {fd : FuncData} (F : Fun K "_exponent" "_exponent" sExponent f fd) : FnOk P w K mg base CX0 1 f fd ["monomial", "name"] spExponent := by
  refine F.ok scExponent (fun vs H Q E h => ?_) (fun cdv A outer s H vs Q E hr h => ?_)
  · obtain ⟨q, m, x, rfl, _⟩ := h
    rfl
  · obtain ⟨q, m, x, rfl, ⟨as, ob, hq, _, pr⟩, qq⟩ := h
    have nd := scExponent.nd
    refine ⟨_, pss_cons (ps_for PassesOwn.never rfl (pi_tup (pv 0)) (pg_tup rfl (pgs_cons (pg_name (i := 2) nd rfl (.inl rfl)) (pgs_cons (pg_name (i := 3) nd rfl (.inl rfl)) pgs_nil)))
        (pss_one (ps_if (pt_cmpR op_eq (pv 2) (pv 1) (nomark _)) (pss_one (ps_ret (pv 3))) pss_nil)))
      (pss_one (ps_ret pe_int)), ?_⟩
    have hl : m.length = as.length := Paired.length pr
    refine ⟨.ref q, rfl, q, rfl, ⟨_, .inl (.inr ⟨ob, hq⟩)⟩, for_tup (K := K) (a := q) (xs := as.map V.ref) (fun i σ H' => ∃ y2 y3, σ = [some (.ref q), some (.str x), y2, y3] ∧ Same H H' ∧ expo x m = expo x (m.drop i)) ⟨_, _, rfl, Same.refl _, rfl⟩ (fun i σ H' _ ⟨_, _, _, sm, _⟩ => (.inl (.inr ⟨ob, sm _ _ hq⟩))) ?_ ?_⟩
    · rintro i v σ H' hi ⟨y2, y3, rfl, sm, ex⟩
      obtain ⟨p, a, hm, ha, rfl, hpa⟩ := mok_at pr hi
      have hd : m.drop i = p :: m.drop (i + 1) := by
        obtain ⟨h1, h2⟩ := List.getElem?_eq_some_iff.mp hm
        rw [← h2]
        exact List.drop_eq_getElem_cons h1
      refine ⟨a, _, rfl, SqT.of (sm _ _ hpa), rfl, _, _, rfl, _, _, rfl, rfl, ?_⟩
      refine ⟨_, rfl, _, rfl, rfl, _, rfl, ite2 (fun e => ?_) (fun e => ?_)⟩
      · have e' : p.1 = x := by
          have := of_decide_eq_true e
          injection this
        refine ⟨_, rfl, ?_⟩
        rw [show p.2 = expo x m by rw [ex, hd]; conv => rhs; unfold expo; rw [if_pos e']]
        exact qq _ sm
      · have e' : ¬ p.1 = x := fun z => by
          rw [z] at e
          simp at e
        refine ⟨_, _, rfl, sm, ?_⟩
        rw [ex, hd]
        conv => lhs; unfold expo; rw [if_neg e']
    · rintro σ H' ⟨y2, y3, rfl, sm, ex⟩
      rw [List.length_map, ← hl, List.drop_length] at ex
      have ex' : expo x m = 0 := ex
      rw [← ex'] 
      exact qq _ sm
end
end Po
set_option maxHeartbeats 2000000
/-! dict(tuple of pairs), list(dict of monomials), max(ints, default = ..), tuples whose object is known -/
namespace Po
open PySem PySem.Spec PySem.W L2 PyProof.Rows PySem.SeqAt
section
variable {X : Cx} {es : List Expr} {pos : Pos}
/-- (a, b), its object known -/
def tTupF (t : TA) : TE := fun σ H Q => t σ H fun xs H1 => xs.length ≤ sizeLine ∧ ∀ p o, H1 p = none → o.dict = none → Q (.ref p) (upd H1 p (.frz o (.tup xs)))
theorem pe_tupF {x1} {t : TA} (h : PA X es t) : PE X (.Tuple es x1 pos) (tTupF t) := by
  refine ⟨fun pins s σ H Q I hq => ?_⟩
  refine wpAny_Tuple_spliced (thn (h.run pos pins s σ H _ I hq) fun us s1 ⟨xs, H1, I1, r, z, q⟩ => ⟨by rw [← r.length]; exact z, ?_⟩)
  have hf : H1 s1.heap.objs.size = none := I1.hok.fresh (Nat.le_refl _)
  have ho : (s1.heap.push { cls := .type "tuple", data := .seq us.toArray }).get? s1.heap.objs.size = some { cls := .type "tuple", data := .seq us.toArray } := Heap.get?_push_size _ rfl
  exact ⟨.ref s1.heap.objs.size, upd H1 s1.heap.objs.size (.frz { cls := .type "tuple", data := .seq us.toArray } (.tup xs)), I1.laid (t' := s1.toks) (fun b u e => Heap.get?_push_of_some _ e) (Nat.le_refl _) ⟨ho, z, us, r, ⟨_, ho, rfl, _, rfl⟩⟩, rfl, q _ _ hf rfl⟩
/-- tuple(list), its object known -/
def rTupF (K : PySem.W.Frag) : List V → Hp → VK → Prop := fun xs H Q => ∃ p ys, xs = [.ref p] ∧ SqL K H p ys ∧ ∀ l o, H l = none → o.dict = none → Q (.ref l) (upd H l (.frz o (.tup ys)))
theorem call_tupF : CallR X (.type "tuple") (rTupF X.K) := by
  rintro pins s σ H xs us Q I r ⟨p, ys, rfl, hq, q⟩
  obtain ⟨u, rfl, rx⟩ := vals1 r
  cases rx
  obtain ⟨its, r', pl, hz⟩ := I.list hq
  have hlen := r'.length
  refine call_tuple_list pl.isList (fun h' kp => ?_) (by simp only [List.size_toArray] <;> omega)
  have I1 : Inv X pins σ H { s with heap := h' } := I.kept (t' := s.toks) kp
  have ho : (h'.push { cls := .type "tuple", data := .seq its.toArray }).get? h'.objs.size = some { cls := .type "tuple", data := .seq its.toArray } := Heap.get?_push_size _ rfl
  have I2 : Inv X pins σ (upd H h'.objs.size (.frz { cls := .type "tuple", data := .seq its.toArray } (.tup ys))) { s with heap := h'.push { cls := .type "tuple", data := .seq its.toArray } } :=
    I1.laid (t' := s.toks) (fun b o e => Heap.get?_push_of_some _ e) (Nat.le_refl _) ⟨ho, hz, its, r', ⟨_, ho, rfl, _, rfl⟩⟩
  exact ⟨.ref h'.objs.size, _, I2, rfl, q _ _ (I1.hok.fresh (Nat.le_refl _)) rfl⟩
/-- dict(t), t a monomial -/
def rDictM : List V → Hp → VK → Prop := fun vs H Q => ∃ (q : Addr) (m : Mo), vs = [.ref q] ∧ MoK H m q ∧ (m.map (·.1)).Nodup ∧ ∀ p, H p = none → Q (.ref p) (upd H p (.dK (m.map fun e => (Sum.inr e.1, V.int e.2))))
theorem kv_nodup : ∀ {vs : List (L2.Key × Value)}, (vs.map (·.1)).Nodup → ∀ acc : List (L2.Key × Value), (∀ p ∈ vs, p.1 ∉ acc.map (·.1)) → merged acc vs = acc ++ vs := by
  intro vs
  induction vs with
  | nil => intro _ acc _; simp [merged]
  | cons p vs ih =>
    intro nd acc hn
    rw [List.map_cons, List.nodup_cons] at nd
    have e : stored acc p.1 p.2 = acc ++ [(p.1, p.2)] := by
      unfold stored
      rw [if_neg]
      intro z
      rw [List.any_eq_true] at z
      obtain ⟨x, hx, hk⟩ := z
      exact hn p List.mem_cons_self (List.mem_map.mpr ⟨x, hx, of_decide_eq_true hk⟩)
    show merged (stored acc p.1 p.2) vs = _
    rw [e, ih nd.2 _ (fun q hq => ?_)]
    · simp
    · rw [List.map_append, List.mem_append]
      rintro (z | z)
      · exact hn q (List.mem_cons_of_mem _ hq) z
      · have z' : q.1 = p.1 := by simpa using z
        exact nd.1 (List.mem_map.mpr ⟨q, hq, z'⟩)
theorem mo_pairs {pins : List (Addr × Obj)} {σ : L2.St} {H : Hp} {s : Shared} (I : Inv X pins σ H s) : ∀ {m : Mo} {as : List Addr}, Paired (PrK H) m as → ∃ (ps : List (Value × Value)) (rs : List (L2.Key × Value)), ps.length = as.length ∧ KV (m.map fun e => (Sum.inr e.1, V.int e.2)) rs ∧
      (∀ (j : Nat) (k v : Value), ps[j]? = some (k, v) → ∃ a, as[j]? = some a ∧ s.heap.IsTuple a #[k, v] ∧ ∃ kk, rs[j]? = some (kk, v) ∧ keyIs kk k = true) := by
  intro m as pr
  induction pr with
  | nil => exact ⟨[], [], rfl, .nil, fun j k v e => by simp at e⟩
  | @cons p a m as hp _ ih =>
    obtain ⟨ps, rs, l, kv, h⟩ := ih
    obtain ⟨_, its, r, o, g1, g2, n, g3⟩ := (show ObjOk X.prog X.w H s.heap a (.tup [.str p.1, .int p.2]) from I.hok a _ hp)
    obtain ⟨u1, u2, rfl, r1, r2⟩ := vals2 r
    refine ⟨(u1, u2) :: ps, (Sum.inr p.1, u2) :: rs, by simp [l], .cons ⟨rfl, r2⟩ kv, fun j k v e => ?_⟩
    cases j with
    | zero =>
      simp only [List.getElem?_cons_zero, Option.some.injEq, Prod.mk.injEq] at e
      obtain ⟨rfl, rfl⟩ := e
      exact ⟨a, rfl, ⟨o, g1, g2, n, g3⟩, _, rfl, kV_is (P := X.prog) (w := X.w) (k := Sum.inr p.1) r1⟩
    | succ j =>
      simp only [List.getElem?_cons_succ] at e ⊢
      exact h j k v e
theorem cr_dictM (hc : X.calm = true) : CallR X (.type "dict") rDictM := by
  rintro pins s σ H xs us Q I r ⟨q, m, rfl, ⟨as, ob, hq, od, pr⟩, nd, k⟩
  obtain rfl := Vals.ref1 r
  obtain ⟨hg, hlen, its, rv, o, h1, h2, n, h3⟩ := (show ObjOk X.prog X.w H s.heap q (.frz ob (.tup (as.map V.ref))) from I.hok q _ hq)
  rw [hg] at h1
  cases h1
  have ei := refs_of rv
  subst ei
  rw [List.length_map] at hlen
  obtain ⟨ps, rs, lp, kv, hp⟩ := mo_pairs I pr
  have lm : m.length = as.length := Paired.length pr
  have lr : rs.length = ps.length := by
    have := kv.length
    rw [List.length_map] at this
    omega
  have aj : ∀ j, j < ps.length → as[j]? = some (as.getD j 0) := fun j hj => by
    rw [List.getD_eq_getElem?_getD, List.getElem?_eq_getElem (by omega)]
    rfl
  have nd2 : (rs.map (·.1)).Nodup := by
    rw [← kv.keys, List.map_map]
    have : ((fun x : L2.Key × V => x.1) ∘ fun e : Str × Int => ((Sum.inr e.1 : L2.Key), V.int e.2)) = (Sum.inr : Str → L2.Key) ∘ (fun e : Str × Int => e.1) := rfl
    rw [this, ← List.map_map]
    rw [List.Nodup, List.pairwise_map]
    exact (show List.Pairwise (· ≠ ·) (m.map (·.1)) from nd).imp fun {a b} h e => h (Sum.inr.inj e)
  refine call_dict_pairs (knd := mixKind X.prog X.w) (kvs := rs) (PairArg.tuple (prog := X.prog) (w := X.w) q (as.map Value.ref).toArray (fun j => as.getD j 0) ps) (I.ok.hd hc) ⟨⟨ob, n, hg, h2, od, h3⟩, ?_, ?_⟩ ⟨lr, fun i key v hr => ?_⟩ (by omega) fun h' tk hd' hk => ?_
  · rw [List.size_toArray, List.length_map, lp]
  · intro j kk v hj
    obtain ⟨a, ha, ht, _⟩ := hp j kk v hj
    have hjl : j < ps.length := (List.getElem?_eq_some_iff.mp hj).1
    have := aj j hjl
    rw [ha] at this
    have ea : a = as.getD j 0 := Option.some.inj this
    show (as.map Value.ref).toArray[j]? = some (.ref (as.getD j 0)) ∧ PairAt s.heap (as.getD j 0) kk v
    rw [← ea]
    refine ⟨?_, .inl ht⟩
    rw [List.getElem?_toArray, List.getElem?_map, ha]
    rfl
  · obtain ⟨a, _, _, kk, e1, e2⟩ := hp i key v hr
    exact ⟨kk, e1, e2⟩
  · rw [kv_nodup nd2 [] (fun _ _ => by simp), List.nil_append] at hd'
    have hm : (s.heap.objs.size == sysModules) = false := beq_eq_false_iff_ne.mpr (Nat.ne_of_gt I.big)
    exact ⟨.ref s.heap.objs.size, upd H s.heap.objs.size (.dK (m.map fun e => (Sum.inr e.1, V.int e.2))), I.laid (t' := tk) (fun b o e => hk b o (by simp) e) (Nat.le_refl _) (show ObjOk X.prog X.w _ _ _ (.dK _) from ⟨by rw [List.length_map]; omega, hm, rs, kv, hd'⟩), rfl, k _ (I.hok.fresh (Nat.le_refl _))⟩
/-! ### list(d) -/
theorem kdl_raw {prog : Program} {w : World} {d : Addr} {es : Array DictEntry} {ep : Nat} (lo : (d == sysModules) = false) : KdlSrc prog w "dict" d d es.size (fun i v => ∃ hi : i < es.size, v = es[i].key) (fun h => h.DictRaw d es ep) where
  type := fun _ hm => hm.typeIs
  there := fun h hm => let ⟨_, ho, _⟩ := hm; ⟨Heap.lt_size ho, Heap.lt_size ho⟩
  keep := fun _ _ hm hk => hm.at fun o e => hk d (.inl rfl) o e
  notList := by decide
  notTuple := by decide
  hint := fun _ _ _ _ hm hq => kdl_hint_dict hm.typeIs hq
  iter := fun _ s hh hm => ⟨_, _, (fun _ _ hq => wpAny_pyIter_dict_raw lo hm hq), Walks.rawKeys hh _ d (let ⟨_, ho, _⟩ := hm; Nat.ne_of_lt (Heap.lt_size ho)) es ep, ⟨⟨_, Heap.get?_push_size _ rfl, rfl, rfl⟩, hm.at fun o e => Heap.get?_push_of_some _ e⟩⟩
def rListN (P : Program) (w : World) : List V → Hp → VK → Prop := fun xs H Q => ∃ (a : Addr) (ks : List Ent), xs = [.ref a] ∧ Rd H a (NdO P w a ks) ∧ ∀ p, H p = none → Q (.ref p) (upd H p (.lst (ks.map fun e => V.ref e.2.1)))
theorem call_listN (hcalm : X.calm = true) : CallR X (.type "list") (rListN X.prog X.w) := by
  rintro pins s σ H xs us Q I r ⟨a, ks, rfl, hd, q⟩
  obtain rfl := Vals.ref1 r
  obtain ⟨z, lo, xs', rel, o, es, ep, ho, hc, hdat, he, hn⟩ := ndp_of I.hok hd
  have l1 : es.size = xs'.length := by rw [← Array.length_toList, he, List.length_map]
  have l2 : ks.length = xs'.length := Paired.length rel
  refine PySem.W.kdl_call (kdl_raw (es := es) (ep := ep) lo) (I.ok.hd hcalm) ⟨o, ho, hc, hdat⟩ (by omega) fun h' tk acc c' hk hD hacc => ?_
  have rv : Vals (ks.map fun e => V.ref e.2.1) acc.toList := by
    have eq : acc.toList = ks.map fun e => Value.ref e.2.1 := by
      refine List.ext_getElem? fun j => ?_
      rw [Array.getElem?_toList, List.getElem?_map]
      by_cases hj : j < es.size
      · have hja : j < acc.size := by rw [hacc.1]; exact hj
        have h1 : acc[j]? = some acc[j] := Array.getElem?_eq_getElem hja
        obtain ⟨_, e1⟩ := hacc.2 j _ h1
        have h2 := List.getElem?_eq_getElem (l := ks) (i := j) (by omega)
        obtain ⟨x, hx, g1, g2, g3⟩ := paired_get rel h2
        have q2 : es.toList[j]? = some (entryOfKey (nestedKind X.prog X.w) x) := by rw [he, List.getElem?_map, hx]; rfl
        rw [Array.getElem?_toList, Array.getElem?_eq_getElem hj] at q2
        rw [h1, h2, e1, Option.some.inj q2]
        show some (Value.ref x.2.1) = some (Value.ref ks[j].2.1)
        rw [g2]
      · rw [Array.getElem?_eq_none (by rw [hacc.1]; omega), List.getElem?_eq_none (by omega)]
        rfl
    rw [eq]
    exact vals_maps (fun e : Ent => V.ref e.2.1) (fun e => Value.ref e.2.1) ks fun _ _ => rfl
  exact ⟨.ref s.heap.objs.size, upd H s.heap.objs.size (.lst (ks.map fun e => V.ref e.2.1)), I.laid (t' := tk) hk (Nat.le_refl _)
    (show ObjOk X.prog X.w _ _ _ (.lst _) from ⟨by rw [List.length_map]; exact z, acc.toList, c', rv, by rw [Array.toArray_toList]; exact hD⟩), rfl, q _ (I.hok.fresh (Nat.le_refl _))⟩
/-! ### max(list, default = e) -/
def rMaxD (K : PySem.W.Frag) : List V → List V → Hp → VK → Prop := fun xs zs H Q => ∃ (a : Addr) (ns : List Int) (d : Int), xs = [.ref a] ∧ zs = [.int d] ∧ SqL K H a (ns.map V.int) ∧ (ns = [] → Q (.int d) H) ∧ ∀ n r, ns = n :: r → Q (.int (r.foldl max n)) H
theorem reads_ints {h : Heap} : ∀ {ns : List Int} {us : List Value}, Vals (ns.map V.int) us → ∃ as, ReadsAll h us (ns.map PyData.int) as
  | [], _, r => by cases r; exact ⟨[], .nil⟩
  | n :: ns, _, r => by
    rw [List.map_cons] at r
    cases r with
    | cons h t =>
      obtain ⟨as, q⟩ := reads_ints t
      obtain ⟨tk, rfl⟩ := h
      exact ⟨_, .cons (.int _ _) q⟩
theorem depth_ints : ∀ ns : List Int, PyData.depthAll (ns.map PyData.int) ≤ 0
  | [] => by simp [PyData.depthAll]
  | n :: ns => by
    rw [List.map_cons, PyData.depthAll]
    have := depth_ints ns
    simp [PyData.depth]
    omega
theorem cr_maxD (hc : X.calm = true) (hu : X.A.units + 10 < cLine) : CallRK X (.builtin "max") [Str.ofString "default"] (rMaxD X.K) := by
  rintro pins s σ H vs zs us ws Q I r rz ⟨a, ns, d, rfl, rfl, hs, q0, q1⟩
  obtain rfl := Vals.ref1 r
  obtain ⟨w1, rfl, ⟨t1, rfl⟩⟩ := vals1 rz
  obtain ⟨its, rv, hl, hz⟩ := I.list hs
  obtain ⟨as, ra⟩ := reads_ints (h := s.heap) rv
  refine max_list_default (xs := ns.map PyData.int) (I.ok.hd hc) hl.isList (by simpa using ra) ⟨fun x hx y hy => ?_, fun x hx => ?_⟩ (by have := depth_ints ns; omega) (fun e h' tk hk => ?_) (fun y ys i v h' tk bs e hi hr hk => ?_)
  · obtain ⟨m, _, rfl⟩ := List.mem_map.mp hx
    obtain ⟨n, _, rfl⟩ := List.mem_map.mp hy
    rfl
  · obtain ⟨m, _, rfl⟩ := List.mem_map.mp hx
    exact fun z => nomatch z
  · exact ⟨.int d, H, I.kept (t' := tk) hk, ⟨t1, rfl⟩, q0 (by simpa using e)⟩
  · cases ns with
    | nil => simp at e
    | cons n r =>
      rw [List.map_cons] at e
      obtain ⟨rfl, rfl⟩ := List.cons.inj e
      rw [maxD_ints] at hr
      cases hr with
      | int _ t => exact ⟨.int (r.foldl max n), H, I.kept (t' := tk) hk, ⟨t, rfl⟩, q1 n r rfl⟩
end
end Po
namespace Po
open PySem L2 Lo
abbrev sBoth : Stmt := top 8
theorem lo_take {x : Str} {m : Mo} {i : Nat} {p : Str × Int} (h : m[i]? = some p) : lo x (m.take (i + 1)) = if p.1 = x then lo x (m.take i) else lo x (m.take i) ++ [p] := by
  have e : m.take (i + 1) = m.take i ++ [p] := by
    rw [List.take_add_one, h]
    rfl
  rw [e]
  unfold lo
  rw [List.filter_append]
  by_cases c : p.1 = x
  · rw [if_pos c]
    simp [c]
  · rw [if_neg c]
    simp [c]
theorem prk_same {H H' : Hp} {m : Mo} {as : List Addr} (s : Same H H') (h : Paired (PrK H) m as) : Paired (PrK H') m as := Paired.mapP h fun _ _ z => s _ _ z
theorem same_tup {K : PySem.W.Frag} {H H' : Hp} (s : Same H H') {a : Addr} {xs : List V} (h : SqT K H a xs) : SqT K H' a xs := by
  rcases h with (h | ⟨o, h⟩) | h
  · exact .inl (.inl (s _ _ h))
  · exact .inl (.inr ⟨o, s _ _ h⟩)
  · exact .inr h
theorem paired_snoc' {α β : Type} {F : α → β → Prop} {a : α} {b : β} {l : List α} {m : List β} (h : Paired F l m) (x : F a b) : Paired F (l ++ [a]) (m ++ [b]) := Paired.snoc h x
theorem take_snoc {α : Type} {l : List α} {i : Nat} {x : α} (h : l[i]? = some x) : l.take (i + 1) = l.take i ++ [x] := by
  rw [List.take_add_one, h]
  rfl
theorem Keep2.trans {H H1 H2 : Hp} (a : Keep2 H H1) (b : Keep2 H1 H2) : Keep2 H H2 := ⟨fun c xs e => b.t _ _ (a.t _ _ e), fun c o u e => b.f _ _ _ (a.f _ _ _ e)⟩
theorem keep2_new {H : Hp} {p : Addr} {o : HO} (h : H p = none) : Keep2 H (upd H p o) := Same.keep2 (same_upd h)
theorem keep2_lst {H : Hp} {D : Addr} {xs : List V} {o : HO} (h : H D = some (.lst xs)) : Keep2 H (upd H D o) := ⟨fun b ys e => by
  rw [upd_ne (ne_of e h (fun z => nomatch z))]
  exact e, fun b ob u e => by
  rw [upd_ne (ne_of e h (fun z => nomatch z))]
  exact e⟩
theorem prk_keep {H H' : Hp} {m : Mo} {as : List Addr} (k : Keep2 H H') (h : Paired (PrK H) m as) : Paired (PrK H') m as := Paired.mapP h fun _ _ z => k.t _ _ z
theorem same_lay {H H' : Hp} {D : Addr} {o o' : HO} (hD : H D = none) (s : Same H H') (e : H' D = some o') : Same H (upd H' D o) := fun b x h => by
  rw [upd_ne (ne_of_none h hD)]
  exact s b x h
section
variable {P : Program} {w : World} {K : PySem.W.Frag} {mg : Str → Option Value} {base : Heap}
/-! ### _left_out -/
def spLeftOut : Sp := fun vs H Q _ => ∃ (q : Addr) (m : Mo) (x : Str), vs = [.ref q, .str x] ∧ MoK H m q ∧ m.length ≤ 4000 ∧ ∀ H' p, Same H H' → H p = none → MoK H' (lo x m) p → Q (.ref p) H'
abbrev nLeftOut : List Str := ["monomial", "name", "base", "many"]
theorem scLeftOut : FnScope nLeftOut ["monomial", "name"] (defScope sLeftOut) := ⟨rfl, rfl, rfl, by decide +kernel, rfl, by decide +kernel, by decide +kernel⟩
theorem ok_leftout {f : Addr} {fd : FuncData} (F : Fun K "_left_out" "_left_out" sLeftOut f fd) (T : Blt mg) : FnOk P w K mg base CX0 1 f fd ["monomial", "name"] spLeftOut := by
  refine F.ok scLeftOut (fun vs H Q E h => ?_) (fun cdv A outer s H vs Q E hr h => ?_)
  · obtain ⟨q, m, x, rfl, _⟩ := h
    rfl
  · obtain ⟨q, m, x, rfl, hm, few, qq⟩ := h
    have nd := scLeftOut.nd
    obtain ⟨as, hq, pr⟩ := hm.seq (K := K)
    have hl : m.length = as.length := Paired.length pr
    refine ⟨_, pss_one (ps_ret (pe_callTy call_tupF (by rfl) T.tuple PyProof.Rows.boot_tuple (pa_cons (pe_lc (own := [("base", 2), ("many", 3)]) (g := gTup K 2 (gCons (gName 2) (gCons (gName 3) gNil))) rfl nd (pi_tup (pv 0)) (blkOk_by (N := nLeftOut) (sc := defScope sLeftOut) (by decide +kernel))
      (fun _ _ _ _ _ => pg_tup rfl (pgs_cons (pg_name (i := 2) nd rfl (.inl rfl)) (pgs_cons (pg_name (i := 3) nd rfl (.inl rfl)) pgs_nil)))
      (fun _ _ _ _ _ => pts_one (pt_cmpR op_ne (pv 2) (pv 1) (nomark _)))
      (fun _ _ _ _ _ => pe_tup (pa_cons (pv 2) (pa_cons (pv 3) pa_nil)))) pa_nil))), ?_⟩
    refine ⟨.ref q, rfl, q, rfl, ⟨_, hq⟩, fun D hD => ?_⟩
    refine lc_it (walk_tup (K := K) (a := q) (xs := as.map V.ref)) (fun i H' => Same H H' ∧ ∃ bs, H' D = some (.lst (bs.map V.ref)) ∧ Paired (PrK H') (lo x (m.take i)) bs) ⟨same_upd hD, [], upd_same, .nil⟩ (fun i H' _ h => same_tup h.1 hq) ?_ ?_
    · rintro i v H1 H0 hi ⟨s1, bs, hb, pb⟩ ⟨e0, hv⟩
      subst e0
      obtain ⟨p, a, hpm, ha, rfl, hpa⟩ := mok_at pr hv
      refine ⟨a, _, rfl, SqT.of (s1 _ _ hpa), rfl, _, _, rfl, _, _, rfl, rfl, rfl, ?_⟩
      refine ⟨_, rfl, _, rfl, rfl, _, rfl, ?_⟩
      have ne_str : ∀ {a b : Str}, (V.str a = V.str b) = (a = b) := fun {a b} => by simp
      simp only [ne_str]
      by_cases c : p.1 = x
      · rw [decide_eq_true c]
        refine iteF ⟨s1, bs, hb, ?_⟩
        rw [lo_take hpm, if_pos c]
        exact pb
      · rw [decide_eq_false c]
        refine iteT ⟨_, rfl, _, rfl, by show 2 ≤ sizeLine; decide, fun t ht => ?_⟩
        have Dt : D ≠ t := ne_of_none hb ht
        have hl2 : bs.length ≤ 4000 := by
          have := Paired.length pb
          have := List.length_filter_le (fun p : Str × Int => decide (p.1 ≠ x)) (m.take i)
          have : (lo x (m.take i)).length ≤ (m.take i).length := this
          rw [List.length_take] at this
          omega
        refine ⟨bs.map V.ref, by rw [upd_ne Dt]; exact hb, by rw [List.length_map]; exact small4000 hl2, ?_, bs ++ [t], by rw [upd_same, List.map_append]; rfl, ?_⟩
        · exact same_lay hD (s1.later (by cases e : H t with | none => rfl | some o => rw [s1 _ _ e] at ht; cases ht)) (o' := .lst (bs.map V.ref)) (by rw [upd_ne Dt]; exact hb)
        · rw [lo_take hpm, if_neg c]
          have hb' : upd H0 t (.tup [.str p.1, .int p.2]) D = some (.lst (bs.map V.ref)) := by rw [upd_ne Dt]; exact hb
          refine paired_snoc' (prk_keep ((keep2_new ht).trans (keep2_lst hb')) pb) ?_
          exact (keep2_lst hb').t _ _ upd_same
    · rintro H1 ⟨s1, bs, hb, pb⟩
      rw [List.length_map, ← hl, List.take_length] at pb
      have nl : ∀ l, H1 l = none → H l = none := fun l e => s1.free e
      refine ⟨D, _, rfl, SqL.of hb, fun l o hl' ho => qq _ l (s1.later (nl l hl')) (nl l hl') ⟨bs, o, upd_same, ho, Paired.mapP pb fun p b z => ?_⟩⟩
      show upd H1 l _ b = _
      rw [upd_ne (ne_of_none z hl')]
      exact z
end
end Po
namespace Po
open PySem L2 Lo
def degM : Mo → Nat
  | [] => 0
  | p :: m => p.2.toNat + degM m
theorem worth_app (u : Str → Int) (a b : Mo) : worth u (a ++ b) = worth u a * worth u b := by
  induction a with
  | nil => show worth u b = 1 * worth u b; omega
  | cons p a ih =>
    show u p.1 ^ p.2.toNat * worth u (a ++ b) = u p.1 ^ p.2.toNat * worth u a * worth u b
    rw [ih]
    grind
theorem worth_snoc (u : Str → Int) (a : Mo) (p : Str × Int) : worth u (a ++ [p]) = worth u a * u p.1 ^ p.2.toNat := by
  rw [worth_app]
  show worth u a * (u p.1 ^ p.2.toNat * 1) = _
  grind
theorem degM_app (a b : Mo) : degM (a ++ b) = degM a + degM b := by
  induction a with
  | nil => show degM b = 0 + degM b; omega
  | cons p a ih =>
    show p.2.toNat + degM (a ++ b) = p.2.toNat + degM a + degM b
    rw [ih]
    omega
theorem degM_take (m : Mo) (i : Nat) : degM (m.take i) ≤ degM m := by
  conv => rhs; rw [← List.take_append_drop i m]
  rw [degM_app]
  omega
theorem natAbs_pow' (a : Int) (k : Nat) : (a ^ k).natAbs = a.natAbs ^ k := by
  induction k with
  | zero => simp
  | succ k ih => rw [Int.pow_succ, Nat.pow_succ, Int.natAbs_mul, ih]
theorem pow_bits {a : Int} {c k : Nat} (h : a.natAbs ≤ 2 ^ c) : (a ^ k).natAbs ≤ 2 ^ (c * k) := by
  rw [natAbs_pow', Nat.pow_mul]
  exact Nat.pow_le_pow_left h k
theorem worth_bits {u : Str → Int} {c : Nat} : ∀ {m : Mo}, (∀ p ∈ m, (u p.1).natAbs ≤ 2 ^ c) → (worth u m).natAbs ≤ 2 ^ (c * degM m)
  | [], _ => by simp [worth, degM]
  | p :: m, h => by
    show (u p.1 ^ p.2.toNat * worth u m).natAbs ≤ 2 ^ (c * (p.2.toNat + degM m))
    rw [Int.natAbs_mul, Nat.mul_add, Nat.pow_add]
    exact Nat.mul_le_mul (pow_bits (h p List.mem_cons_self)) (worth_bits fun q hq => h q (List.mem_cons_of_mem _ hq))
theorem lt_pow_succ {a b : Nat} (h : a ≤ 2 ^ b) : a < 2 ^ (b + 1) := by
  have : 0 < 2 ^ b := Nat.two_pow_pos b
  rw [Nat.pow_succ]
  omega
/-- the values u of the names at the dict d -/
def PtK (H : Hp) (d : Addr) (u : Str → Int) (ns : List Str) : Prop := ∃ kvs, Rd H d (.dK kvs) ∧ ∀ x ∈ ns, valV kvs (Sum.inr x) = some (.int (u x))
theorem PtK.same {H H' : Hp} {d : Addr} {u : Str → Int} {ns : List Str} (s : Same H H') (h : PtK H d u ns) : PtK H' d u ns := by
  obtain ⟨kvs, r, k⟩ := h
  refine ⟨kvs, ?_, k⟩
  rcases r with r | ⟨o, r⟩
  · exact .inl (s _ _ r)
  · exact .inr ⟨o, s _ _ r⟩
theorem PtK.get {H : Hp} {d : Addr} {u : Str → Int} {ns : List Str} (h : PtK H d u ns) {x : Str} (hx : x ∈ ns) : DGet H d (.str x) (some (.int (u x))) := by
  obtain ⟨kvs, r, k⟩ := h
  exact .inl ⟨kvs, Sum.inr x, r, rfl, (k x hx).symm⟩
section
variable {P : Program} {w : World} {K : PySem.W.Frag} {mg : Str → Option Value} {base : Heap}
/-! ### _worth -/
def spWorth : Sp := fun vs H Q _ => ∃ (q d : Addr) (m : Mo) (u : Str → Int) (ns : List Str) (c : Nat), vs = [.ref q, .ref d] ∧ MoK H m q ∧ PtK H d u ns ∧ (∀ p ∈ m, p.1 ∈ ns ∧ 0 ≤ p.2 ∧ p.2 < 1000) ∧ (∀ x ∈ ns, (u x).natAbs ≤ 2 ^ c) ∧ c * degM m + c + 10 ≤ 900000 ∧
  ∀ H', Same H H' → Q (.int (worth u m)) H'
abbrev nWorth : List Str := ["monomial", "point", "found", "name", "many", "_"]
theorem scWorth : FnScope nWorth ["monomial", "point"] (defScope sWorth) := ⟨rfl, rfl, rfl, by decide +kernel, rfl, by decide +kernel, by decide +kernel⟩
theorem ok_worth {f : Addr} {fd : FuncData} (F : Fun K "_worth" "_worth" sWorth f fd) (T : Blt mg) : FnOk P w K mg base CX0 1 f fd ["monomial", "point"] spWorth := by
  refine F.ok scWorth (fun vs H Q E h => ?_) (fun cdv A outer s H vs Q E hr h => ?_)
  · obtain ⟨q, d, m, u, ns, c, rfl, _⟩ := h
    rfl
  · obtain ⟨q, d, m, u, ns, c, rfl, hm, hd, hin, hc, small, qq⟩ := h
    have nd := scWorth.nd
    have hu := hu_of hr
    obtain ⟨as, hq, pr⟩ := hm.seq (K := K)
    have hl : m.length = as.length := Paired.length pr
    refine ⟨_, pss_cons (ps_set (i := 2) nd rfl (.inl rfl) pe_int)
      (pss_cons (ps_for PassesOwn.never rfl (pi_tup (pv 0)) (pg_tup rfl (pgs_cons (pg_name (i := 3) nd rfl (.inl rfl)) (pgs_cons (pg_name (i := 4) nd rfl (.inl rfl)) pgs_nil)))
        (pss_one (ps_for PassesOwn.never rfl (pi_range1 (by rfl) T.range (pa_cons (pv 4) pa_nil)) (pg_name (i := 5) nd rfl (.inl rfl))
          (pss_one (ps_set (i := 2) nd rfl (.inl rfl) (pe_op op_mulW (pv 2) (pe_dget hu (pv 1) (pv 3) (fun _ _ => rfl))))))))
      (pss_one (ps_ret (pv 2)))), ?_⟩
    refine ⟨.ref q, rfl, q, rfl, ⟨_, hq⟩, for_tup (K := K) (a := q) (xs := as.map V.ref) (fun i σ H' => ∃ y3 y4 y5, σ = [some (.ref q), some (.ref d), some (.int (worth u (m.take i))), y3, y4, y5] ∧ Same H H') ⟨_, _, _, rfl, Same.refl _⟩ (fun i σ H' _ ⟨_, _, _, _, sm⟩ => same_tup sm hq) ?_ ?_⟩
    · rintro i v σ H1 hi ⟨y3, y4, y5, rfl, sm⟩
      obtain ⟨p, a, hpm, ha, rfl, hpa⟩ := mok_at pr hi
      obtain ⟨hin1, hin0, hin2⟩ := hin p (List.mem_of_getElem? hpm)
      refine ⟨a, _, rfl, SqT.of (sm _ _ hpa), rfl, _, _, rfl, _, _, rfl, rfl, ?_⟩
      have bnd : ∀ j : Nat, j ≤ p.2.toNat → (worth u (m.take i) * u p.1 ^ j).natAbs ≤ 2 ^ (c * degM m) := fun j hj => by
        rw [Int.natAbs_mul]
        have b1 := worth_bits (u := u) (c := c) (m := m.take i) fun p hp => hc _ (hin p (List.mem_of_mem_take hp)).1
        have b2 := pow_bits (k := j) (hc _ hin1)
        refine Nat.le_trans (Nat.mul_le_mul b1 b2) ?_
        rw [← Nat.pow_add, ← Nat.mul_add]
        refine Nat.pow_le_pow_right (by decide) (Nat.mul_le_mul_left _ ?_)
        have := degM_take m (i + 1)
        rw [take_snoc hpm, degM_app] at this
        have e : degM [p] = p.2.toNat := by simp [degM]
        omega
      refine ⟨.int p.2, rfl, p.2, rfl, ?_⟩
      refine ⟨by omega, by omega, for_range (lo := 0) (n := p.2.toNat) (fun j σ H' => ∃ y5, σ = [some (.ref q), some (.ref d), some (.int (worth u (m.take i) * u p.1 ^ j)), some (.str p.1), some (.int p.2), y5] ∧ Same H H' ∧ j ≤ p.2.toNat) ⟨y5, ?_, sm, Nat.zero_le _⟩ ?_ ?_⟩
      · rw [Int.pow_zero, Int.mul_one]
        rfl
      · rintro j σ H2 hj ⟨y5', rfl, sm2, _⟩
        refine ⟨_, rfl, .ref d, rfl, .str p.1, rfl, d, _, rfl, (hd.same sm2).get hin1, _, _, rfl, rfl, ?_, some (.int (0 + (j : Int))), ?_, sm2, hj⟩
        · exact wide_mul (lt_pow_succ (bnd j (by omega))) (lt_pow_succ (hc _ hin1)) (by omega) (by omega) (by omega)
        · rw [Int.pow_succ, ← Int.mul_assoc]
          rfl
      · rintro σ H2 ⟨y5', rfl, sm2, _⟩
        refine ⟨some (.str p.1), some (.int p.2), y5', ?_, sm2⟩
        rw [take_snoc hpm, worth_snoc]
    · rintro σ H1 ⟨y3, y4, y5, rfl, sm⟩
      rw [List.length_map, ← hl, List.take_length]
      exact ⟨_, rfl, qq _ sm⟩
end
end Po
namespace Po
open PySem L2 Lo
def getS (E : List (Str × Int)) (x : Str) : Option Int := (E.find? fun e => decide (e.1 = x)).map (·.2)
def putS (E : List (Str × Int)) (x : Str) (k : Int) : List (Str × Int) := if (getS E x).isSome then E.map fun e => if e.1 = x then (e.1, k) else e else E ++ [(x, k)]
abbrev kvS (E : List (Str × Int)) : List (L2.Key × V) := E.map fun e => (Sum.inr e.1, V.int e.2)
theorem getS_kv (E : List (Str × Int)) (x : Str) : valV (kvS E) (Sum.inr x) = (getS E x).map V.int := by
  unfold valV getS
  induction E with
  | nil => rfl
  | cons e E ih =>
    by_cases c : e.1 = x
    · simp [c]
    · have c' : ¬ ((Sum.inr e.1 : L2.Key) = Sum.inr x) := fun z => c (Sum.inr.inj z)
      show Option.map (fun x => x.2) (List.find? _ (((Sum.inr e.1 : L2.Key), V.int e.2) :: kvS E)) = _
      rw [List.find?_cons, List.find?_cons, decide_eq_false c, decide_eq_false c']
      exact ih
theorem putS_kv (E : List (Str × Int)) (x : Str) (k : Int) : putK (kvS E) (Sum.inr x) (.int k) = kvS (putS E x k) := by
  unfold putK putS
  rw [valV_any, getS_kv, Option.isSome_map]
  by_cases z : (getS E x).isSome = true
  · rw [if_pos z, if_pos z, List.map_map]
    show _ = List.map _ (List.map _ E)
    rw [List.map_map]
    refine List.map_congr_left fun e _ => ?_
    by_cases c : e.1 = x
    · simp [c]
    · have c' : ¬ ((Sum.inr e.1 : L2.Key) = Sum.inr x) := fun z => c (Sum.inr.inj z)
      simp [c]
  · rw [if_neg z, if_neg z]
    show _ = List.map _ (E ++ [(x, k)])
    rw [List.map_append]
    rfl
theorem getS_mem {E : List (Str × Int)} {x : Str} {k : Int} (h : getS E x = some k) : (x, k) ∈ E := by
  unfold getS at h
  obtain ⟨e, he, rfl⟩ := Option.map_eq_some_iff.mp h
  have h1 := List.find?_some he
  have h2 := List.mem_of_find?_eq_some he
  have : e.1 = x := by simpa using h1
  rw [← this]
  exact h2
theorem getS_none {E : List (Str × Int)} {x : Str} (h : getS E x = none) : x ∉ E.map (·.1) := by
  unfold getS at h
  rw [Option.map_eq_none_iff, List.find?_eq_none] at h
  intro m
  obtain ⟨e, he, rfl⟩ := List.mem_map.mp m
  exact h e he (by simp)
theorem names_putS (E : List (Str × Int)) (x : Str) (k : Int) : (putS E x k).map (·.1) = if (getS E x).isSome then E.map (·.1) else E.map (·.1) ++ [x] := by
  unfold putS
  split
  · rw [List.map_map]
    refine List.map_congr_left fun e _ => ?_
    by_cases c : e.1 = x <;> simp [c]
  · simp
/-- adding to an exponent -/
theorem putS_add {E : List (Str × Int)} {x : Str} {k : Int} (nd : (E.map (·.1)).Nodup) (pos : ∀ e ∈ E, 1 ≤ e.2) (hk : 1 ≤ k) :
    ((putS E x ((getS E x).getD 0 + k)).map (·.1)).Nodup ∧ (∀ e ∈ putS E x ((getS E x).getD 0 + k), 1 ≤ e.2) ∧ (∀ u, worth u (putS E x ((getS E x).getD 0 + k)) = worth u E * u x ^ k.toNat) ∧
      degM (putS E x ((getS E x).getD 0 + k)) = degM E + k.toNat ∧ ∀ e ∈ putS E x ((getS E x).getD 0 + k), e.1 = x ∨ e.1 ∈ E.map (·.1) := by
  cases h : getS E x with
  | none =>
    have hn := getS_none h
    have e : putS E x ((none : Option Int).getD 0 + k) = E ++ [(x, k)] := by
      unfold putS
      rw [h]
      simp
    rw [e]
    refine ⟨?_, fun e he => ?_, fun u => worth_snoc u E (x, k), ?_, fun e he => ?_⟩
    · rw [List.map_append]
      exact List.nodup_append.mpr ⟨nd, by simp, fun a ha b hb => by
        have : b = x := by simpa using hb
        rw [this]
        exact fun z => hn (z ▸ ha)⟩
    · rcases List.mem_append.mp he with z | z
      · exact pos e z
      · rw [List.mem_singleton.mp z]
        exact hk
    · rw [degM_app]
      simp [degM]
    · rcases List.mem_append.mp he with z | z
      · exact .inr (List.mem_map.mpr ⟨e, z, rfl⟩)
      · rw [List.mem_singleton.mp z]
        exact .inl rfl
  | some j =>
    have hm := getS_mem h
    have hj := pos _ hm
    have e : putS E x ((some j).getD 0 + k) = E.map fun e => if e.1 = x then (e.1, j + k) else e := by
      unfold putS
      rw [h]
      simp
    rw [e]
    have key : ∀ E : List (Str × Int), (E.map (·.1)).Nodup → (x, j) ∈ E → (∀ u, worth u (E.map fun e => if e.1 = x then (e.1, j + k) else e) = worth u E * u x ^ k.toNat) ∧ degM (E.map fun e => if e.1 = x then (e.1, j + k) else e) = degM E + k.toNat := by
      intro E
      induction E with
      | nil => intro _ h; exact nomatch h
      | cons p E ih =>
        intro nd hm
        rw [List.map_cons, List.nodup_cons] at nd
        rw [List.map_cons]
        by_cases c : p.1 = x
        · have np : ∀ e ∈ E, e.1 ≠ x := fun e he z => nd.1 (List.mem_map.mpr ⟨e, he, z.trans c.symm⟩)
          have ep : p = (x, j) := by
            rcases List.mem_cons.mp hm with z | z
            · exact z.symm
            · exact absurd rfl (np _ z)
          have es : (E.map fun e => if e.1 = x then (e.1, j + k) else e) = E := by
            conv => rhs; rw [← List.map_id E]
            refine List.map_congr_left fun e he => ?_
            rw [if_neg (np e he)]
            rfl
          rw [es, if_pos c, ep]
          constructor
          · intro u
            show u x ^ (j + k).toNat * worth u E = u x ^ j.toNat * worth u E * u x ^ k.toNat
            rw [show (j + k).toNat = j.toNat + k.toNat by omega, Int.pow_add]
            grind
          · show (j + k).toNat + degM E = j.toNat + degM E + k.toNat
            omega
        · have hm' : (x, j) ∈ E := by
            rcases List.mem_cons.mp hm with z | z
            · exact absurd (by rw [← z]) c
            · exact z
          obtain ⟨i1, i2⟩ := ih nd.2 hm'
          rw [if_neg c]
          constructor
          · intro u
            show u p.1 ^ p.2.toNat * worth u (E.map _) = u p.1 ^ p.2.toNat * worth u E * u x ^ k.toNat
            rw [i1 u]
            grind
          · show p.2.toNat + degM (E.map _) = p.2.toNat + degM E + k.toNat
            rw [i2]
            omega
    obtain ⟨k1, k2⟩ := key E nd hm
    refine ⟨?_, fun e he => ?_, k1, k2, fun e he => ?_⟩
    · rw [List.map_map]
      have : ((fun e : Str × Int => e.1) ∘ fun e : Str × Int => if e.1 = x then (e.1, j + k) else e) = fun e => e.1 := by
        funext e
        by_cases c : e.1 = x <;> simp [c]
      rw [this]
      exact nd
    · obtain ⟨e', he', rfl⟩ := List.mem_map.mp he
      by_cases c : e'.1 = x
      · rw [if_pos c]
        show 1 ≤ j + k
        have : (1 : Int) ≤ j := hj
        omega
      · rw [if_neg c]
        exact pos e' he'
    · obtain ⟨e', he', rfl⟩ := List.mem_map.mp he
      right
      by_cases c : e'.1 = x
      · rw [if_pos c]
        exact List.mem_map.mpr ⟨e', he', rfl⟩
      · rw [if_neg c]
        exact List.mem_map.mpr ⟨e', he', rfl⟩
theorem worth_perm {u : Str → Int} {a b : Mo} (h : a.Perm b) : worth u a = worth u b := by
  induction h with
  | nil => rfl
  | cons p _ ih => unfold worth; rw [ih]
  | swap p q l => unfold worth; unfold worth; grind
  | trans _ _ x y => exact x.trans y
theorem degM_perm {a b : Mo} (h : a.Perm b) : degM a = degM b := by
  induction h with
  | nil => rfl
  | cons p _ ih => unfold degM; rw [ih]
  | swap p q l => unfold degM; unfold degM; omega
  | trans _ _ x y => exact x.trans y
theorem Good.nd {m : Mo} (g : Good m) : (m.map (·.1)).Nodup := by
  rw [List.Nodup, List.pairwise_map]
  exact g.srt.imp fun {a b : Str × Int} (h : slt a.1 b.1) => slt_ne h
theorem Good.len {m : Mo} (g : Good m) : m.length ≤ degM m := by
  induction m with
  | nil => exact Nat.le_refl _
  | cons p m ih =>
    have h1 := g.pos p List.mem_cons_self
    have h2 := ih g.tail
    show m.length + 1 ≤ p.2.toNat + degM m
    omega
theorem Good.exp {m : Mo} (g : Good m) : ∀ p ∈ m, p.2 ≤ degM m := by
  induction m with
  | nil => intro p h; exact nomatch h
  | cons q m ih =>
    intro p hp
    have h1 := g.pos q List.mem_cons_self
    have e : degM (q :: m) = q.2.toNat + degM m := rfl
    rcases List.mem_cons.mp hp with z | z
    · subst z
      omega
    · have := ih g.tail p z
      omega
/-- what more is asked of the module's names -/
structure BltP (mg : Str → Option Value) : Prop where
  dict : mg "dict" = none
  sorted : mg "sorted" = none
  abs : mg "abs" = none
  max : mg "max" = none
  set : mg "set" = none
  zip : mg "zip" = none
  gcd : mg "gcd" = some (.builtin "math.gcd")
section
variable {P : Program} {w : World} {K : PySem.W.Frag} {mg : Str → Option Value} {base : Heap}
/-! ### _both -/
def spBoth : Sp := fun vs H Q _ => ∃ (q1 q2 : Addr) (m1 m2 : Mo), vs = [.ref q1, .ref q2] ∧ MoK H m1 q1 ∧ MoK H m2 q2 ∧ Good m1 ∧ Good m2 ∧ degM m1 + degM m2 ≤ 900 ∧
  ∀ H' p m, Same H H' → H p = none → MoK H' m p → Good m → (∀ u, worth u m = worth u m1 * worth u m2) → degM m = degM m1 + degM m2 → (∀ e ∈ m, e.1 ∈ m1.map (·.1) ∨ e.1 ∈ m2.map (·.1)) → Q (.ref p) H'
abbrev nBoth : List Str := ["first", "second", "exponents", "name", "many"]
theorem scBoth : FnScope nBoth ["first", "second"] (defScope sBoth) := ⟨rfl, rfl, rfl, by decide +kernel, rfl, by decide +kernel, by decide +kernel⟩
theorem ok_both {f : Addr} {fd : FuncData} (F : Fun K "_both" "_both" sBoth f fd) (T : Blt mg) (U : BltP mg) : FnOk P w K mg base CX0 1 f fd ["first", "second"] spBoth := by
  refine F.ok scBoth (fun vs H Q E h => ?_) (fun cdv A outer s H vs Q E hr h => ?_)
  · obtain ⟨q1, q2, m1, m2, rfl, _⟩ := h
    rfl
  · obtain ⟨q1, q2, m1, m2, rfl, hm1, hm2, g1, g2, few, qq⟩ := h
    have nd := scBoth.nd
    have hu := hu_of hr
    have hu10 : (A.deeper (PyProof.Rows.envOfC (Str.ofString "_both") (defScope sBoth) s.heap.objs.size f cdv)).units + 10 < cLine := by have := hr.units; omega
    obtain ⟨as, hq, pr⟩ := hm2.seq (K := K)
    have hl : m2.length = as.length := Paired.length pr
    refine ⟨_, pss_cons (ps_set (i := 2) nd rfl (.inl rfl) (pe_callTy (cr_dictM rfl) (by rfl) U.dict PyProof.Rows.boot_dict (pa_cons (pv 0) pa_nil)))
      (pss_cons (ps_for PassesOwn.never rfl (pi_tup (pv 1)) (pg_tup rfl (pgs_cons (pg_name (i := 3) nd rfl (.inl rfl)) (pgs_cons (pg_name (i := 4) nd rfl (.inl rfl)) pgs_nil)))
        (pss_one (ps_dput hu (pv 2) (pv 3) (pe_op op_add (pe_dget2 hu (pv 2) (pv 3) pe_int ⟨rfl, rfl, rfl, rfl⟩) (pv 4)) rfl)))
      (pss_one (ps_ret (pe_callTy call_tupF (by rfl) T.tuple PyProof.Rows.boot_tuple (pa_cons (pe_callB (cr_sortPd rfl hu10) (by rfl) U.sorted PyProof.Rows.boot_sorted (pa_cons (pe_bm0 PySem.F.plainAttrs_dict PySem.F.slot_dict_items PySem.F.type_dict_items mt_itemsK (pv 2)) pa_nil)) pa_nil))))), ?_⟩
    refine ⟨_, rfl, q1, m1, rfl, hm1, g1.nd, fun d hd => ?_⟩
    have s0 := same_upd (o := HO.dK (kvS m1)) hd
    refine ⟨.ref q2, rfl, q2, rfl, ⟨_, same_tup s0 hq⟩, for_tup (K := K) (a := q2) (xs := as.map V.ref) (fun i σ H' => ∃ y3 y4 E, σ = [some (.ref q1), some (.ref q2), some (.ref d), y3, y4] ∧ Same H H' ∧ H' d = some (.dK (kvS E)) ∧ (E.map (·.1)).Nodup ∧ (∀ e ∈ E, 1 ≤ e.2) ∧ (∀ u, worth u E = worth u m1 * worth u (m2.take i)) ∧ degM E = degM m1 + degM (m2.take i) ∧ (∀ e ∈ E, e.1 ∈ m1.map (·.1) ∨ e.1 ∈ m2.map (·.1)))
      ⟨none, none, m1, rfl, s0, upd_same, g1.nd, g1.pos, fun u => ?_, ?_, fun e he => .inl (List.mem_map.mpr ⟨e, he, rfl⟩)⟩ (fun i σ H' _ ⟨_, _, _, _, sm, _⟩ => same_tup sm hq) ?_ ?_⟩
    · show worth u m1 = worth u m1 * 1
      omega
    · rfl
    · rintro i v σ H1 hi ⟨y3, y4, E, rfl, sm, hE, ndE, posE, wE, dE, nE⟩
      obtain ⟨p, a, hpm, ha, rfl, hpa⟩ := mok_at pr hi
      have hpos := g2.pos p (List.mem_of_getElem? hpm)
      refine ⟨a, _, rfl, SqT.of (sm _ _ hpa), rfl, _, _, rfl, _, _, rfl, rfl, ?_⟩
      have lenE : E.length ≤ 900 := by
        have gE : E.length ≤ degM E := by
          clear hE ndE wE dE nE
          induction E with
          | nil => exact Nat.le_refl _
          | cons e E ih =>
            have h1 := posE e List.mem_cons_self
            have h2 := ih fun x hx => posE x (List.mem_cons_of_mem _ hx)
            show E.length + 1 ≤ e.2.toNat + degM E
            omega
        have := degM_take m2 i
        omega
      obtain ⟨r1, r2, r3, r4, r5⟩ := putS_add (x := p.1) (k := p.2) ndE posE hpos
      refine ⟨.ref d, rfl, d, rfl, .inl ⟨_, .inl hE⟩, .str p.1, rfl, _, .inl ⟨_, Sum.inr p.1, .inl hE, rfl, rfl⟩, ?_⟩
      rw [getS_kv]
      refine ⟨_, rfl, (getS E p.1).getD 0, p.2, ?_, rfl, ?_⟩
      · show ((getS E p.1).map V.int).getD (.int 0) = .int ((getS E p.1).getD 0)
        cases getS E p.1 <;> rfl
      refine ⟨.ref d, rfl, .str p.1, rfl, d, _, rfl, DPut.k (k := Sum.inr p.1) hE (by rw [List.length_map]; exact small4000 (by omega)), ?_⟩
      rw [putS_kv]
      refine ⟨_, _, _, rfl, ?_, upd_same, r1, r2, fun u => ?_, ?_, fun e he => ?_⟩
      · exact sm.later hd
      · rw [r3 u, wE u, take_snoc hpm, worth_snoc]
        grind
      · rw [r4, dE, take_snoc hpm, degM_app]
        simp [degM]
        omega
      · rcases r5 e he with z | z
        · rw [z]
          exact .inr (List.mem_map.mpr ⟨p, List.mem_of_getElem? hpm, rfl⟩)
        · obtain ⟨e', he', ee⟩ := List.mem_map.mp z
          rw [← ee]
          exact nE e' he'
    · rintro σ H1 ⟨y3, y4, E, rfl, sm, hE, ndE, posE, wE, dE, nE⟩
      rw [List.length_map, ← hl, List.take_length] at wE dE
      refine ⟨.ref d, rfl, .inr (.inr (.inl ⟨rfl, .inl ⟨_, hE⟩⟩)), d, _, rfl, rfl, hE, fun pi hpi => ?_⟩
      have hE2 : upd H1 pi (L2.DX.itemsO pi d) d = some (.dK (kvS E)) := by
        rw [upd_ne (ne_of_none hE hpi)]
        exact hE
      refine ⟨pi, d, E, rfl, upd_same, hE2, ndE, fun H2 l zs bs grow pm srt hl2 pz => ?_⟩
      have s12 : Same H H2 := fun b o e => grow _ _ ((sm.later (sm.free hpi)) b o e)
      refine ⟨l, _, rfl, SqL.of hl2, fun p o hp ho => ?_⟩
      have gz : Good zs := ⟨srt, fun e he => posE e (pm.mem_iff.mp he)⟩
      refine qq _ p zs (s12.later (s12.free hp)) (s12.free hp) ⟨bs, o, upd_same, ho, prk_keep (keep2_new hp) pz⟩ gz (fun u => ?_) ?_ fun e he => nE e (pm.mem_iff.mp he)
      · rw [worth_perm pm, wE u]
      · rw [degM_perm pm, dE]
end
end Po
namespace Po
open PySem L2 Lo
abbrev sPInit : Stmt := inClass sPoly 0
structure Pol where
  T : List (Mo × Int)
  d : Int
theorem ftb : ¬ (("terms" : Str) = "below") := by decide +kernel
def pflds (t : Addr) (d : Int) : List (Str × V) := putF "below" (.int d) (putF "terms" (.ref t) [])
theorem pflds_t (t : Addr) (d : Int) : (pflds t d).lookup ("terms" : Str) = some (.ref t) := by
  unfold pflds
  rw [lookup_putF, if_neg ftb, lookup_putF, if_pos rfl]
theorem pflds_b (t : Addr) (d : Int) : (pflds t d).lookup ("below" : Str) = some (.int d) := by
  unfold pflds
  rw [lookup_putF, if_pos rfl]
theorem pflds_no (t : Addr) (d : Int) {m : Str} (h1 : ¬ m = "terms") (h2 : ¬ m = "below") : (pflds t d).lookup m = none := by
  unfold pflds
  rw [lookup_putF, if_neg h2, lookup_putF, if_neg h1]
  rfl
/-- a polynomial at p -/
def PolyAt (P : Program) (w : World) (C : Addr) (H : Hp) (p : Addr) (A : Pol) : Prop := ∃ dx t, H p = some (.ins C dx (pflds t A.d)) ∧ NDW P w H t A.T
/-- the dict of its terms -/
def TmOf (H : Hp) (p t : Addr) : Prop := ∃ C dx fs, H p = some (.ins C dx fs) ∧ fs.lookup ("terms" : Str) = some (.ref t)
/-- new, and with new terms -/
def FrP (H H' : Hp) (p : Addr) : Prop := H p = none ∧ ∀ t, TmOf H' p t → H t = none
theorem PolyAt.same {P : Program} {w : World} {C : Addr} {H H' : Hp} {p : Addr} {A : Pol} (s : Same H H') (h : PolyAt P w C H p A) : PolyAt P w C H' p A := by
  obtain ⟨dx, t, h1, h2⟩ := h
  exact ⟨dx, t, s _ _ h1, h2.same s⟩
/-- the one form of terms over a number -/
theorem PolyAt.tm {P : Program} {w : World} {C : Addr} {H : Hp} {p : Addr} {A : Pol} (h : PolyAt P w C H p A) : ∃ t, H t ≠ none ∧ NDW P w H t A.T ∧ (∃ dx, H p = some (.ins C dx (pflds t A.d))) ∧ ∀ t', TmOf H p t' ↔ t' = t := by
  obtain ⟨dx, t, h1, h2⟩ := h
  refine ⟨t, fun z => ?_, h2, ⟨dx, h1⟩, fun t' => ⟨fun ⟨C', dx', fs, e, l⟩ => ?_, fun e => ⟨_, _, _, h1, by rw [e]; exact pflds_t _ _⟩⟩⟩
  · obtain ⟨ks, e, _⟩ := h2
    rw [z] at e
    cases e
  · rw [h1] at e
    cases e
    rw [pflds_t] at l
    cases l
    rfl
theorem FrP.back {H0 H H' : Hp} {p : Addr} (f : FrP H H' p) (s : Same H0 H) : FrP H0 H' p := ⟨s.free f.1, fun t h => s.free (f.2 t h)⟩
theorem FrP.on {P : Program} {w : World} {C : Addr} {H H' H'' : Hp} {p : Addr} {A : Pol} (f : FrP H H' p) (s : Same H' H'') (h : PolyAt P w C H' p A) : FrP H H'' p := by
  obtain ⟨t, _, _, ⟨dx, e⟩, k⟩ := h.tm
  refine ⟨f.1, fun t' ⟨C', dx', fs, e', l⟩ => f.2 t' ⟨_, _, _, e, ?_⟩⟩
  rw [s _ _ e] at e'
  cases e'
  exact l
/-- two with terms of their own -/
def Apart (H : Hp) (p q : Addr) : Prop := ∀ t, TmOf H p t → ¬ TmOf H q t
theorem Apart.symm {H : Hp} {p q : Addr} (h : Apart H p q) : Apart H q p := fun t a b => h t b a
theorem FrP.apart {P : Program} {w : World} {C : Addr} {H H' : Hp} {p q : Addr} {B : Pol} (f : FrP H H' p) (s : Same H H') (h : PolyAt P w C H q B) : Apart H' p q := by
  obtain ⟨t, n, _, ⟨dx, e⟩, k⟩ := h.tm
  intro t' a ⟨C', dx', fs, e', l⟩
  rw [s _ _ e] at e'
  cases e'
  rw [pflds_t] at l
  cases l
  exact n (f.2 _ a)
theorem Apart.same {P : Program} {w : World} {C : Addr} {H H' : Hp} {p q : Addr} {A B : Pol} (x : Apart H p q) (s : Same H H') (h : PolyAt P w C H p A) (h' : PolyAt P w C H q B) : Apart H' p q := by
  obtain ⟨t, _, _, ⟨dx, e⟩, k⟩ := h.tm
  obtain ⟨t2, _, _, ⟨dx2, e2⟩, k2⟩ := h'.tm
  intro t' ⟨C', dx', fs, e', l⟩ ⟨C2, dx3, fs2, e3, l2⟩
  rw [s _ _ e] at e'
  cases e'
  rw [s _ _ e2] at e3
  cases e3
  exact x t' ⟨_, _, _, e, l⟩ ⟨_, _, _, e2, l2⟩
structure NormOf (T : List (Mo × Int)) (d : Int) (A : Pol) : Prop where
  can : Can mlt A.T A.d
  ev : ∀ u, ev u A.T * d = ev u T * A.d
  sub : ∀ t ∈ A.T, ∃ s ∈ T, s.1 = t.1 ∧ t.2.natAbs ≤ s.2.natAbs
  len : A.T.length ≤ T.length
  den : A.d ≤ d
structure PTxt (K : PySem.W.Frag) (mg : Str → Option Value) (C fI : Addr) : Prop where
  cl : Cls K C
  nT : NoAttr K C "terms"
  nB : NoAttr K C "below"
  make : Mk K C fI
  mg : mg "Poly" = some (.ref C)
theorem upd_back {H : Hp} {t : Addr} {u o : HO} (e : H t = some u) : upd (upd H t o) t u = H := by
  rw [upd_upd]
  funext b
  by_cases k : b = t
  · subst k
    rw [upd_same, e]
  · rw [upd_ne k]
theorem upd_comm {H : Hp} {a b : Addr} {o u : HO} (h : a ≠ b) : upd (upd H a o) b u = upd (upd H b u) a o := by
  funext c
  by_cases k1 : c = a
  · subst k1
    rw [upd_ne h, upd_same, upd_same]
  · rw [upd_ne k1]
    by_cases k2 : c = b
    · subst k2
      rw [upd_same, upd_same]
    · rw [upd_ne k2, upd_ne k2, upd_ne k1]
theorem keep2_ins {H : Hp} {p C dx : Addr} {fs : List (Str × V)} {o : HO} (h : H p = some (.ins C dx fs)) : Keep2 H (upd H p o) := ⟨fun b ys e => by
  rw [upd_ne (ne_of e h (fun z => nomatch z))]
  exact e, fun b ob u e => by
  rw [upd_ne (ne_of e h (fun z => nomatch z))]
  exact e⟩
theorem valT_mem {T : List (Mo × Int)} (nd : (T.map (·.1)).Nodup) {t : Mo × Int} (h : t ∈ T) : valT T t.1 = some t.2 := by
  induction T with
  | nil => exact nomatch h
  | cons s T ih =>
    rw [List.map_cons, List.nodup_cons] at nd
    unfold valT
    rcases List.mem_cons.mp h with e | e
    · subst e
      simp
    · have : ¬ s.1 = t.1 := fun z => nd.1 (List.mem_map.mpr ⟨t, e, z.symm⟩)
      rw [List.find?_cons, decide_eq_false this]
      exact ih nd.2 e
theorem valT_none {T : List (Mo × Int)} {m : Mo} (h : m ∉ T.map (·.1)) : valT T m = none := by
  unfold valT
  rw [Option.map_eq_none_iff, List.find?_eq_none]
  intro t ht z
  exact h (List.mem_map.mpr ⟨t, ht, by simpa using z⟩)
theorem putT_new {T : List (Mo × Int)} {m : Mo} {c : Int} (h : m ∉ T.map (·.1)) : putT T m c = T ++ [(m, c)] := by
  unfold putT
  rw [valT_none h]
  rfl
theorem strip_at {ks : List Ent} {i : Nat} {e : Ent} (h : ks[i]? = some e) : (strip ks)[i]? = some (e.1, e.2.2) := by
  unfold strip
  rw [List.getElem?_map, h]
  rfl
/-- the kept terms in an order, with their values -/
theorem kept_perm {T : List (Mo × Int)} (nd : (T.map (·.1)).Nodup) {ms : List Mo} (h : ms.Perm ((T.filter fun t => decide (t.2 ≠ 0)).map (·.1))) : (ms.map fun m => (m, (valT T m).getD 0)).Perm (T.filter fun t => decide (t.2 ≠ 0)) := by
  have h2 := h.map fun m => (m, (valT T m).getD 0)
  rw [List.map_map] at h2
  have e : ((T.filter fun t => decide (t.2 ≠ 0)).map ((fun m => (m, (valT T m).getD 0)) ∘ fun t : Mo × Int => t.1)) = T.filter fun t => decide (t.2 ≠ 0) := by
    conv => rhs; rw [← List.map_id (T.filter fun t => decide (t.2 ≠ 0))]
    refine List.map_congr_left fun t ht => ?_
    show (t.1, (valT T t.1).getD 0) = t
    rw [valT_mem nd (List.mem_filter.mp ht).1]
    rfl
  rw [e] at h2
  exact h2
theorem pe_ngetP {P : Program} {w : World} {X : Cx} {o i : Expr} {pos : Pos} {td ty : TE} (hP : X.prog = P) (hw : X.w = w) (hu : X.A.units + 9 < cLine) (ho : PE X o td) (hi : PE X i ty) (hs : NoSl i) : PE X (.Subscript o i pos) (tNGet P w td ty) := by
  subst hP hw
  exact pe_nget hu ho hi hs
section
variable {P : Program} {w : World} {K : PySem.W.Frag} {mg : Str → Option Value} {base : Heap}
/-! ### Poly.__init__ -/
def spPInit (P : Program) (w : World) (C : Addr) : Sp := fun vs H Q _ => ∃ (p t dx : Addr) (d : Int) (T : List (Mo × Int)) (b : Nat), vs = [.ref p, .ref t, .int d] ∧ H p = some (.ins C dx []) ∧ NDW P w H t T ∧ (T.map (·.1)).Nodup ∧ (∀ s ∈ T, Good s.1) ∧ 0 < d ∧ d.natAbs < 2 ^ b ∧ 0 < b ∧ b ≤ 9000 ∧ T.length ≤ 4000 ∧
  ∀ H' A, (∀ b o, H b = some o → b ≠ p → H' b = some o) → PolyAt P w C H' p A → NormOf T d A → (∀ t, TmOf H' p t → H t = none) → Q .non H'
abbrev nPInit : List Str := ["self", "terms", "below", "shared", "many", "kept", "monomial"]
theorem scPInit : FnScope nPInit ["self", "terms", "below"] (defScope sPInit) := ⟨rfl, rfl, rfl, by decide +kernel, rfl, by decide +kernel, by decide +kernel⟩
theorem ok_pinit {f C fI : Addr} {fd : FuncData} (F : Fun K "__init__" "Poly.__init__" sPInit f fd) (T : Blt mg) (U : BltP mg) (X : PTxt K mg C fI) : FnOk P w K mg base CX0 1 f fd ["self", "terms", "below"] (spPInit P w C) := by
  refine F.ok scPInit (fun vs H Q E h => ?_) (fun cdv A outer s H vs Q E hr h => ?_)
  · obtain ⟨p, t, dx, d, T, b, rfl, _⟩ := h
    rfl
  · obtain ⟨p, t, dx, d, TT, bb, rfl, hp, hT, ndT, good, hd, db, b0, b9, few, q⟩ := h
    have nd := scPInit.nd
    have hu9 : (A.deeper (PyProof.Rows.envOfC (Str.ofString "Poly.__init__") (defScope sPInit) s.heap.objs.size f cdv)).units + 9 < cLine := by have := hr.units; omega
    have hu10 : (A.deeper (PyProof.Rows.envOfC (Str.ofString "Poly.__init__") (defScope sPInit) s.heap.objs.size f cdv)).units + 10 < cLine := by have := hr.units; omega
    refine ⟨_, pss_cons (ps_set (i := 3) nd rfl (.inr rfl) (pe_callB call_abs (by rfl) U.abs PyProof.Rows.boot_abs (pa_cons (pv 2) pa_nil)))
      (pss_cons (ps_lock (ps_for PassesOwn.never rfl (pi_nvalues (pv 1)) (pg_name (i := 4) nd rfl (.inl rfl)) (pss_one (ps_set (i := 3) nd rfl (.inr rfl) (L2.pe_callBfun cr_gcd (by rfl) U.gcd (pa_cons (pv 3) (pa_cons (pv 4) pa_nil)))))))
      (pss_cons (ps_if (pt_cmpR op_lt (pv 2) pe_int (nomark _)) (pss_one (ps_set (i := 3) nd rfl (.inr rfl) (pe_un un_neg (pv 3)))) pss_nil)
      (pss_cons (ps_set (i := 5) nd rfl (.inl rfl) (pe_callB (cr_sortMo hu10) (by rfl) U.sorted PyProof.Rows.boot_sorted (pa_cons (pe_lock (pe_lc (own := [("monomial", 6)]) (g := gName 6) rfl nd (pi_nkeys (pv 1)) (blkOk_by (N := nPInit) (sc := defScope sPInit) (by decide +kernel))
          (fun _ _ _ _ _ => pg_name (i := 6) nd rfl (.inl rfl)) (fun _ _ _ _ _ => pts_one (pt_cmpR op_ne (pe_ngetP (P := P) (w := w) rfl rfl hu9 (pv 1) (pv 6) (fun _ _ => rfl)) pe_int (nomark _))) (fun _ _ _ _ _ => pv 6))) pa_nil)))
      (pss_cons (ps_fld (pv 0) (pe_dcN (own := [("monomial", 6)]) (g := gName 6) (tt := tYes) hu9 rfl nd (pi_list (pv 5)) (blkOk_by (N := nPInit) (sc := defScope sPInit) (by decide +kernel))
          (fun _ _ _ _ _ => pg_name (i := 6) nd rfl (.inl rfl)) (fun _ _ _ _ _ => pts_nil) (fun _ _ _ _ _ => pv 6) (fun _ _ _ _ _ => pe_op op_fdivW (pe_ngetP (P := P) (w := w) rfl rfl hu9 (pv 1) (pv 6) (fun _ _ => rfl)) (pv 3))) rfl)
      (pss_one (ps_fld (pv 0) (pe_op op_fdivW (pv 2) (pv 3)) rfl)))))), ?_⟩
    obtain ⟨ks, ht, mk, rfl⟩ := hT
    have hpt : p ≠ t := ne_of hp ht (fun z => nomatch z)
    have lks : ks.length = (strip ks).length := by simp [strip]
    have ndk : (ks.map fun e => e.1).Nodup := by
      have : ks.map (fun e => e.1) = (strip ks).map (·.1) := by unfold strip; rw [List.map_map]; rfl
      rw [this]
      exact ndT
    -- shared = abs(below)
    refine ⟨.int d, rfl, d, rfl, ?_⟩
    rw [if_neg (by omega)]
    -- the walk over the values
    refine ⟨t, _, ht, trivial, fun od => ⟨.ref t, rfl, t, od, ks, rfl, upd_same, for_it walk_nvals (fun i σ H' => ∃ y4, σ = [some (.ref p), some (.ref t), some (.int d), some (.int ((gfold d.natAbs (((strip ks).map (·.2)).take i) : Nat) : Int)), y4, none, none] ∧ H' = upd H t (.frz od (NdO P w t ks))) ⟨none, ?_, rfl⟩ (fun i σ H' _ ⟨_, _, e⟩ => by rw [e]; exact upd_same) ?_ ?_⟩⟩
    · show [some (V.ref p), some (V.ref t), some (V.int d), some (V.int d), none, none, none] = _
      have : ((gfold d.natAbs (((strip ks).map (·.2)).take 0) : Nat) : Int) = d := by
        show ((d.natAbs : Nat) : Int) = d
        omega
      rw [this]
    · rintro i x σ H1 H2 hi ⟨y4, rfl, rfl⟩ ⟨rfl, e, hk, rfl⟩
      refine ⟨_, rfl, _, rfl, _, _, rfl, ?_⟩
      refine ⟨some (.int e.2.2), ?_, rfl⟩
      have hv : ((strip ks).map (·.2))[i]? = some e.2.2 := by
        rw [List.getElem?_map, strip_at hk]
        rfl
      have : gfold d.natAbs (((strip ks).map (·.2)).take (i + 1)) = Nat.gcd ((gfold d.natAbs (((strip ks).map (·.2)).take i) : Nat) : Int).natAbs e.2.2.natAbs := by
        rw [take_snoc hv]
        unfold gfold
        rw [List.foldl_append]
        simp
      rw [this]
      rfl
    rintro σ H1 ⟨y4, rfl, rfl⟩
    refine ⟨upd_same, ?_⟩
    rw [upd_back ht]
    have etake : ((strip ks).map (·.2)).take ks.length = (strip ks).map (·.2) := List.take_of_length_le (by rw [List.length_map]; omega)
    rw [etake]
    generalize hg : gfold d.natAbs ((strip ks).map (·.2)) = g
    have gpos : 0 < g := by rw [← hg]; exact gfold_pos _ (by omega)
    have gle : g ≤ d.natAbs := by
      have := (gfold_dvd ((strip ks).map (·.2)) d.natAbs).1
      rw [hg] at this
      exact Nat.le_of_dvd (by omega) this
    -- if below < 0
    refine ⟨_, rfl, _, _, rfl, rfl, _, rfl, ?_⟩
    rw [decide_eq_false (by omega : ¬ d < 0)]
    refine iteF ?_
    -- kept
    refine ⟨t, _, ht, trivial, fun od2 => ⟨.ref t, rfl, t, od2, ks, rfl, upd_same, fun D hD => ?_⟩⟩
    have hDt : D ≠ t := fun e => by rw [e, upd_same] at hD; cases hD
    have hD0 : H D = none := by rw [upd_ne hDt] at hD; exact hD
    refine lc_it walk_nkeys (fun i H' => H' = upd (upd H t (.frz od2 (NdO P w t ks))) D (.lst (((ks.take i).filter fun e => decide (e.2.2 ≠ 0)).map fun e => V.ref e.2.1))) rfl (fun i H' _ e => by rw [e]; show upd _ D _ t = _; rw [upd_ne hDt.symm]; exact upd_same) ?_ ?_
    · rintro i x H1 H2 hi rfl ⟨rfl, e, hk, rfl⟩
      have hkm := List.mem_of_getElem? hk
      refine ⟨rfl, ?_⟩
      have k2 : Keep2 H (upd (upd H t (.frz od2 (NdO P w t ks))) D (.lst (((ks.take i).filter fun e => decide (e.2.2 ≠ 0)).map fun e => V.ref e.2.1))) := (keep2_upd ht).trans (keep2_new hD)
      have hND : ND P w (upd (upd H t (.frz od2 (NdO P w t ks))) D (.lst (((ks.take i).filter fun e => decide (e.2.2 ≠ 0)).map fun e => V.ref e.2.1))) t (strip ks) :=
        ⟨ks, .inr ⟨od2, by rw [upd_ne hDt.symm]; exact upd_same⟩, fun e he => (mk e he).keeps k2, rfl⟩
      refine ⟨_, rfl, _, rfl, t, e.2.1, e.1, strip ks, e.2.2, rfl, rfl, hND, (mk e hkm).keeps k2, valT_mem ndT (t := (e.1, e.2.2)) (List.mem_map.mpr ⟨e, hkm, rfl⟩), rfl, _, rfl, ?_⟩
      have tk : ((ks.take (i + 1)).filter fun e => decide (e.2.2 ≠ 0)) = ((ks.take i).filter fun e => decide (e.2.2 ≠ 0)) ++ (if e.2.2 ≠ 0 then [e] else []) := by
        rw [take_snoc hk, List.filter_append]
        congr 1
        by_cases c : e.2.2 = 0 <;> simp [c]
      by_cases c : e.2.2 = 0
      · rw [decide_eq_true (by rw [c] : V.int e.2.2 = V.int 0)]
        refine iteF ?_
        rw [tk, if_neg (by simpa using c), List.append_nil]
      · rw [decide_eq_false (fun z => c (V.int.inj z) : ¬ V.int e.2.2 = V.int 0)]
        refine iteT ⟨_, rfl, _, upd_same, ?_, ?_⟩
        · rw [List.length_map]
          have := List.length_filter_le (fun e : Ent => decide (e.2.2 ≠ 0)) (ks.take i)
          rw [List.length_take] at this
          exact small4000 (by omega)
        · rw [upd_upd, tk, if_pos c, List.map_append]
          rfl
    rintro H1 rfl
    rw [List.take_length]
    refine ⟨by rw [upd_ne hDt.symm]; exact upd_same, ?_⟩
    rw [upd_comm hDt, upd_back ht]
    generalize hkl : (ks.filter fun e => decide (e.2.2 ≠ 0)) = kl
    have hkl_sub : ∀ e ∈ kl, e ∈ ks ∧ e.2.2 ≠ 0 := fun e he => by
      rw [← hkl] at he
      have := List.mem_filter.mp he
      exact ⟨this.1, by simpa using this.2⟩
    have sD := same_upd (o := HO.lst (kl.map fun e => V.ref e.2.1)) hD0
    have ndkl : ((kl.map fun e => (e.1, e.2.1)).map (·.1)).Nodup := by
      rw [List.map_map, ← hkl]
      exact (List.filter_sublist.map _).nodup ndk
    refine ⟨D, kl.map fun e => (e.1, e.2.1), rfl, SqL.of (by rw [upd_same, List.map_map]; rfl), fun e he => ?_, ndkl, fun out L pm srt hL => ?_⟩
    · obtain ⟨e', he', rfl⟩ := List.mem_map.mp he
      exact (mk e' (hkl_sub e' he').1).same sD
    have hout : ∀ e ∈ out, ∃ e' ∈ kl, e'.1 = e.1 ∧ e'.2.1 = e.2 := fun e he => by
      obtain ⟨e', he', rfl⟩ := List.mem_map.mp (pm.mem_iff.mp he)
      exact ⟨e', he', rfl, rfl⟩
    have lout : out.length ≤ ks.length := by
      rw [pm.length_eq, List.length_map, ← hkl]
      exact List.length_filter_le _ _
    have ndo : (out.map (·.1)).Nodup := by
      have := (pm.map (·.1)).nodup_iff.mpr ndkl
      exact this
    have hL0 : H L = none := sD.free hL
    have sL : Same H (upd (upd H D (.lst (kl.map fun e => V.ref e.2.1))) L (.lst (out.map fun e => V.ref e.2))) := sD.later hL0
    have hLL := upd_same (H := upd H D (.lst (kl.map fun e => V.ref e.2.1))) (a := L) (o := HO.lst (out.map fun e => V.ref e.2))
    generalize upd (upd H D (.lst (kl.map fun e => V.ref e.2.1))) L (.lst (out.map fun e => V.ref e.2)) = HL at sL hLL ⊢
    -- the new terms
    refine ⟨.ref L, rfl, L, rfl, ⟨_, SqL.of hLL⟩, fun D2 hD2 => ?_⟩
    have hD20 : H D2 = none := sL.free hD2
    have hD2t : t ≠ D2 := ne_of_none (sL _ _ ht) hD2
    refine dcN_it (walk_list (K := K) (a := L) (xs := out.map fun e => V.ref e.2)) (fun i H' => NDW P w H' D2 ((out.take i).map fun e => (e.1, (valT (strip ks) e.1).getD 0 / (g : Int))) ∧ SameX D2 HL H') ⟨⟨[], upd_same, (fun e h => nomatch h), rfl⟩, fun b o n e => by rw [upd_ne n]; exact e⟩ (fun i H' _ h => SqL.of (h.2 _ _ (ne_of_none hLL hD2) hLL)) ?_ ?_
    · rintro i x H1 H2 hi ⟨hN, sx⟩ ⟨rfl, hx⟩
      rw [List.length_map] at hi
      rw [List.getElem?_map, List.getElem?_eq_getElem hi] at hx
      obtain rfl := Option.some.inj hx
      obtain ⟨e', he', k1, k2⟩ := hout _ (List.getElem_mem hi)
      obtain ⟨hks, hnz⟩ := hkl_sub e' he'
      have keep : Keep2 H H2 := ⟨fun b xs e => sx _ _ (ne_of_none (sL _ _ e) hD2) (sL _ _ e), fun b o u e => sx _ _ (ne_of_none (sL _ _ e) hD2) (sL _ _ e)⟩
      have hND : ND P w H2 t (strip ks) := ⟨ks, .inl (sx _ _ hD2t (sL _ _ ht)), fun e he => (mk e he).keeps keep, rfl⟩
      have hv : valT (strip ks) out[i].1 = some e'.2.2 := by
        rw [← k1]
        exact valT_mem ndT (t := (e'.1, e'.2.2)) (List.mem_map.mpr ⟨e', hks, rfl⟩)
      have hmo : MoK H2 out[i].1 out[i].2 := by
        rw [← k1, ← k2]
        exact (mk e' hks).keeps keep
      refine ⟨rfl, ?_⟩
      unfold tYes
      refine iteT ⟨_, rfl, _, rfl, _, rfl, t, _, _, _, _, rfl, rfl, hND, hmo, hv, _, rfl, _, _, rfl, rfl, ?_, ?_⟩
      · exact wide_div (by omega) (b := bb) (by rw [Int.natAbs_natCast]; omega) b0 b9
      refine ⟨_, _, _, _, rfl, rfl, hN, ?_, hmo, fun H6 n6 => ?_⟩
      · rw [List.length_map, List.length_take]
        exact small4000 (by omega)
      · obtain ⟨n1, ks6, e6⟩ := n6
        have hnew : out[i].1 ∉ ((out.take i).map fun e => (e.1, (valT (strip ks) e.1).getD 0 / (g : Int))).map (·.1) := by
          rw [List.map_map]
          intro z
          have z' : out[i].1 ∈ (out.take i).map (·.1) := z
          have h1 := ndo
          rw [← List.take_append_drop i out, List.map_append] at h1
          exact (List.nodup_append.mp h1).2.2 _ z' _ (by rw [List.drop_eq_getElem_cons hi]; exact List.mem_cons_self) rfl
        rw [putT_new hnew] at n1
        refine ⟨?_, ?_⟩
        · rw [take_snoc (List.getElem?_eq_getElem hi), List.map_append]
          show NDW P w H6 D2 (_ ++ [(out[i].1, (valT (strip ks) out[i].1).getD 0 / (g : Int))])
          rw [hv]
          exact n1
        · rw [e6]
          intro b o nb e
          rw [upd_ne nb]
          exact sx _ _ nb e
    rintro H3 ⟨hN, sx⟩
    rw [List.length_map, List.take_length] at hN
    have sH3 : Same H H3 := fun b o e => sx _ _ (ne_of_none (sL _ _ e) hD2) (sL _ _ e)
    have hp3 := sH3 _ _ hp
    have hpD2 : D2 ≠ p := (ne_of_none (sL _ _ hp) hD2).symm
    -- the fields
    refine ⟨_, rfl, p, C, dx, [], rfl, hp3, X.cl, X.nT, by decide, ?_⟩
    refine ⟨_, rfl, _, rfl, _, _, rfl, rfl, wide_div (by omega) (b := bb) (by rw [Int.natAbs_natCast]; omega) b0 b9, ?_⟩
    refine ⟨_, rfl, p, C, dx, _, rfl, upd_same, X.cl, X.nB, by show 1 < 1000; decide, ?_⟩
    obtain ⟨kp, kc⟩ := can_norm (lt := mlt) (T := strip ks) (R := out.map fun e => (e.1, (valT (strip ks) e.1).getD 0)) (d := d) hd good ndT (by
      rw [List.pairwise_map]
      exact srt) (by
      have h1 : ((out.map (·.1)).map fun m => (m, (valT (strip ks) m).getD 0)).Perm ((strip ks).filter fun t => decide (t.2 ≠ 0)) := kept_perm ndT (by
        have h2 := pm.map (·.1)
        have h3 : (kl.map fun e => (e.1, e.2.1)).map (·.1) = ((strip ks).filter fun t => decide (t.2 ≠ 0)).map (·.1) := by
          rw [← hkl]
          unfold strip
          rw [List.filter_map, List.map_map, List.map_map]
          rfl
        rw [h3] at h2
        exact h2)
      rw [List.map_map] at h1
      exact h1)
    rw [hg, List.map_map] at kp kc
    have eR : ((fun t : Mo × Int => (t.1, t.2 / (g : Int))) ∘ fun e : Mo × Addr => (e.1, (valT (strip ks) e.1).getD 0)) = fun e => (e.1, (valT (strip ks) e.1).getD 0 / (g : Int)) := rfl
    rw [eR] at kp kc
    refine q _ ⟨_, _⟩ (fun b o e n => ?_) ⟨dx, D2, upd_same, ?_⟩ ⟨kp, kc, fun s hs => ?_, ?_, ?_⟩ fun t' ht' => by
      obtain ⟨C', dx', fs', e, l⟩ := ht'
      rw [upd_same] at e
      cases e
      have l' := (pflds_t D2 (d / (g : Int))).symm.trans l
      cases l'
      exact hD20
    · rw [upd_ne n, upd_ne n]
      exact sH3 _ _ e
    · exact hN.at' (by rw [upd_ne hpD2, upd_ne hpD2]) ((keep2_ins hp3).trans (keep2_ins upd_same))
    · obtain ⟨e, he, rfl⟩ := List.mem_map.mp hs
      obtain ⟨e', he', k1, k2⟩ := hout _ he
      obtain ⟨hks, _⟩ := hkl_sub e' he'
      have hv : valT (strip ks) e.1 = some e'.2.2 := by
        rw [← k1]
        exact valT_mem ndT (t := (e'.1, e'.2.2)) (List.mem_map.mpr ⟨e', hks, rfl⟩)
      refine ⟨(e'.1, e'.2.2), List.mem_map.mpr ⟨e', hks, rfl⟩, k1, ?_⟩
      show ((valT (strip ks) e.1).getD 0 / (g : Int)).natAbs ≤ e'.2.2.natAbs
      rw [hv]
      exact Int.natAbs_ediv_le_natAbs _ _
    · show (out.map _).length ≤ _
      rw [List.length_map]
      omega
    · show d / (g : Int) ≤ d
      exact Int.ediv_le_self _ (by omega)
end
end Po
namespace Po
open PySem PySem.Spec L2 Lo PyProof.Rows
abbrev sPConst : Stmt := inClass sPoly 1
abbrev sPOf : Stmt := inClass sPoly 2
section
variable {X : Cx} {CX : CXT} {k i : Nat} {f C : Addr} {fd : FuncData} {ps : List Str} {ds : List Value} {dvs : List V} {sp : Sp} {E : XK} {x : Str} {e : Expr} {es : List Expr} {t : TA} {p pos : Pos}
/-- f(e, ..), f a local name that holds the class at C -/
def tMakeV (i : Nat) (C : Addr) (sp : Sp) (dvs : List V) (E : XK) (t : TA) : TE := fun σ H Q => σ[i]? = some (some (.ref C)) ∧ tMake C sp dvs E t σ H Q
theorem pe_makeV (M : Mk X.K C f) (F : FnOk X.prog X.w X.K X.mg X.base CX k f fd ps sp) (hr : Room (k + 1) X.A) (hb : Binds X.K fd ps ds) (hd : Vals dvs ds) (hx : Passes CX X E) (hN : X.N[i]? = some x) (hv : Vis X.env.scope x) (ha : PA X (e :: es) t)
    (hdb : (x == ("__debug__" : Str)) = false := by decide) (hcd : (x == ("__classdict__" : Str)) = false := by decide)
    (he : starEach (e :: es) X.env = (false, eval e X.env) :: starEach es X.env := by rfl) (hpl : (backTo pos (starEach es X.env)).any (·.1) = false := by rfl) : PE X (.Call (.Name x p) (e :: es) [] pos) (tMakeV i C sp dvs E t) := by
  refine ⟨fun pins s σ H Q I ⟨hs, h⟩ => ?_⟩
  refine wpAny_Call_Name_kw (thn ((pe_var (pos := p) (i := i) hN hv hdb hcd).run pins s σ H (fun v H1 => v = .ref C ∧ H1 = H) I ⟨.ref C, hs, rfl, rfl⟩) fun u s1 ⟨v, H1, I1, r1, ev, eH⟩ => ?_)
  subst ev
  rw [eH] at I1
  cases r1
  refine PySem.W.callWith_K (h₀ := X.base) I.ok.mod.kin M.kp (thn (ha.run pos pins s1 σ H _ I1 h) fun us s2 ⟨vs, H2, I2, r, q⟩ => ⟨I2.kIn, ?_⟩) he hpl
  exact run_make M F hr hb hd hx I2 r q
end
structure Fits (ns : List Str) (n b D : Nat) (A : Pol) : Prop where
  can : Can mlt A.T A.d
  len : A.T.length ≤ n
  cof : ∀ t ∈ A.T, t.2.natAbs < 2 ^ b
  den : A.d.natAbs < 2 ^ b
  mon : ∀ t ∈ A.T, degM t.1 ≤ D ∧ ∀ p ∈ t.1, p.1 ∈ ns
def val (u : Str → Int) (A : Pol) : Rat := (ev u A.T : Rat) / (A.d : Rat)
theorem Fits.mono {ns : List Str} {n b D n' b' D' : Nat} {A : Pol} (f : Fits ns n b D A) (h1 : n ≤ n') (h2 : b ≤ b') (h3 : D ≤ D') : Fits ns n' b' D' A where
  can := f.can
  len := Nat.le_trans f.len h1
  cof := fun t ht => Nat.lt_of_lt_of_le (f.cof t ht) (Nat.pow_le_pow_right (by decide) h2)
  den := Nat.lt_of_lt_of_le f.den (Nat.pow_le_pow_right (by decide) h2)
  mon := fun t ht => ⟨Nat.le_trans (f.mon t ht).1 h3, (f.mon t ht).2⟩
theorem rat_ne {d : Int} (h : 0 < d) : (d : Rat) ≠ 0 := fun z => by
  have : d = 0 := Rat.intCast_eq_zero_iff.mp z
  omega
theorem rat_cross {a b c d : Int} (hb : 0 < b) (hd : 0 < d) : (a : Rat) / b = (c : Rat) / d ↔ a * d = c * b := by
  have nb := rat_ne hb
  have nd := rat_ne hd
  constructor
  · intro h
    have : ((a * d : Int) : Rat) = ((c * b : Int) : Rat) := by
      rw [Rat.intCast_mul, Rat.intCast_mul]
      generalize (a : Rat) = A at *
      generalize (b : Rat) = B at *
      generalize (c : Rat) = C at *
      generalize (d : Rat) = D at *
      grind
    exact Rat.intCast_inj.mp this
  · intro h
    have : (a : Rat) * d = (c : Rat) * b := by
      rw [← Rat.intCast_mul, ← Rat.intCast_mul, h]
    generalize (a : Rat) = A at *
    generalize (b : Rat) = B at *
    generalize (c : Rat) = C at *
    generalize (d : Rat) = D at *
    grind
theorem NormOf.val {T : List (Mo × Int)} {d : Int} {A : Pol} (h : NormOf T d A) (hd : 0 < d) (u : Str → Int) : val u A = (Po.ev u T : Rat) / (d : Rat) := by
  unfold Po.val
  exact (rat_cross h.can.pos hd).mpr (h.ev u)
theorem NormOf.fits {T : List (Mo × Int)} {d : Int} {A : Pol} (h : NormOf T d A) {ns : List Str} {n b D : Nat} (hl : T.length ≤ n) (hc : ∀ t ∈ T, t.2.natAbs < 2 ^ b) (hd : 0 < d) (hb : d.natAbs < 2 ^ b) (hm : ∀ t ∈ T, degM t.1 ≤ D ∧ ∀ p ∈ t.1, p.1 ∈ ns) : Fits ns n b D A where
  can := h.can
  len := Nat.le_trans h.len hl
  cof := fun t ht => by
    obtain ⟨s, hs, _, e⟩ := h.sub t ht
    exact Nat.lt_of_le_of_lt e (hc s hs)
  den := by
    have := h.den
    have := h.can.pos
    omega
  mon := fun t ht => by
    obtain ⟨s, hs, e, _⟩ := h.sub t ht
    rw [← e]
    exact hm s hs
/-- two of the one form with the same values -/
theorem pol_one {A B : Pol} (a : Can mlt A.T A.d) (b : Can mlt B.T B.d) (h : ∀ u, val u A = val u B) : A = B := by
  obtain ⟨T, d⟩ := A
  obtain ⟨S, e⟩ := B
  obtain ⟨h1, h2⟩ := Can.one mlt_ord a b fun u => by
    have := h u
    unfold val at this
    exact (rat_cross a.pos b.pos).mp this
  have h1' : T = S := h1
  have h2' : d = e := h2
  rw [h1', h2']
theorem len_one {A : Pol} (c : Can mlt A.T A.d) {m : Mo} (h : ∀ t ∈ A.T, t.1 = m) : A.T.length ≤ 1 := by
  have nd := c.nodup mlt_ord
  obtain ⟨T, d⟩ := A
  cases T with
  | nil => exact Nat.zero_le _
  | cons a T =>
    cases T with
    | nil => exact Nat.le_refl _
    | cons b T =>
      have h1 := h a List.mem_cons_self
      have h2 := h b (List.mem_cons_of_mem _ List.mem_cons_self)
      rw [List.map_cons, List.map_cons, List.nodup_cons] at nd
      exact absurd (by rw [h1, h2]; exact List.mem_cons_self) nd.1
section
variable {P : Program} {w : World} {K : PySem.W.Frag} {mg : Str → Option Value} {base : Heap}
/-- what a new polynomial asks, and gives -/
theorem make_poly {C : Addr} {H : Hp} {t : Addr} {d : Int} {T : List (Mo × Int)} {b : Nat} {Q : VK} {E : XK} (hT : NDW P w H t T) (nd : (T.map (·.1)).Nodup) (good : ∀ s ∈ T, Good s.1) (hd : 0 < d) (hb : d.natAbs < 2 ^ b) (b0 : 0 < b) (b9 : b ≤ 9000) (few : T.length ≤ 4000)
    (q : ∀ H' p A, Same H H' → FrP H H' p → PolyAt P w C H' p A → NormOf T d A → Q (.ref p) H') :
    ∀ x dx, H x = none → H dx = none → dx ≠ x → spPInit P w C (.ref x :: ([.ref t, .int d] ++ [])) (upd (upd H dx (.own x)) x (.ins C dx [])) (fun v H2 => v = .non ∧ Q (.ref x) H2) E := by
  intro x dx hx hdx ne
  have hx2 : upd H dx (.own x) x = none := by
    rw [upd_ne ne.symm]
    exact hx
  have s1 : Same H (upd (upd H dx (.own x)) x (.ins C dx [])) := (same_upd hdx).trans (same_upd hx2)
  refine ⟨x, t, dx, d, T, b, rfl, upd_same, hT.same s1, nd, good, hd, hb, b0, b9, few, fun H' A keep hA hN fr => ⟨rfl, q H' x A (fun b o e => keep b o (s1 _ _ e) (ne_of_none e hx)) ⟨hx, fun t h => s1.free (fr t h)⟩ hA hN⟩⟩
/-! ### Poly.constant, Poly.of -/
def spConst (P : Program) (w : World) (C : Addr) : Sp := fun vs H Q _ => ∃ (a d : Int) (b : Nat), vs = [.ref C, .int a, .int d] ∧ 0 < d ∧ a.natAbs < 2 ^ b ∧ d.natAbs < 2 ^ b ∧ 0 < b ∧ b ≤ 9000 ∧
  ∀ H' p A, Same H H' → FrP H H' p → PolyAt P w C H' p A → (∀ ns, Fits ns 1 b 0 A) → (∀ u, val u A = (a : Rat) / d) → Q (.ref p) H'
theorem scPConst : FnScope ["cls", "above", "below"] ["cls", "above", "below"] (defScope sPConst) := ⟨rfl, rfl, rfl, by decide +kernel, rfl, by decide +kernel, by decide +kernel⟩
theorem same_disp {H H' : Hp} {p : Addr} {m : Mo} {c : Int} {T : List (Mo × Int)} (h : NPut P w H p m c T H') {H0 : Hp} (s : Same H0 H) (n : H0 p = none) : Same H0 H' := by
  obtain ⟨_, ks, e⟩ := h
  rw [e]
  exact s.later n
theorem ok_pconst {f C fI : Addr} {fd fdI : FuncData} {dvs : List V} (F : FunD K "constant" "Poly.constant" (defArgs sPConst) (defBody sPConst) (defScope sPConst) dvs [] f fd) (X : PTxt K mg C fI)
    (GI : FnOk P w K mg base CX0 1 fI fdI ["self", "terms", "below"] (spPInit P w C)) (bI : Binds K fdI ["self", "terms", "below"] []) : FnOk P w K mg base CX0 3 f fd ["cls", "above", "below"] (spConst P w C) := by
  refine F.ok scPConst (fun vs H Q E h => ?_) (fun cdv A outer s H vs Q E hr h => ?_)
  · obtain ⟨a, d, b, rfl, _⟩ := h
    rfl
  · obtain ⟨a, d, b, rfl, hd, ha, hb, b0, b9, q⟩ := h
    have nd := scPConst.nd
    have hu9 : (A.deeper (PyProof.Rows.envOfC (Str.ofString "Poly.constant") (defScope sPConst) s.heap.objs.size f cdv)).units + 9 < cLine := by have := hr.units; omega
    have body : PSs (cxOf CX0 P w K mg base ["cls", "above", "below"] "Poly.constant" (defScope sPConst) f cdv A outer s H E).nox (defBody sPConst) _ :=
      pss_one (ps_ret (pe_makeV (i := 0) X.make GI hr bI .nil pass0 rfl (.inl rfl) (pa_cons (pe_ndisp hu9 (pps_cons (pe_tupF pa_nil) (pv 1) pps_nil) rfl rfl (by simp) (by decide)) (pa_cons (pv 2) pa_nil))))
    refine ⟨_, body.nox, ?_⟩
    refine ⟨rfl, fun t ht => ⟨by decide, fun qa ob hqa hob => ⟨_, rfl, ?_⟩⟩⟩
    have s1 := same_upd (o := NdO P w t []) ht
    have s2 := same_upd (o := HO.frz ob (.tup [])) hqa
    have hqa0 : t ≠ qa := ne_of_none upd_same hqa
    have n0 : NDW P w (upd (upd H t (NdO P w t [])) qa (.frz ob (.tup []))) t [] := ⟨[], by rw [upd_ne hqa0]; exact upd_same, (fun e h => nomatch h), rfl⟩
    have m0 : MoK (upd (upd H t (NdO P w t [])) qa (.frz ob (.tup []))) [] qa := ⟨[], ob, upd_same, hob, .nil⟩
    refine ⟨n0, qa, [], a, rfl, m0, by decide, fun H' np => ⟨_, rfl, ?_⟩⟩
    have s3 : Same H H' := same_disp np (s1.trans s2) ht
    obtain ⟨nw, _⟩ := np
    have e1 : putT [] ([] : Mo) a = [([], a)] := rfl
    rw [e1] at nw
    refine make_poly nw (by simp) (fun s hs => by rw [List.mem_singleton.mp hs]; exact Good.nil) hd hb b0 b9 (by show 1 ≤ 4000; decide) fun H2 p A s4 np hA hN => ?_
    refine q H2 p A (s3.trans s4) (np.back s3) hA (fun ns => hN.fits (by simp) (fun s hs => by rw [List.mem_singleton.mp hs]; exact ha) hd hb (fun s hs => by rw [List.mem_singleton.mp hs]; exact ⟨Nat.le_refl _, fun e h => nomatch h⟩)) fun u => ?_
    rw [hN.val hd u]
    congr 2
    show a * 1 + 0 = a
    omega
/-! ### Poly.of -/
def spOf (P : Program) (w : World) (C : Addr) : Sp := fun vs H Q _ => ∃ (x : Str) (k : Int) (b : Nat), vs = [.ref C, .str x, .int k] ∧ k.natAbs < 2 ^ b ∧ 1 < b ∧ b ≤ 9000 ∧
  ∀ H' p A, Same H H' → FrP H H' p → PolyAt P w C H' p A → (∀ ns, x ∈ ns → Fits ns (if k = 0 then 1 else 2) b 1 A) → (x = "0" → ∀ ns, Fits ns 1 b 0 A) → (∀ u, val u A = ((if x = "0" then k else u x + k : Int) : Rat)) → Q (.ref p) H'
theorem scPOf : FnScope ["cls", "name", "shift"] ["cls", "name", "shift"] (defScope sPOf) := ⟨rfl, rfl, rfl, by decide +kernel, rfl, by decide +kernel, by decide +kernel⟩
theorem ok_pof {f C fI : Addr} {fd fdI : FuncData} {dvs : List V} (F : FunD K "of" "Poly.of" (defArgs sPOf) (defBody sPOf) (defScope sPOf) dvs [] f fd) (X : PTxt K mg C fI)
    (GI : FnOk P w K mg base CX0 1 fI fdI ["self", "terms", "below"] (spPInit P w C)) (bI : Binds K fdI ["self", "terms", "below"] []) : FnOk P w K mg base CX0 3 f fd ["cls", "name", "shift"] (spOf P w C) := by
  refine F.ok scPOf (fun vs H Q E h => ?_) (fun cdv A outer s H vs Q E hr h => ?_)
  · obtain ⟨x, k, b, rfl, _⟩ := h
    rfl
  · obtain ⟨x, k, b, rfl, ha, b1, b9, q⟩ := h
    have nd := scPOf.nd
    have hu9 : (A.deeper (PyProof.Rows.envOfC (Str.ofString "Poly.of") (defScope sPOf) s.heap.objs.size f cdv)).units + 9 < cLine := by have := hr.units; omega
    have body : PSs (cxOf CX0 P w K mg base ["cls", "name", "shift"] "Poly.of" (defScope sPOf) f cdv A outer s H E).nox (defBody sPOf) _ :=
      pss_cons (ps_if (pt_cmpR op_eq (pv 1) pe_str (nomark _)) (pss_one (ps_ret (pe_makeV (i := 0) X.make GI hr bI .nil pass0 rfl (.inl rfl) (pa_cons (pe_ndisp hu9 (pps_cons (pe_tupF pa_nil) (pv 2) pps_nil) rfl rfl (by simp) (by decide)) (pa_cons pe_int pa_nil))))) pss_nil)
      (pss_one (ps_ret (pe_makeV (i := 0) X.make GI hr bI .nil pass0 rfl (.inl rfl) (pa_cons (pe_ndisp hu9 (pps_cons (pe_tupF pa_nil) (pv 2) (pps_cons (pe_tupF (pa_cons (pe_tup (pa_cons (pv 1) (pa_cons pe_int pa_nil))) pa_nil)) pe_int pps_nil)) rfl rfl (by simp) (by decide)) (pa_cons pe_int pa_nil)))))
    refine ⟨_, body.nox, ?_⟩
    have one2 : (1 : Int).natAbs < 2 ^ b := by
      have : 2 ^ 1 < 2 ^ b := Nat.pow_lt_pow_right (by decide) b1
      show 1 < 2 ^ b
      omega
    have go : ∀ {t qa : Addr} {ob : Obj}, H t = none → upd H t (NdO P w t []) qa = none → ob.dict = none → True := fun _ _ _ => trivial
    refine ⟨_, rfl, rfl, _, rfl, ite2 (fun e => ?_) (fun e => ?_)⟩
    · have ex : x = "0" := by
        have := of_decide_eq_true e
        injection this
      subst ex
      refine ⟨rfl, fun t ht => ⟨by decide, fun qa ob hqa hob => ⟨_, rfl, ?_⟩⟩⟩
      have s1 := same_upd (o := NdO P w t []) ht
      have s2 := same_upd (o := HO.frz ob (.tup [])) hqa
      have hqa0 : t ≠ qa := ne_of_none upd_same hqa
      have n0 : NDW P w (upd (upd H t (NdO P w t [])) qa (.frz ob (.tup []))) t [] := ⟨[], by rw [upd_ne hqa0]; exact upd_same, (fun e h => nomatch h), rfl⟩
      have m0 : MoK (upd (upd H t (NdO P w t [])) qa (.frz ob (.tup []))) [] qa := ⟨[], ob, upd_same, hob, .nil⟩
      refine ⟨n0, qa, [], k, rfl, m0, by decide, fun H' np => ?_⟩
      have s3 : Same H H' := same_disp np (s1.trans s2) ht
      obtain ⟨nw, _⟩ := np
      have e1 : putT [] ([] : Mo) k = [([], k)] := rfl
      rw [e1] at nw
      refine make_poly (d := 1) (b := b) nw (by simp) (fun s hs => by rw [List.mem_singleton.mp hs]; exact Good.nil) (by decide) one2 (by omega) b9 (by show 1 ≤ 4000; decide) fun H2 p A s4 np hA hN => ?_
      have fit : ∀ ns, Fits ns 1 b 0 A := fun ns => hN.fits (by simp) (fun s hs => by rw [List.mem_singleton.mp hs]; exact ha) (by decide) one2 (fun s hs => by rw [List.mem_singleton.mp hs]; exact ⟨Nat.le_refl _, fun e h => nomatch h⟩)
      refine q H2 p A (s3.trans s4) (np.back s3) hA (fun ns _ => (fit ns).mono (by by_cases h : k = 0 <;> simp [h]) (Nat.le_refl _) (by decide)) (fun _ => fit) fun u => ?_
      rw [hN.val (by decide) u, if_pos rfl]
      show ((k * 1 + 0 : Int) : Rat) / ((1 : Int) : Rat) = (k : Rat)
      rw [show k * 1 + 0 = k by omega]
      have : ((1 : Int) : Rat) = 1 := rfl
      rw [this]
      grind
    · have ex : ¬ x = "0" := fun z => by
        rw [z] at e
        simp at e
      refine ⟨rfl, fun t ht => ⟨by decide, fun qa ob hqa hob => ⟨_, rfl, _, rfl, by show 2 ≤ sizeLine; decide, fun tp htp => ⟨by show 1 ≤ sizeLine; decide, fun qb ob2 hqb hob2 => ?_⟩⟩⟩⟩
      have s1 := same_upd (o := NdO P w t []) ht
      have s2 := same_upd (o := HO.frz ob (.tup [])) hqa
      have s3 := same_upd (o := HO.tup [.str x, .int 1]) htp
      have s4 := same_upd (o := HO.frz ob2 (.tup [.ref tp])) hqb
      have s14 := ((s1.trans s2).trans s3).trans s4
      have st := ((s2.trans s3).trans s4) _ _ (upd_same (H := H) (a := t) (o := NdO P w t []))
      have m1 := ((s3.trans s4) _ _ (upd_same (H := upd H t (NdO P w t [])) (a := qa) (o := HO.frz ob (.tup []))))
      have m2 := s4 _ _ (upd_same (H := upd (upd H t (NdO P w t [])) qa (.frz ob (.tup []))) (a := tp) (o := HO.tup [.str x, .int 1]))
      have m3 := upd_same (H := upd (upd (upd H t (NdO P w t [])) qa (.frz ob (.tup []))) tp (.tup [.str x, .int 1])) (a := qb) (o := HO.frz ob2 (.tup [.ref tp]))
      have n0 : NDW P w (upd (upd (upd (upd H t (NdO P w t [])) qa (.frz ob (.tup []))) tp (.tup [.str x, .int 1])) qb (.frz ob2 (.tup [.ref tp]))) t [] := ⟨[], st, (fun e h => nomatch h), rfl⟩
      refine ⟨n0, qa, [], k, rfl, ⟨[], ob, m1, hob, .nil⟩, by decide, fun H5 np => ?_⟩
      obtain ⟨nw, ks5, e5⟩ := id np
      have k5 : Keep2 (upd (upd (upd (upd H t (NdO P w t [])) qa (.frz ob (.tup []))) tp (.tup [.str x, .int 1])) qb (.frz ob2 (.tup [.ref tp]))) H5 := by
        rw [e5]
        exact keep2_upd st
      have s5 : Same H H5 := same_disp np s14 ht
      refine ⟨qb, [(x, 1)], 1, rfl, ⟨[tp], ob2, k5.f _ _ _ m3, hob2, .cons (k5.t _ _ m2) .nil⟩, by show 1 < sizeLine; decide, fun H6 np6 => ?_⟩
      have s6 : Same H H6 := same_disp np6 s5 ht
      obtain ⟨nw6, _⟩ := np6
      have e1 : putT (putT [] ([] : Mo) k) [(x, 1)] 1 = [([], k), ([(x, 1)], 1)] := rfl
      rw [e1] at nw6
      have g2 : ∀ s ∈ ([([], k), ([(x, 1)], 1)] : List (Mo × Int)), Good s.1 := fun s hs => by
        rcases List.mem_cons.mp hs with z | z
        · rw [z]; exact Good.nil
        · rw [List.mem_singleton.mp z]; exact Good.one (by decide)
      refine make_poly (d := 1) (b := b) nw6 (by simp) g2 (by decide) one2 (by omega) b9 (by show 2 ≤ 4000; decide) fun H2 p A s7 np hA hN => ?_
      have fit2 : ∀ ns, x ∈ ns → Fits ns 2 b 1 A := by
        intro ns hx
        refine hN.fits (by simp) (fun s hs => ?_) (by decide) one2 (fun s hs => ?_)
        · rcases List.mem_cons.mp hs with z | z
          · rw [z]; exact ha
          · rw [List.mem_singleton.mp z]; exact one2
        · rcases List.mem_cons.mp hs with z | z
          · rw [z]; exact ⟨Nat.zero_le _, fun e h => nomatch h⟩
          · rw [List.mem_singleton.mp z]
            exact ⟨by show (1 : Int).toNat + 0 ≤ 1; decide, fun e h => by rw [List.mem_singleton.mp h]; exact hx⟩
      refine q H2 p A (s6.trans s7) (np.back s6) hA (fun ns hx => { fit2 ns hx with len := ?_ }) (fun z => absurd z ex) fun u => ?_
      · by_cases h : k = 0
        · rw [if_pos h]
          refine len_one hN.can (m := [(x, 1)]) fun t ht => ?_
          obtain ⟨s', hs', e1, e2⟩ := hN.sub t ht
          rcases List.mem_cons.mp hs' with z | z
          · have := hN.can.nz t ht
            rw [z] at e2
            have e2' : t.2.natAbs ≤ k.natAbs := e2
            omega
          · rw [List.mem_singleton.mp z] at e1
            exact e1.symm
        · rw [if_neg h]
          exact (fit2 ns hx).len
      · rw [hN.val (by decide) u, if_neg ex]
        show ((k * 1 + (1 * (u x ^ (1 : Int).toNat * 1) + 0) : Int) : Rat) / ((1 : Int) : Rat) = _
        have : k * 1 + (1 * (u x ^ (1 : Int).toNat * 1) + 0) = u x + k := by
          show k * 1 + (1 * (u x ^ 1 * 1) + 0) = u x + k
          have p1 : u x ^ 1 = u x := by rw [Int.pow_succ (u x) 0, Int.pow_zero, Int.one_mul]
          rw [p1]
          omega
        rw [this]
        have : ((1 : Int) : Rat) = 1 := rfl
        rw [this]
        generalize ((u x + k : Int) : Rat) = r
        grind
end
end Po
namespace Po
open PySem PySem.Spec L2 Lo PyProof.Rows
/-! ### adding to a monomial's number -/
def addT (T : List (Mo × Int)) (m : Mo) (c : Int) : List (Mo × Int) := putT T m ((valT T m).getD 0 + c)
structure Acc (ns : List Str) (n B D : Nat) (T : List (Mo × Int)) : Prop where
  nd : (T.map (·.1)).Nodup
  good : ∀ t ∈ T, Good t.1
  len : T.length ≤ n
  cof : ∀ t ∈ T, t.2.natAbs ≤ B
  mon : ∀ t ∈ T, degM t.1 ≤ D ∧ ∀ p ∈ t.1, p.1 ∈ ns
theorem Acc.nil {ns : List Str} {n B D : Nat} : Acc ns n B D [] := ⟨List.nodup_nil, (fun t h => nomatch h), Nat.zero_le _, (fun t h => nomatch h), (fun t h => nomatch h)⟩
theorem Acc.mono {ns : List Str} {n B D n' B' D' : Nat} {T : List (Mo × Int)} (a : Acc ns n B D T) (h1 : n ≤ n') (h2 : B ≤ B') (h3 : D ≤ D') : Acc ns n' B' D' T :=
  ⟨a.nd, a.good, Nat.le_trans a.len h1, fun t h => Nat.le_trans (a.cof t h) h2, fun t h => ⟨Nat.le_trans (a.mon t h).1 h3, (a.mon t h).2⟩⟩
theorem valT_some {T : List (Mo × Int)} {m : Mo} {c : Int} (h : valT T m = some c) : (m, c) ∈ T := by
  unfold valT at h
  obtain ⟨e, he, rfl⟩ := Option.map_eq_some_iff.mp h
  have h1 := List.find?_some he
  have h2 := List.mem_of_find?_eq_some he
  have : e.1 = m := by simpa using h1
  rw [← this]
  exact h2
theorem valT_no {T : List (Mo × Int)} {m : Mo} (h : valT T m = none) : m ∉ T.map (·.1) := by
  unfold valT at h
  rw [Option.map_eq_none_iff, List.find?_eq_none] at h
  intro z
  obtain ⟨e, he, rfl⟩ := List.mem_map.mp z
  exact h e he (by simp)
theorem ev_put (u : Str → Int) : ∀ {T : List (Mo × Int)} {m : Mo} {j c : Int}, (T.map (·.1)).Nodup → (m, j) ∈ T → ev u (T.map fun e => if e.1 = m then (e.1, j + c) else e) = ev u T + c * worth u m
  | [], _, _, _, _, h => nomatch h
  | p :: T, m, j, c, nd, h => by
    rw [List.map_cons, List.nodup_cons] at nd
    rw [List.map_cons]
    by_cases k : p.1 = m
    · have np : ∀ e ∈ T, e.1 ≠ m := fun e he z => nd.1 (List.mem_map.mpr ⟨e, he, z.trans k.symm⟩)
      have ep : p = (m, j) := by
        rcases List.mem_cons.mp h with z | z
        · exact z.symm
        · exact absurd rfl (np _ z)
      have es : (T.map fun e => if e.1 = m then (e.1, j + c) else e) = T := by
        conv => rhs; rw [← List.map_id T]
        refine List.map_congr_left fun e he => ?_
        rw [if_neg (np e he)]
        rfl
      rw [es, if_pos k, ep]
      show (j + c) * worth u m + ev u T = j * worth u m + ev u T + c * worth u m
      grind
    · have h' : (m, j) ∈ T := by
        rcases List.mem_cons.mp h with z | z
        · exact absurd (by rw [← z]) k
        · exact z
      rw [if_neg k]
      show p.2 * worth u p.1 + ev u (T.map _) = p.2 * worth u p.1 + ev u T + c * worth u m
      rw [ev_put u nd.2 h']
      omega
theorem ev_addT (u : Str → Int) {T : List (Mo × Int)} (nd : (T.map (·.1)).Nodup) (m : Mo) (c : Int) : ev u (addT T m c) = ev u T + c * worth u m := by
  unfold addT putT
  cases h : valT T m with
  | none =>
    rw [if_neg (by simp), ev_app]
    show ev u T + ((0 + c) * worth u m + 0) = _
    rw [Int.zero_add]
    omega
  | some j =>
    rw [if_pos (by simp)]
    exact ev_put u nd (valT_some h)
theorem Acc.add {ns : List Str} {n B D Y : Nat} {T : List (Mo × Int)} (a : Acc ns n B D T) {m : Mo} {c : Int} (g : Good m) (hD : degM m ≤ D) (hn : ∀ p ∈ m, p.1 ∈ ns) (hc : c.natAbs ≤ Y) : Acc ns (n + 1) (B + Y) D (addT T m c) := by
  unfold addT putT
  cases h : valT T m with
  | none =>
    have hm := valT_no h
    rw [if_neg (by simp)]
    refine ⟨?_, fun t ht => ?_, ?_, fun t ht => ?_, fun t ht => ?_⟩
    · rw [List.map_append]
      exact List.nodup_append.mpr ⟨a.nd, by simp, fun x hx b hb => by
        have : b = m := by simpa using hb
        rw [this]
        exact fun z => hm (z ▸ hx)⟩
    · rcases List.mem_append.mp ht with z | z
      · exact a.good t z
      · rw [List.mem_singleton.mp z]; exact g
    · rw [List.length_append]
      have := a.len
      show T.length + 1 ≤ n + 1
      omega
    · rcases List.mem_append.mp ht with z | z
      · have := a.cof t z
        omega
      · rw [List.mem_singleton.mp z]
        show (0 + c).natAbs ≤ B + Y
        omega
    · rcases List.mem_append.mp ht with z | z
      · exact a.mon t z
      · rw [List.mem_singleton.mp z]; exact ⟨hD, hn⟩
  | some j =>
    have hm := valT_some h
    have hj := a.cof _ hm
    rw [if_pos (by simp)]
    have e1 : (T.map fun e => if e.1 = m then (e.1, (some j).getD 0 + c) else e).map (·.1) = T.map (·.1) := by
      rw [List.map_map]
      refine List.map_congr_left fun e _ => ?_
      by_cases k : e.1 = m <;> simp [k]
    refine ⟨by rw [e1]; exact a.nd, fun t ht => ?_, ?_, fun t ht => ?_, fun t ht => ?_⟩
    · obtain ⟨e, he, rfl⟩ := List.mem_map.mp ht
      by_cases k : e.1 = m
      · rw [if_pos k]; exact a.good e he
      · rw [if_neg k]; exact a.good e he
    · rw [List.length_map]
      have := a.len
      omega
    · obtain ⟨e, he, rfl⟩ := List.mem_map.mp ht
      by_cases k : e.1 = m
      · rw [if_pos k]
        show (j + c).natAbs ≤ B + Y
        have : j.natAbs ≤ B := hj
        omega
      · rw [if_neg k]
        have := a.cof e he
        omega
    · obtain ⟨e, he, rfl⟩ := List.mem_map.mp ht
      by_cases k : e.1 = m
      · rw [if_pos k]; exact a.mon e he
      · rw [if_neg k]; exact a.mon e he
/-- the terms times a number -/
theorem Fits.acc {ns : List Str} {n b D : Nat} {A : Pol} (f : Fits ns n b D A) {c : Int} {b2 : Nat} (hc : c.natAbs ≤ 2 ^ b2) : Acc ns n (2 ^ (b + b2)) D (A.T.map fun t => (t.1, t.2 * c)) := by
  have e : (A.T.map fun t => (t.1, t.2 * c)).map (·.1) = A.T.map (·.1) := by rw [List.map_map]; rfl
  refine ⟨by rw [e]; exact f.can.nodup mlt_ord, fun t ht => ?_, by rw [List.length_map]; exact f.len, fun t ht => ?_, fun t ht => ?_⟩
  · obtain ⟨s, hs, rfl⟩ := List.mem_map.mp ht
    exact f.can.good s hs
  · obtain ⟨s, hs, rfl⟩ := List.mem_map.mp ht
    show (s.2 * c).natAbs ≤ _
    rw [Int.natAbs_mul, Nat.pow_add]
    exact Nat.mul_le_mul (Nat.le_of_lt (f.cof s hs)) hc
  · obtain ⟨s, hs, rfl⟩ := List.mem_map.mp ht
    exact f.mon s hs
theorem NormOf.fitsA {T : List (Mo × Int)} {d : Int} {A : Pol} (h : NormOf T d A) {ns : List Str} {n B b D : Nat} (a : Acc ns n B D T) (hd : 0 < d) (hB : B < 2 ^ b) (hb : d.natAbs < 2 ^ b) : Fits ns n b D A :=
  h.fits a.len (fun t ht => Nat.lt_of_le_of_lt (a.cof t ht) hB) hd hb a.mon
theorem mul_bits {a c : Int} {x y : Nat} (h : a.natAbs < 2 ^ x) (k : c.natAbs < 2 ^ y) : (a * c).natAbs ≤ 2 ^ (x + y) := by
  rw [Int.natAbs_mul, Nat.pow_add]
  exact Nat.mul_le_mul (Nat.le_of_lt h) (Nat.le_of_lt k)
theorem pow13 {k i : Nat} (h : i < 4096) : 2 ^ k + i * 2 ^ k < 2 ^ (k + 13) := by
  have e : 2 ^ (k + 13) = 8192 * 2 ^ k := by rw [Nat.pow_add, Nat.mul_comm]
  have p : 0 < 2 ^ k := Nat.two_pow_pos k
  have : (i + 1) * 2 ^ k ≤ 4096 * 2 ^ k := Nat.mul_le_mul_right _ (by omega)
  rw [Nat.add_mul] at this
  omega
theorem sum_frac {a b x y : Int} (hx : 0 < x) (hy : 0 < y) : ((a * y + b * x : Int) : Rat) / ((x * y : Int) : Rat) = (a : Rat) / x + (b : Rat) / y := by
  have nx := rat_ne hx
  have ny := rat_ne hy
  rw [Rat.intCast_add, Rat.intCast_mul, Rat.intCast_mul, Rat.intCast_mul]
  generalize (a : Rat) = A at *
  generalize (b : Rat) = B at *
  generalize (x : Rat) = C at *
  generalize (y : Rat) = D at *
  grind
theorem mul_frac {a b x y : Int} (hx : 0 < x) (hy : 0 < y) : ((a * b : Int) : Rat) / ((x * y : Int) : Rat) = (a : Rat) / x * ((b : Rat) / y) := by
  have nx := rat_ne hx
  have ny := rat_ne hy
  rw [Rat.intCast_mul, Rat.intCast_mul]
  generalize (a : Rat) = A at *
  generalize (b : Rat) = B at *
  generalize (x : Rat) = C at *
  generalize (y : Rat) = D at *
  grind
end Po
namespace Po
open PySem PySem.Spec L2 Lo PyProof.Rows
section
variable {X : Cx}
theorem pe_fldP {K : PySem.W.Frag} {e : Expr} {f : Str} {pos : Pos} {ta : TE} (hK : X.K = K) (he : PE X e ta) (hb : attributeBase e f X.env (eval e X.env) = eval e X.env) : PE X (.Attribute e f pos) (tFld K ta f) := by
  subst hK
  exact pe_fld he hb
theorem sw_dict {ke ve : Expr} {cs : List Comprehension} {sc : Scope} {p1 p2 : Pos} {y : Str} {n : Nat} {env : Env}
    (k1 : env.scope.kind = .function) (k2 : env.scope.names.lookup y = some .local)
    (k3 : (p2.line == p1.line) = true) (k4 : (sc.names.any fun (a, b) => a == y && (b == .local || b == .cell)) = false) :
    swapsWith (.DictComp ke ve cs sc p1) (some (.Name y p2)) n env = pure true := by
  have q1 : env.kindOf y = some .local := k2
  have q2 : env.blockKind = .function := by
    unfold Env.blockKind
    rw [k1]
    rfl
  unfold swapsWith
  simp only [q2, q1, k4, Expr.pos, k3]
  rfl
theorem ps_setDcN {i : Nat} {y : Str} {p2 : Pos} {ke ve tg it : Expr} {cond : List Expr} {sc : Scope}
    {own : List (Str × Nat)} {p1 p3 : Pos} {wi : TI} {g : TG} {tt : TT} {tk tv : TE}
    (hu : X.A.units + 9 < cLine) (calm : X.calm = true) (nd : X.N.Nodup) (slot : X.N[i]? = some y) (loc : X.env.scope.names.lookup y = some .local)
    (sw : swapsWith (.DictComp ke ve [⟨tg, it, cond, 0⟩] sc p1) (some (.Name y p2)) p3.line X.env = pure true)
    (walk : PI X tg it wi) (blk : BlkOk X.N X.env.scope sc own)
    (pg : ∀ s H C cl fp, PG (X.blk s H sc (compEnvC sc cl C X.env) fp) tg g)
    (pt : ∀ s H C cl fp, PTs (X.blk s H sc (compEnvC sc cl C X.env) fp) cond tt)
    (pk : ∀ s H C cl fp, PE (X.blk s H sc (compEnvC sc cl C X.env) fp) ke tk)
    (pv : ∀ s H C cl fp, PE (X.blk s H sc (compEnvC sc cl C X.env) fp) ve tv)
    (fold : ∀ x, foldedSetIterable it X.env x = pure x := by intro _; rfl) :
    PS X (.Assign [.Name y p2] (.DictComp ke ve [⟨tg, it, cond, 0⟩] sc p1) p3) (tAsg (tDcN X.prog X.w wi g tt tk tv (own.map (·.2))) (gName i)) := by
  constructor
  intro pins s σ H Ds I read
  rw [exec_Assign_Name_used _ _ _ _ sw]
  apply wpAny_bind
  apply wpAny_standAt
  apply wpAny_bind
  have read : tDcN X.prog X.w wi g tt tk tv (own.map (·.2)) σ H (fun x H1 => gName i x σ H1 Ds.nx) := read
  refine wpAny_bind (thn (dcN_core (use := some (assign (.Name y p2) X.env)) (Qf := fun _ s' => SP X pins Ds .next s') hu calm nd I walk blk pg pt pk pv fold read fun L C s' m H' J hq hn fp => ?_) fun _ s' last => wpAny_pure (wpAny_pure last))
  show wpAny _ _ (assign (.Name y p2) X.env (.ref L)) _ _ _
  apply wpAny_assign_Name
  refine store_ok2 (v := V.ref L) J nd slot (.inl loc) rfl (fun s2 J2 ⟨b, but, which⟩ => ?_) (.inr loc)
  obtain ⟨f0, f1, f2, f3, f4, f5⟩ := fp
  have apart : C ≠ b := by
    cases which with
    | inl w => exact w ▸ f1
    | inr w => exact fun same => f4 y b w same.symm
  refine ⟨m, hn.sameBut but apart, fun h3 but3 => ⟨_, H', ?_, hq⟩⟩
  exact J2.turned (t' := s2.toks) (fun c o hc e => (but3.2 c hc).trans e) f0 f1 f3 f4 f5
end
abbrev sAsPoly : Stmt := top 5
abbrev sSumOf : Stmt := top 6
abbrev sProductOf : Stmt := top 7
abbrev sPNeg : Stmt := inClass sPoly 4
section
variable {P : Program} {w : World} {K : PySem.W.Frag} {mg : Str → Option Value} {base : Heap}
theorem pfld_t {K : PySem.W.Frag} {mg : Str → Option Value} {C fI p dx t : Addr} {H : Hp} {d : Int} {Q : VK} (X : PTxt K mg C fI) (h : H p = some (.ins C dx (pflds t d))) (q : Q (.ref t) H) : ∃ a C' dx' fs v, V.ref p = .ref a ∧ H a = some (.ins C' dx' fs) ∧ Cls K C' ∧ NoAttr K C' "terms" ∧ fs.lookup ("terms" : Str) = some v ∧ Q v H :=
  ⟨p, C, dx, _, _, rfl, h, X.cl, X.nT, pflds_t _ _, q⟩
theorem pfld_b {K : PySem.W.Frag} {mg : Str → Option Value} {C fI p dx t : Addr} {H : Hp} {d : Int} {Q : VK} (X : PTxt K mg C fI) (h : H p = some (.ins C dx (pflds t d))) (q : Q (.int d) H) : ∃ a C' dx' fs v, V.ref p = .ref a ∧ H a = some (.ins C' dx' fs) ∧ Cls K C' ∧ NoAttr K C' "below" ∧ fs.lookup ("below" : Str) = some v ∧ Q v H :=
  ⟨p, C, dx, _, _, rfl, h, X.cl, X.nB, pflds_b _ _, q⟩
theorem out_take {T : List (Mo × Int)} (nd : (T.map (·.1)).Nodup) {i : Nat} {t : Mo × Int} (h : T[i]? = some t) : t.1 ∉ (T.take i).map (·.1) := by
  intro z
  obtain ⟨hi, rfl⟩ := List.getElem?_eq_some_iff.mp h
  have h1 := nd
  rw [← List.take_append_drop i T, List.map_append] at h1
  exact (List.nodup_append.mp h1).2.2 _ z _ (by rw [List.drop_eq_getElem_cons hi]; exact List.mem_cons_self) rfl
theorem sx_keep {t : Addr} {H H' : Hp} {o : HO} {φ : Heap → Prop} (e : H t = some (.ext φ)) (s : SameX t H H') : Keep2 H H' :=
  ⟨fun b ys h => s _ _ (ne_of h e (fun z => nomatch z)) h, fun b ob u h => s _ _ (ne_of h e (fun z => nomatch z)) h⟩
theorem ev_snoc (u : Str → Int) {T : List (Mo × Int)} {i : Nat} {t : Mo × Int} (h : T[i]? = some t) : ev u (T.take (i + 1)) = ev u (T.take i) + t.2 * worth u t.1 := by
  rw [take_snoc h, ev_app]
  show _ + (t.2 * worth u t.1 + 0) = _
  omega
/-! ### _sum_of -/
def spSum (P : Program) (w : World) (C : Addr) : Sp := fun vs H Q _ => ∃ (p q : Addr) (A B : Pol) (ns : List Str) (n1 b1 n2 b2 D : Nat), vs = [.ref p, .ref q] ∧ PolyAt P w C H p A ∧ PolyAt P w C H q B ∧ Fits ns n1 b1 D A ∧ Fits ns n2 b2 D B ∧ n1 + n2 ≤ 4000 ∧ b1 + b2 + 13 ≤ 9000 ∧
  ∀ H' r R, Same H H' → FrP H H' r → PolyAt P w C H' r R → Fits ns (n1 + n2) (b1 + b2 + 13) D R → (∀ u, val u R = val u A + val u B) → Q (.ref r) H'
abbrev nSumOf : List Str := ["one", "other", "found", "monomial", "many"]
theorem scSumOf : FnScope nSumOf ["one", "other"] (defScope sSumOf) := ⟨rfl, rfl, rfl, by decide +kernel, rfl, by decide +kernel, by decide +kernel⟩
theorem ok_sumof {f C fI : Addr} {fd fdI : FuncData} (F : Fun K "_sum_of" "_sum_of" sSumOf f fd) (X : PTxt K mg C fI)
    (GI : FnOk P w K mg base CX0 1 fI fdI ["self", "terms", "below"] (spPInit P w C)) (bI : Binds K fdI ["self", "terms", "below"] []) : FnOk P w K mg base CX0 3 f fd ["one", "other"] (spSum P w C) := by
  refine F.ok scSumOf (fun vs H Q E h => ?_) (fun cdv Ar outer s H vs Q E hr h => ?_)
  · obtain ⟨p, q, A, B, ns, n1, b1, n2, b2, D, rfl, _⟩ := h
    rfl
  · obtain ⟨p, q, A, B, ns, n1, b1, n2, b2, Dg, rfl, hA, hB, fA, fB, few, small, qq⟩ := h
    have nd := scSumOf.nd
    have hu9 : (Ar.deeper (PyProof.Rows.envOfC (Str.ofString "_sum_of") (defScope sSumOf) s.heap.objs.size f cdv)).units + 9 < cLine := by have := hr.units; omega
    refine ⟨_, pss_cons (ps_lock (ps_setDcN (i := 2) (own := [("monomial", 3), ("many", 4)]) (g := gTup K 2 (gCons (gName 3) (gCons (gName 4) gNil))) (tt := tYes) hu9 rfl nd rfl rfl (sw_dict rfl rfl rfl (by decide +kernel)) (pi_nitems (pe_fld (pv 0) rfl)) (blkOk_by (N := nSumOf) (sc := defScope sSumOf) (by decide +kernel))
          (fun _ _ _ _ _ => pg_tup rfl (pgs_cons (pg_name (i := 3) nd rfl (.inl rfl)) (pgs_cons (pg_name (i := 4) nd rfl (.inl rfl)) pgs_nil))) (fun _ _ _ _ _ => pts_nil) (fun _ _ _ _ _ => pv 3) (fun _ _ _ _ _ => pe_op op_mulW (pv 4) (pe_fldP (K := K) rfl (pv 1) rfl))))
      (pss_cons (ps_lock (ps_for PassesOwn.never rfl (pi_nitems (pe_fld (pv 1) rfl)) (pg_tup rfl (pgs_cons (pg_name (i := 3) nd rfl (.inl rfl)) (pgs_cons (pg_name (i := 4) nd rfl (.inl rfl)) pgs_nil)))
        (pss_one (ps_nput hu9 (pv 2) (pv 3) (pe_op op_add (pe_nget2 hu9 (pv 2) (pv 3) pe_int ⟨rfl, rfl, rfl, rfl⟩) (pe_op op_mulW (pv 4) (pe_fld (pv 0) rfl))) rfl))))
      (pss_one (ps_ret (pe_make X.make GI hr (by rfl) X.mg bI .nil pass0 (pa_cons (pv 2) (pa_cons (pe_op op_mulW (pe_fld (pv 0) rfl) (pe_fld (pv 1) rfl)) pa_nil)))))), ?_⟩
    obtain ⟨dp, tp, hp, ks, ht, mk, eT⟩ := hA
    obtain ⟨dq, tq, hq, ls, hs, ml, eS⟩ := hB
    have pA := fA.can.pos
    have pB := fB.can.pos
    have ndA := fA.can.nodup mlt_ord
    have ndB := fB.can.nodup mlt_ord
    have kl : ks.length = A.T.length := by rw [← eT]; simp [strip]
    have ll : ls.length = B.T.length := by rw [← eS]; simp [strip]
    have hptp : p ≠ tp := ne_of hp ht (fun z => nomatch z)
    have hqtp : q ≠ tp := ne_of hq ht (fun z => nomatch z)
    have hptq : p ≠ tq := ne_of hp hs (fun z => nomatch z)
    have hqtq : q ≠ tq := ne_of hq hs (fun z => nomatch z)
    -- the comprehension
    refine ⟨tp, _, ht, trivial, fun od => ?_⟩
    have hp0 : upd H tp (.frz od (NdO P w tp ks)) p = some (.ins C dp (pflds tp A.d)) := by rw [upd_ne hptp]; exact hp
    refine ⟨.ref p, rfl, p, C, dp, _, _, rfl, hp0, X.cl, X.nT, pflds_t _ _, tp, od, ks, rfl, upd_same, fun D hD => ?_⟩
    have hDt : D ≠ tp := fun e => by rw [e, upd_same] at hD; cases hD
    have hD0 : H D = none := by rw [upd_ne hDt] at hD; exact hD
    refine dcN_it walk_nitems (fun i H' => NDW P w H' D ((A.T.take i).map fun t => (t.1, t.2 * B.d)) ∧ SameX tp H H' ∧ H' tp = some (.frz od (NdO P w tp ks))) ⟨⟨[], upd_same, (fun e h => nomatch h), rfl⟩, fun b o n e => by rw [upd_ne (ne_of_none e hD0), upd_ne n]; exact e, by rw [upd_ne hDt.symm]; exact upd_same⟩ (fun i H' _ h => h.2.2) ?_ ?_
    · rintro i x H1 H2 hi ⟨hN, sx, h1t⟩ ⟨tu, e, hk, rfl, ntu, rfl⟩
      have hkm := List.mem_of_getElem? hk
      have hi' : A.T[i]? = some (e.1, e.2.2) := by rw [← eT]; exact strip_at hk
      have sT := same_upd (o := HO.tup [V.ref e.2.1, V.int e.2.2]) ntu
      refine ⟨tu, _, rfl, SqT.of upd_same, rfl, _, _, rfl, _, _, rfl, rfl, rfl, ?_⟩
      have sx2 := sx.trans (same_x sT)
      have h2t := sT _ _ h1t
      have hN2 := hN.same sT
      generalize upd H1 tu (.tup [V.ref e.2.1, V.int e.2.2]) = H2 at sx2 h2t hN2 ⊢
      unfold tYes
      refine iteT ⟨_, rfl, _, rfl, .ref q, rfl, q, C, dq, _, _, rfl, sx2 _ _ hqtp hq, X.cl, X.nB, pflds_b _ _, _, _, rfl, rfl, ?_, ?_⟩
      · exact wide_mul (a := b1 + 1) (b := b2 + 1) (Nat.lt_of_lt_of_le (fA.cof _ (List.mem_of_getElem? hi')) (Nat.pow_le_pow_right (by decide) (Nat.le_succ _))) (Nat.lt_of_lt_of_le fB.den (Nat.pow_le_pow_right (by decide) (Nat.le_succ _))) (by omega) (by omega) (by omega)
      refine ⟨_, _, _, _, rfl, rfl, hN2, ?_, (mk e hkm).keeps (sx_keep (o := .own tp) ht sx2), fun H6 n6 => ?_⟩
      · rw [List.length_map, List.length_take]
        have := fA.len
        exact small4000 (by omega)
      · obtain ⟨nw, ks6, e6⟩ := n6
        have hnew : e.1 ∉ ((A.T.take i).map fun t => (t.1, t.2 * B.d)).map (·.1) := by
          rw [List.map_map]
          exact out_take ndA hi'
        rw [putT_new hnew] at nw
        refine ⟨?_, fun b o n eb => ?_, ?_⟩
        · rw [take_snoc hi', List.map_append]
          exact nw
        · rw [e6, upd_ne (ne_of_none eb hD0)]
          exact sx2 _ _ n eb
        · rw [e6, upd_ne hDt.symm]
          exact h2t
    rintro H1 ⟨hN, sx, h1t⟩
    rw [kl, List.take_length] at hN
    refine ⟨h1t, ?_⟩
    have s1 : Same H (upd H1 tp (NdO P w tp ks)) := sameX_back ht sx
    have hN1 : NDW P w (upd H1 tp (NdO P w tp ks)) D (A.T.map fun t => (t.1, t.2 * B.d)) := hN.at' (by rw [upd_ne hDt]) ⟨fun b ys h => by rw [upd_ne (ne_of h h1t (fun z => nomatch z))]; exact h, fun b ob u h => by
      by_cases k : b = tp
      · subst k
        rw [h1t] at h
        cases h
      · rw [upd_ne k]
        exact h⟩
    generalize upd H1 tp (NdO P w tp ks) = H3 at s1 hN1 ⊢
    -- the walk over the other's terms
    have h3s := s1 _ _ hs
    have hDq : D ≠ tq := (ne_of_none hs hD0).symm
    refine ⟨tq, _, h3s, trivial, fun od2 => ?_⟩
    have hq3 : upd H3 tq (.frz od2 (NdO P w tq ls)) q = some (.ins C dq (pflds tq B.d)) := by rw [upd_ne hqtq]; exact s1 _ _ hq
    refine ⟨.ref q, rfl, q, C, dq, _, _, rfl, hq3, X.cl, X.nT, pflds_t _ _, tq, od2, ls, rfl, upd_same, for_it walk_nitems (fun i σ H' => ∃ y3 y4 T, σ = [some (.ref p), some (.ref q), some (.ref D), y3, y4] ∧ SameX tq H H' ∧ H' tq = some (.frz od2 (NdO P w tq ls)) ∧ NDW P w H' D T ∧
        Acc ns (n1 + i) (2 ^ (b1 + b2) + i * 2 ^ (b1 + b2)) Dg T ∧ ∀ u, ev u T = ev u A.T * B.d + ev u (B.T.take i) * A.d)
      ⟨none, none, _, rfl, fun b o n e => by rw [upd_ne n]; exact s1 _ _ e, upd_same, hN1.at' (by rw [upd_ne hDq]) ⟨fun b ys h => by rw [upd_ne (ne_of h h3s (fun z => nomatch z))]; exact h, fun b ob u h => by rw [upd_ne (ne_of h h3s (fun z => nomatch z))]; exact h⟩, ?_, fun u => ?_⟩ (fun i σ H' _ ⟨_, _, _, _, _, e, _⟩ => e) ?_ ?_⟩
    · refine (fA.acc (Nat.le_of_lt fB.den)).mono (Nat.le_refl _) ?_ (Nat.le_refl _)
      omega
    · rw [ev_scale]
      show _ = _ + 0 * A.d
      omega
    · rintro i x σ H4 H5 hi ⟨y3, y4, T, rfl, sx4, h4t, hT, acc, evT⟩ ⟨tu, e, hk, rfl, ntu, rfl⟩
      have hkm := List.mem_of_getElem? hk
      have hi' : B.T[i]? = some (e.1, e.2.2) := by rw [← eS]; exact strip_at hk
      have hiB := List.mem_of_getElem? hi'
      have sT := same_upd (o := HO.tup [V.ref e.2.1, V.int e.2.2]) ntu
      refine ⟨tu, _, rfl, SqT.of upd_same, rfl, _, _, rfl, _, _, rfl, rfl, ?_⟩
      have sx5 := sx4.trans (same_x sT)
      have h5t := sT _ _ h4t
      have hT5 := hT.same sT
      generalize upd H4 tu (.tup [V.ref e.2.1, V.int e.2.2]) = H5 at sx5 h5t hT5 ⊢
      have hm5 : MoK H5 e.1 e.2.1 := (ml e hkm).keeps (sx_keep (o := .own tq) hs sx5)
      have li : i < B.T.length := (List.getElem?_eq_some_iff.mp hi').1
      have lB := fB.len
      refine ⟨.ref D, rfl, D, T, rfl, hT5.rd, .ref e.2.1, rfl, e.2.1, e.1, T, rfl, hT5.rd, hm5, .int e.2.2, rfl, .ref p, rfl, p, C, dp, _, _, rfl, sx5 _ _ hptq hp, X.cl, X.nB, pflds_b _ _, _, _, rfl, rfl, ?_, ?_⟩
      · exact wide_mul (a := b2 + 1) (b := b1 + 1) (Nat.lt_of_lt_of_le (fB.cof _ hiB) (Nat.pow_le_pow_right (by decide) (Nat.le_succ _))) (Nat.lt_of_lt_of_le fA.den (Nat.pow_le_pow_right (by decide) (Nat.le_succ _))) (by omega) (by omega) (by omega)
      refine ⟨(valT T e.1).getD 0, _, ?_, rfl, .ref D, rfl, .ref e.2.1, rfl, D, e.2.1, e.1, _, T, rfl, rfl, rfl, hT5, ?_, hm5, fun H6 n6 => ?_⟩
      · cases valT T e.1 <;> rfl
      · have := acc.len
        exact small4000 (by omega)
      · obtain ⟨nw, ks6, e6⟩ := n6
        refine ⟨_, _, _, rfl, fun b o n eb => ?_, ?_, nw, ?_, fun u => ?_⟩
        · rw [e6, upd_ne (ne_of_none eb hD0)]
          exact sx5 _ _ n eb
        · rw [e6, upd_ne hDq.symm]
          exact h5t
        · refine (acc.add (c := e.2.2 * A.d) (fB.can.good _ hiB) (fB.mon _ hiB).1 (fB.mon _ hiB).2 (Y := 2 ^ (b1 + b2)) ?_).mono (by omega) ?_ (Nat.le_refl _)
          · rw [Nat.add_comm b1 b2]
            exact mul_bits (fB.cof _ hiB) fA.den
          · rw [Nat.add_mul]
            omega
        · have e1 := ev_addT u acc.nd e.1 (e.2.2 * A.d)
          unfold addT at e1
          rw [e1, evT u, ev_snoc u hi', Int.add_mul]
          show _ + e.2.2 * A.d * worth u e.1 = _ + (_ + e.2.2 * worth u e.1 * A.d)
          grind
    · rintro σ H4 ⟨y3, y4, T, rfl, sx4, h4t, hT, acc, evT⟩
      rw [ll] at acc
      rw [ll, List.take_length] at evT
      refine ⟨h4t, ?_⟩
      have s5 : Same H (upd H4 tq (NdO P w tq ls)) := sameX_back hs sx4
      have hT5 : NDW P w (upd H4 tq (NdO P w tq ls)) D T := hT.at' (by rw [upd_ne hDq]) ⟨fun b ys h => by rw [upd_ne (ne_of h h4t (fun z => nomatch z))]; exact h, fun b ob u h => by
        by_cases k : b = tq
        · subst k
          rw [h4t] at h
          cases h
        · rw [upd_ne k]
          exact h⟩
      generalize upd H4 tq (NdO P w tq ls) = H5 at s5 hT5 ⊢
      refine ⟨.ref D, rfl, .ref p, rfl, p, C, dp, _, _, rfl, s5 _ _ hp, X.cl, X.nB, pflds_b _ _, .ref q, rfl, q, C, dq, _, _, rfl, s5 _ _ hq, X.cl, X.nB, pflds_b _ _, _, _, rfl, rfl, ?_, ?_⟩
      · exact wide_mul (a := b1 + 1) (b := b2 + 1) (Nat.lt_of_lt_of_le fA.den (Nat.pow_le_pow_right (by decide) (Nat.le_succ _))) (Nat.lt_of_lt_of_le fB.den (Nat.pow_le_pow_right (by decide) (Nat.le_succ _))) (by omega) (by omega) (by omega)
      have hd : 0 < A.d * B.d := Int.mul_pos pA pB
      have lA := fA.len
      have lB := fB.len
      have hb : (A.d * B.d).natAbs < 2 ^ (b1 + b2 + 13) := Nat.lt_of_le_of_lt (mul_bits fA.den fB.den) (Nat.pow_lt_pow_right (by decide) (by omega))
      have lT := acc.len
      refine make_poly hT5 acc.nd acc.good hd hb (by omega) small (by omega) fun H6 r R s6 fr hR hN => ?_
      refine qq H6 r R (s5.trans s6) (fr.back s5) hR (hN.fitsA (acc.mono (by omega) (Nat.le_refl _) (Nat.le_refl _)) hd (pow13 (by omega)) hb) fun u => ?_
      rw [hN.val hd u, evT u]
      exact sum_frac pA pB
end
end Po
namespace Po
open PySem PySem.Spec L2 Lo PyProof.Rows
section
variable {P : Program} {w : World} {K : PySem.W.Frag} {mg : Str → Option Value} {base : Heap}
/-! ### __neg__ -/
def spNeg (P : Program) (w : World) (C : Addr) : Sp := fun vs H Q _ => ∃ (p : Addr) (A : Pol) (ns : List Str) (n b D : Nat), vs = [.ref p] ∧ PolyAt P w C H p A ∧ Fits ns n b D A ∧ n ≤ 4000 ∧ 0 < b ∧ b ≤ 9000 ∧
  ∀ H' r R, Same H H' → FrP H H' r → PolyAt P w C H' r R → Fits ns n b D R → (∀ u, val u R = - val u A) → Q (.ref r) H'
abbrev nPNeg : List Str := ["self", "monomial", "many"]
theorem scPNeg : FnScope nPNeg ["self"] (defScope sPNeg) := ⟨rfl, rfl, rfl, by decide +kernel, rfl, by decide +kernel, by decide +kernel⟩
theorem ev_neg (u : Str → Int) (T : List (Mo × Int)) : ev u (T.map fun t => (t.1, -t.2)) = - ev u T := by
  induction T with
  | nil => rfl
  | cons t T ih =>
    show -t.2 * worth u t.1 + ev u (T.map _) = -(t.2 * worth u t.1 + ev u T)
    rw [ih, Int.neg_mul]
    omega
theorem neg_frac {a x : Int} : ((-a : Int) : Rat) / (x : Rat) = - ((a : Rat) / x) := by
  rw [Rat.intCast_neg]
  generalize (a : Rat) = A at *
  generalize (x : Rat) = C at *
  grind
theorem ok_pneg {f C fI : Addr} {fd fdI : FuncData} (F : Fun K "__neg__" "Poly.__neg__" sPNeg f fd) (X : PTxt K mg C fI)
    (GI : FnOk P w K mg base CX0 1 fI fdI ["self", "terms", "below"] (spPInit P w C)) (bI : Binds K fdI ["self", "terms", "below"] []) : FnOk P w K mg base CX0 3 f fd ["self"] (spNeg P w C) := by
  refine F.ok scPNeg (fun vs H Q E h => ?_) (fun cdv Ar outer s H vs Q E hr h => ?_)
  · obtain ⟨p, A, ns, n, b, D, rfl, _⟩ := h
    rfl
  · obtain ⟨p, A, ns, n, b, Dg, rfl, hA, fA, few, b0, b9, qq⟩ := h
    have nd := scPNeg.nd
    have hu9 : (Ar.deeper (PyProof.Rows.envOfC (Str.ofString "Poly.__neg__") (defScope sPNeg) s.heap.objs.size f cdv)).units + 9 < cLine := by have := hr.units; omega
    refine ⟨_, pss_one (ps_ret (pe_make X.make GI hr (by rfl) X.mg bI .nil pass0 (pa_cons (pe_lock (pe_dcN (own := [("monomial", 1), ("many", 2)]) (g := gTup K 2 (gCons (gName 1) (gCons (gName 2) gNil))) (tt := tYes) hu9 rfl nd (pi_nitems (pe_fld (pv 0) rfl)) (blkOk_by (N := nPNeg) (sc := defScope sPNeg) (by decide +kernel))
          (fun _ _ _ _ _ => pg_tup rfl (pgs_cons (pg_name (i := 1) nd rfl (.inl rfl)) (pgs_cons (pg_name (i := 2) nd rfl (.inl rfl)) pgs_nil))) (fun _ _ _ _ _ => pts_nil) (fun _ _ _ _ _ => pv 1) (fun _ _ _ _ _ => pe_un un_neg (pv 2)))) (pa_cons (pe_fld (pv 0) rfl) pa_nil)))), ?_⟩
    obtain ⟨dp, tp, hp, ks, ht, mk, eT⟩ := hA
    have pA := fA.can.pos
    have ndA := fA.can.nodup mlt_ord
    have kl : ks.length = A.T.length := by rw [← eT]; simp [strip]
    have hptp : p ≠ tp := ne_of hp ht (fun z => nomatch z)
    refine ⟨tp, _, ht, trivial, fun od => ?_⟩
    have hp0 : upd H tp (.frz od (NdO P w tp ks)) p = some (.ins C dp (pflds tp A.d)) := by rw [upd_ne hptp]; exact hp
    refine ⟨.ref p, rfl, p, C, dp, _, _, rfl, hp0, X.cl, X.nT, pflds_t _ _, tp, od, ks, rfl, upd_same, fun D hD => ?_⟩
    have hDt : D ≠ tp := fun e => by rw [e, upd_same] at hD; cases hD
    have hD0 : H D = none := by rw [upd_ne hDt] at hD; exact hD
    refine dcN_it walk_nitems (fun i H' => NDW P w H' D ((A.T.take i).map fun t => (t.1, -t.2)) ∧ SameX tp H H' ∧ H' tp = some (.frz od (NdO P w tp ks))) ⟨⟨[], upd_same, (fun e h => nomatch h), rfl⟩, fun b o n e => by rw [upd_ne (ne_of_none e hD0), upd_ne n]; exact e, by rw [upd_ne hDt.symm]; exact upd_same⟩ (fun i H' _ h => h.2.2) ?_ ?_
    · rintro i x H1 H2 hi ⟨hN, sx, h1t⟩ ⟨tu, e, hk, rfl, ntu, rfl⟩
      have hkm := List.mem_of_getElem? hk
      have hi' : A.T[i]? = some (e.1, e.2.2) := by rw [← eT]; exact strip_at hk
      have sT := same_upd (o := HO.tup [V.ref e.2.1, V.int e.2.2]) ntu
      refine ⟨tu, _, rfl, SqT.of upd_same, rfl, _, _, rfl, _, _, rfl, rfl, rfl, ?_⟩
      have sx2 := sx.trans (same_x sT)
      have h2t := sT _ _ h1t
      have hN2 := hN.same sT
      generalize upd H1 tu (.tup [V.ref e.2.1, V.int e.2.2]) = H2 at sx2 h2t hN2 ⊢
      unfold tYes
      refine iteT ⟨_, rfl, _, rfl, _, rfl, ?_⟩
      refine ⟨_, _, _, _, rfl, rfl, hN2, ?_, (mk e hkm).keeps (sx_keep (o := .own tp) ht sx2), fun H6 n6 => ?_⟩
      · rw [List.length_map, List.length_take]
        have := fA.len
        exact small4000 (by omega)
      · obtain ⟨nw, ks6, e6⟩ := n6
        have hnew : e.1 ∉ ((A.T.take i).map fun t => (t.1, -t.2)).map (·.1) := by
          rw [List.map_map]
          exact out_take ndA hi'
        rw [putT_new hnew] at nw
        refine ⟨?_, fun b o n eb => ?_, ?_⟩
        · rw [take_snoc hi', List.map_append]
          exact nw
        · rw [e6, upd_ne (ne_of_none eb hD0)]
          exact sx2 _ _ n eb
        · rw [e6, upd_ne hDt.symm]
          exact h2t
    rintro H1 ⟨hN, sx, h1t⟩
    rw [kl, List.take_length] at hN
    refine ⟨h1t, ?_⟩
    have s1 : Same H (upd H1 tp (NdO P w tp ks)) := sameX_back ht sx
    have hN1 : NDW P w (upd H1 tp (NdO P w tp ks)) D (A.T.map fun t => (t.1, -t.2)) := hN.at' (by rw [upd_ne hDt]) ⟨fun b ys h => by rw [upd_ne (ne_of h h1t (fun z => nomatch z))]; exact h, fun b ob u h => by rw [upd_ne (ne_of h h1t (fun z => nomatch z))]; exact h⟩
    generalize upd H1 tp (NdO P w tp ks) = H3 at s1 hN1 ⊢
    refine ⟨.ref p, rfl, p, C, dp, _, _, rfl, s1 _ _ hp, X.cl, X.nB, pflds_b _ _, ?_⟩
    have e1 : (A.T.map fun t => (t.1, -t.2)).map (·.1) = A.T.map (·.1) := by rw [List.map_map]; rfl
    have lA := fA.len
    refine make_poly (b := b) hN1 (by rw [e1]; exact ndA) (fun s hs => ?_) pA fA.den b0 b9 (by rw [List.length_map]; omega) fun H6 r R s6 fr hR hN => ?_
    · obtain ⟨t, ht', rfl⟩ := List.mem_map.mp hs
      exact fA.can.good t ht'
    refine qq H6 r R (s1.trans s6) (fr.back s1) hR (hN.fits (by rw [List.length_map]; omega) (fun s hs => ?_) pA fA.den (fun s hs => ?_)) fun u => ?_
    · obtain ⟨t, ht', rfl⟩ := List.mem_map.mp hs
      show (-t.2).natAbs < _
      rw [Int.natAbs_neg]
      exact fA.cof t ht'
    · obtain ⟨t, ht', rfl⟩ := List.mem_map.mp hs
      exact fA.mon t ht'
    · rw [hN.val pA u, ev_neg]
      exact neg_frac
/-! ### _product_of -/
theorem pe_nnewP {P : Program} {w : World} {X : Cx} {pos : Pos} (hP : X.prog = P) (hw : X.w = w) : PE X (.Dict [] [] pos) (tNNew P w) := by
  subst hP hw
  exact pe_nnew
def SameX2 (t t' : Addr) (H H' : Hp) : Prop := ∀ b o, b ≠ t → b ≠ t' → H b = some o → H' b = some o
theorem SameX2.on {t t' : Addr} {H H' H'' : Hp} (h : SameX2 t t' H H') (s : Same H' H'') : SameX2 t t' H H'' := fun b o n n' e => s _ _ (h b o n n' e)
theorem sx2_keep {t t' : Addr} {H H' : Hp} {φ ψ : Heap → Prop} (e : H t = some (.ext φ)) (e' : H t' = some (.ext ψ)) (s : SameX2 t t' H H') : Keep2 H H' :=
  ⟨fun b ys h => s _ _ (ne_of h e (fun z => nomatch z)) (ne_of h e' (fun z => nomatch z)) h, fun b ob u h => s _ _ (ne_of h e (fun z => nomatch z)) (ne_of h e' (fun z => nomatch z)) h⟩
def spProd (P : Program) (w : World) (C : Addr) : Sp := fun vs H Q _ => ∃ (p q : Addr) (A B : Pol) (ns : List Str) (n1 b1 D1 n2 b2 D2 : Nat), vs = [.ref p, .ref q] ∧ PolyAt P w C H p A ∧ PolyAt P w C H q B ∧ Apart H p q ∧ Fits ns n1 b1 D1 A ∧ Fits ns n2 b2 D2 B ∧ n1 * n2 ≤ 4000 ∧ b1 + b2 + 13 ≤ 9000 ∧ D1 + D2 ≤ 900 ∧
  ∀ H' r R, Same H H' → FrP H H' r → PolyAt P w C H' r R → Fits ns (n1 * n2) (b1 + b2 + 13) (D1 + D2) R → (∀ u, val u R = val u A * val u B) → Q (.ref r) H'
abbrev nProductOf : List Str := ["one", "other", "found", "first", "many", "second", "more", "monomial"]
theorem scProductOf : FnScope nProductOf ["one", "other"] (defScope sProductOf) := ⟨rfl, rfl, rfl, by decide +kernel, rfl, by decide +kernel, by decide +kernel⟩
theorem Acc.mono2 {ns : List Str} {n B D n' B' D' : Nat} {T : List (Mo × Int)} (a : Acc ns n B D T) (h1 : n = n') (h2 : B = B') (h3 : D = D') : Acc ns n' B' D' T := by
  subst h1 h2 h3
  exact a
theorem ok_productof {f C fI fB : Addr} {fd fdI fdB : FuncData} (F : Fun K "_product_of" "_product_of" sProductOf f fd) (X : PTxt K mg C fI)
    (GI : FnOk P w K mg base CX0 1 fI fdI ["self", "terms", "below"] (spPInit P w C)) (bI : Binds K fdI ["self", "terms", "below"] [])
    (mB : mg "_both" = some (.ref fB)) (kB : PySem.W.keepIn K (.ref fB) = true) (bB : Binds K fdB ["first", "second"] []) (GB : FnOk P w K mg base CX0 1 fB fdB ["first", "second"] spBoth) : FnOk P w K mg base CX0 3 f fd ["one", "other"] (spProd P w C) := by
  refine F.ok scProductOf (fun vs H Q E h => ?_) (fun cdv Ar outer s H vs Q E hr h => ?_)
  · obtain ⟨p, q, A, B, ns, n1, b1, D1, n2, b2, D2, rfl, _⟩ := h
    rfl
  · obtain ⟨p, q, A, B, ns, n1, b1, D1, n2, b2, D2, rfl, hA, hB, apart, fA, fB', few, small, deg, qq⟩ := h
    have nd := scProductOf.nd
    have hu9 : (Ar.deeper (PyProof.Rows.envOfC (Str.ofString "_product_of") (defScope sProductOf) s.heap.objs.size f cdv)).units + 9 < cLine := by have := hr.units; omega
    refine ⟨_, pss_cons (ps_set (i := 2) nd rfl (.inl rfl) (pe_nnewP (P := P) (w := w) rfl rfl))
      (pss_cons (ps_lock (ps_for PassesOwn.never rfl (pi_nitems (pe_fld (pv 0) rfl)) (pg_tup rfl (pgs_cons (pg_name (i := 3) nd rfl (.inl rfl)) (pgs_cons (pg_name (i := 4) nd rfl (.inl rfl)) pgs_nil)))
        (pss_one (ps_lock (ps_for PassesOwn.never rfl (pi_nitems (pe_fld (pv 1) rfl)) (pg_tup rfl (pgs_cons (pg_name (i := 5) nd rfl (.inl rfl)) (pgs_cons (pg_name (i := 6) nd rfl (.inl rfl)) pgs_nil)))
          (pss_cons (ps_set (i := 7) nd rfl (.inl rfl) (pe_call GB (hr.mono (by decide)) (by rfl) mB kB bB .nil pass0 (pa_cons (pv 3) (pa_cons (pv 5) pa_nil))))
          (pss_one (ps_nput hu9 (pv 2) (pv 7) (pe_op op_add (pe_nget2 hu9 (pv 2) (pv 7) pe_int ⟨rfl, rfl, rfl, rfl⟩) (pe_op op_mulW (pv 4) (pv 6))) rfl))))))))
      (pss_one (ps_ret (pe_make X.make GI hr (by rfl) X.mg bI .nil pass0 (pa_cons (pv 2) (pa_cons (pe_op op_mulW (pe_fld (pv 0) rfl) (pe_fld (pv 1) rfl)) pa_nil)))))), ?_⟩
    have apart' : ∀ t1 t2, TmOf H p t1 → TmOf H q t2 → t1 ≠ t2 := fun t1 t2 a b e => apart t1 a (e ▸ b)
    obtain ⟨dp, tp, hp, ks, ht, mk, eT⟩ := hA
    obtain ⟨dq, tq, hq, ls, hs, ml, eS⟩ := hB
    have htt : tp ≠ tq := apart' tp tq ⟨_, _, _, hp, pflds_t _ _⟩ ⟨_, _, _, hq, pflds_t _ _⟩
    have pA := fA.can.pos
    have pB := fB'.can.pos
    have kl : ks.length = A.T.length := by rw [← eT]; simp [strip]
    have ll : ls.length = B.T.length := by rw [← eS]; simp [strip]
    have lA := fA.len
    have lB := fB'.len
    have hptp : p ≠ tp := ne_of hp ht (fun z => nomatch z)
    have hqtp : q ≠ tp := ne_of hq ht (fun z => nomatch z)
    have hptq : p ≠ tq := ne_of hp hs (fun z => nomatch z)
    have hqtq : q ≠ tq := ne_of hq hs (fun z => nomatch z)
    intro D hD
    have hDp : tp ≠ D := ne_of_none ht hD
    have hDq : tq ≠ D := ne_of_none hs hD
    have hND0 : NDW P w (upd H D (NdO P w D [])) D [] := ⟨[], upd_same, (fun e h => nomatch h), rfl⟩
    have s0 : Same H (upd H D (NdO P w D [])) := same_upd hD
    generalize upd H D (NdO P w D []) = H0 at hND0 s0 ⊢
    have h0t := s0 _ _ ht
    refine ⟨tp, _, h0t, trivial, fun od => ?_⟩
    have hp0 : upd H0 tp (.frz od (NdO P w tp ks)) p = some (.ins C dp (pflds tp A.d)) := by rw [upd_ne hptp]; exact s0 _ _ hp
    refine ⟨.ref p, rfl, p, C, dp, _, _, rfl, hp0, X.cl, X.nT, pflds_t _ _, tp, od, ks, rfl, upd_same, for_it walk_nitems (fun i σ H' => ∃ y3 y4 y5 y6 y7 T, σ = [some (.ref p), some (.ref q), some (.ref D), y3, y4, y5, y6, y7] ∧ SameX tp H H' ∧ H' tp = some (.frz od (NdO P w tp ks)) ∧ NDW P w H' D T ∧
        Acc ns (i * n2) (2 ^ (b1 + b2) + i * n2 * 2 ^ (b1 + b2)) (D1 + D2) T ∧ ∀ u, ev u T = ev u (A.T.take i) * ev u B.T)
      ⟨none, none, none, none, none, [], rfl, fun b o n e => by rw [upd_ne n]; exact s0 _ _ e, upd_same, hND0.at' (by rw [upd_ne hDp.symm]) ⟨fun b ys h => by rw [upd_ne (ne_of h h0t (fun z => nomatch z))]; exact h, fun b ob u h => by rw [upd_ne (ne_of h h0t (fun z => nomatch z))]; exact h⟩, .nil, fun u => by show (0 : Int) = 0 * _; omega⟩ (fun i σ H' _ ⟨_, _, _, _, _, _, _, _, e, _⟩ => e) ?_ ?_⟩
    · rintro i x σ H1 H2 hi ⟨y3, y4, y5, y6, y7, T0, rfl, sx1, h1t, hT1, acc0, ev0⟩ ⟨tu, e, hk, rfl, ntu, rfl⟩
      have hkm := List.mem_of_getElem? hk
      have hi' : A.T[i]? = some (e.1, e.2.2) := by rw [← eT]; exact strip_at hk
      have hiA := List.mem_of_getElem? hi'
      have li : i < A.T.length := (List.getElem?_eq_some_iff.mp hi').1
      have sT := same_upd (o := HO.tup [V.ref e.2.1, V.int e.2.2]) ntu
      refine ⟨tu, _, rfl, SqT.of upd_same, rfl, _, _, rfl, _, _, rfl, rfl, ?_⟩
      have sx2 := sx1.trans (same_x sT)
      have h2t := sT _ _ h1t
      have hT2 := hT1.same sT
      generalize upd H1 tu (.tup [V.ref e.2.1, V.int e.2.2]) = H2 at sx2 h2t hT2 ⊢
      have hm2 : MoK H2 e.1 e.2.1 := (mk e hkm).keeps (sx_keep (o := .own tp) ht sx2)
      have h2s := sx2 _ _ htt.symm hs
      refine ⟨tq, _, h2s, trivial, fun od2 => ?_⟩
      have hq2 : upd H2 tq (.frz od2 (NdO P w tq ls)) q = some (.ins C dq (pflds tq B.d)) := by rw [upd_ne hqtq]; exact sx2 _ _ hqtp hq
      have gA := fA.can.good _ hiA
      have mA := fA.mon _ hiA
      have cA := fA.cof _ hiA
      refine ⟨.ref q, rfl, q, C, dq, _, _, rfl, hq2, X.cl, X.nT, pflds_t _ _, tq, od2, ls, rfl, upd_same, for_it walk_nitems (fun j σ H' => ∃ y5 y6 y7 T, σ = [some (.ref p), some (.ref q), some (.ref D), some (.ref e.2.1), some (.int e.2.2), y5, y6, y7] ∧ SameX2 tp tq H H' ∧ H' tp = some (.frz od (NdO P w tp ks)) ∧ H' tq = some (.frz od2 (NdO P w tq ls)) ∧ NDW P w H' D T ∧
          Acc ns (i * n2 + j) (2 ^ (b1 + b2) + (i * n2 + j) * 2 ^ (b1 + b2)) (D1 + D2) T ∧ ∀ u, ev u T = ev u (A.T.take i) * ev u B.T + e.2.2 * worth u e.1 * ev u (B.T.take j))
        ⟨y5, y6, y7, T0, rfl, fun b o n n' e => by rw [upd_ne n']; exact sx2 _ _ n e, by rw [upd_ne htt]; exact h2t, upd_same, hT2.at' (by rw [upd_ne hDq.symm]) ⟨fun b ys h => by rw [upd_ne (ne_of h h2s (fun z => nomatch z))]; exact h, fun b ob u h => by rw [upd_ne (ne_of h h2s (fun z => nomatch z))]; exact h⟩, acc0, fun u => by rw [ev0 u]; show _ = _ + _ * (0 : Int); omega⟩ (fun j σ H' _ ⟨_, _, _, _, _, _, _, e, _⟩ => e) ?_ ?_⟩
      · rintro j x σ H3 H4 hj ⟨y5, y6, y7, T, rfl, sx3, h3t, h3s, hT3, acc, evT⟩ ⟨tv, z, hz, rfl, ntv, rfl⟩
        have hzm := List.mem_of_getElem? hz
        have hj' : B.T[j]? = some (z.1, z.2.2) := by rw [← eS]; exact strip_at hz
        have hjB := List.mem_of_getElem? hj'
        have lj : j < B.T.length := (List.getElem?_eq_some_iff.mp hj').1
        have sT4 := same_upd (o := HO.tup [V.ref z.2.1, V.int z.2.2]) ntv
        refine ⟨tv, _, rfl, SqT.of upd_same, rfl, _, _, rfl, _, _, rfl, rfl, ?_⟩
        have sx4 := sx3.on sT4
        have h4s := sT4 _ _ h3s
        have h4t := sT4 _ _ h3t
        have hT4 := hT3.same sT4
        generalize upd H3 tv (.tup [V.ref z.2.1, V.int z.2.2]) = H4 at sx4 h4s h4t hT4 ⊢
        have hmA : MoK H4 e.1 e.2.1 := (mk e hkm).keeps (sx2_keep ht hs sx4)
        have hmB : MoK H4 z.1 z.2.1 := (ml z hzm).keeps (sx2_keep ht hs sx4)
        have gB := fB'.can.good _ hjB
        have mB' := fB'.mon _ hjB
        have cB := fB'.cof _ hjB
        have ij : i * n2 + j < 4000 := by
          have : (i + 1) * n2 ≤ n1 * n2 := Nat.mul_le_mul_right _ (by omega)
          rw [Nat.add_mul] at this
          omega
        refine ⟨.ref e.2.1, rfl, .ref z.2.1, rfl, e.2.1, z.2.1, e.1, z.1, rfl, hmA, hmB, gA, gB, ?_, fun H5 mp m s5 nmp hm gm wm dm nm => ?_⟩
        · have a1 : degM e.1 ≤ D1 := mA.1
          have a2 : degM z.1 ≤ D2 := mB'.1
          omega
        have hT5 := hT4.same s5
        refine ⟨.ref D, rfl, D, T, rfl, hT5.rd, .ref mp, rfl, mp, m, T, rfl, hT5.rd, hm, _, rfl, _, rfl, _, _, rfl, rfl, ?_, ?_⟩
        · exact wide_mul (a := b1 + 1) (b := b2 + 1) (Nat.lt_of_lt_of_le cA (Nat.pow_le_pow_right (by decide) (Nat.le_succ _))) (Nat.lt_of_lt_of_le cB (Nat.pow_le_pow_right (by decide) (Nat.le_succ _))) (by omega) (by omega) (by omega)
        refine ⟨(valT T m).getD 0, _, ?_, rfl, .ref D, rfl, .ref mp, rfl, D, mp, m, _, T, rfl, rfl, rfl, hT5, ?_, hm, fun H6 n6 => ?_⟩
        · cases valT T m <;> rfl
        · have := acc.len
          exact small4000 (by omega)
        · obtain ⟨nw, ks6, e6⟩ := n6
          refine ⟨_, _, _, _, rfl, fun b o n n' eb => ?_, ?_, ?_, nw, ?_, fun u => ?_⟩
          · rw [e6, upd_ne (ne_of_none eb hD)]
            exact s5 _ _ (sx4 _ _ n n' eb)
          · rw [e6, upd_ne hDp]
            exact s5 _ _ h4t
          · rw [e6, upd_ne hDq]
            exact s5 _ _ h4s
          · refine (acc.add (c := e.2.2 * z.2.2) gm ?_ (fun x hx => ?_) (Y := 2 ^ (b1 + b2)) (mul_bits cA cB)).mono2 (by omega) ?_ rfl
            · rw [dm]
              have a1 : degM e.1 ≤ D1 := mA.1
              have a2 : degM z.1 ≤ D2 := mB'.1
              omega
            · rcases nm x hx with y | y
              · obtain ⟨y', hy', ey⟩ := List.mem_map.mp y
                rw [← ey]
                exact mA.2 y' hy'
              · obtain ⟨y', hy', ey⟩ := List.mem_map.mp y
                rw [← ey]
                exact mB'.2 y' hy'
            · rw [← Nat.add_assoc, Nat.add_mul (i * n2 + j) 1]
              omega
          · have e1 := ev_addT u acc.nd m (e.2.2 * z.2.2)
            unfold addT at e1
            rw [e1, evT u, ev_snoc u hj', wm u]
            show _ + _ + _ = _ + _ * (_ + z.2.2 * worth u z.1)
            grind
      · rintro σ H3 ⟨y5, y6, y7, T, rfl, sx3, h3t, h3s, hT3, acc, evT⟩
        rw [ll] at acc
        rw [ll, List.take_length] at evT
        refine ⟨h3s, _, _, _, _, _, T, rfl, fun b o n eb => ?_, ?_, hT3.at' (by rw [upd_ne hDq.symm]) ⟨fun b ys h => by rw [upd_ne (ne_of h h3s (fun z => nomatch z))]; exact h, fun b ob u h => by rw [upd_ne (ne_of h h3s (fun z => nomatch z))]; exact h⟩, ?_, fun u => ?_⟩
        · by_cases k : b = tq
          · subst k
            rw [upd_same, ← hs, eb]
          · rw [upd_ne k]
            exact sx3 _ _ n k eb
        · rw [upd_ne htt]
          exact h3t
        · have : i * n2 + B.T.length ≤ (i + 1) * n2 := by
            rw [Nat.add_mul]
            omega
          exact acc.mono this (Nat.add_le_add_left (Nat.mul_le_mul_right _ this) _) (Nat.le_refl _)
        · rw [evT u, ev_snoc u hi']
          grind
    · rintro σ H1 ⟨y3, y4, y5, y6, y7, T, rfl, sx1, h1t, hT1, acc, evT⟩
      rw [kl] at acc
      rw [kl, List.take_length] at evT
      have hll : A.T.length * n2 ≤ n1 * n2 := Nat.mul_le_mul_right _ lA
      refine ⟨h1t, ?_⟩
      have s5 : Same H (upd H1 tp (NdO P w tp ks)) := sameX_back ht sx1
      have hT5 : NDW P w (upd H1 tp (NdO P w tp ks)) D T := hT1.at' (by rw [upd_ne hDp.symm]) ⟨fun b ys h => by rw [upd_ne (ne_of h h1t (fun z => nomatch z))]; exact h, fun b ob u h => by rw [upd_ne (ne_of h h1t (fun z => nomatch z))]; exact h⟩
      generalize upd H1 tp (NdO P w tp ks) = H5 at s5 hT5 ⊢
      refine ⟨.ref D, rfl, .ref p, rfl, p, C, dp, _, _, rfl, s5 _ _ hp, X.cl, X.nB, pflds_b _ _, .ref q, rfl, q, C, dq, _, _, rfl, s5 _ _ hq, X.cl, X.nB, pflds_b _ _, _, _, rfl, rfl, ?_, ?_⟩
      · exact wide_mul (a := b1 + 1) (b := b2 + 1) (Nat.lt_of_lt_of_le fA.den (Nat.pow_le_pow_right (by decide) (Nat.le_succ _))) (Nat.lt_of_lt_of_le fB'.den (Nat.pow_le_pow_right (by decide) (Nat.le_succ _))) (by omega) (by omega) (by omega)
      have hd : 0 < A.d * B.d := Int.mul_pos pA pB
      have hb : (A.d * B.d).natAbs < 2 ^ (b1 + b2 + 13) := Nat.lt_of_le_of_lt (mul_bits fA.den fB'.den) (Nat.pow_lt_pow_right (by decide) (by omega))
      have lT := acc.len
      refine make_poly hT5 acc.nd acc.good hd hb (by omega) small (by omega) fun H6 r R s6 fr hR hN => ?_
      refine qq H6 r R (s5.trans s6) (fr.back s5) hR (hN.fitsA (acc.mono hll (Nat.le_refl _) (Nat.le_refl _)) hd (pow13 (by omega)) hb) fun u => ?_
      rw [hN.val hd u, evT u]
      exact mul_frac pA pB
end
end Po
namespace Po
open PySem PySem.Spec L2 Lo PyProof.Rows
section
variable {P : Program} {w : World} {K : PySem.W.Frag} {mg : Str → Option Value} {base : Heap}
/-- what of the class the operators ask -/
structure PIsi (K : PySem.W.Frag) (C : Addr) : Prop where
  ins : C8.InsC K C
  intNo : PySem.W.kitOne K (.type "int") (.ref C) = some false
structure PCms (K : PySem.W.Frag) (C : Addr) (mc : Value) (mpC gC mpO gO : Addr) : Prop where
  rd : ClX.CRead K C mc
  con : ClX.CMet K C mc "constant" mpC gC
  of : ClX.CMet K C mc "of" mpO gO
def spC1 (P : Program) (w : World) (C : Addr) : Sp := fun vs H Q E => spConst P w C (vs ++ [.int 1]) H Q E
def spOf1 (P : Program) (w : World) (C : Addr) : Sp := fun vs H Q E => spOf P w C (vs ++ [.int 0]) H Q E
theorem pss_no {X : Cx} {sts : List Stmt} : PSs X sts (fun _ _ _ => False) := ⟨fun _ _ _ _ _ _ h => h.elim⟩
/-- a polynomial, or an int that stands for one -/
def Late (P : Program) (w : World) (C : Addr) (H : Hp) (y : V) (ns : List Str) (n b D : Nat) (v : (Str → Int) → Rat) : Prop :=
  (∃ q B, y = .ref q ∧ PolyAt P w C H q B ∧ Fits ns n b D B ∧ ∀ u, val u B = v u) ∨ (∃ i : Int, y = .int i ∧ i.natAbs < 2 ^ b ∧ 1 ≤ n ∧ 1 < b ∧ b ≤ 9000 ∧ ∀ u, v u = (i : Rat))
theorem Late.same {P : Program} {w : World} {C : Addr} {H H' : Hp} {y : V} {ns : List Str} {n b D : Nat} {v : (Str → Int) → Rat} (h : Late P w C H y ns n b D v) (s : Same H H') : Late P w C H' y ns n b D v := by
  rcases h with ⟨q, B, e, h, f, k⟩ | h
  · exact .inl ⟨q, B, e, h.same s, f, k⟩
  · exact .inr h
def spAsPoly (P : Program) (w : World) (C : Addr) : Sp := fun vs H Q _ => ∃ (y : V) (ns : List Str) (n b D : Nat) (v : (Str → Int) → Rat), vs = [y] ∧ Late P w C H y ns n b D v ∧
  ∀ H' q B, Same H H' → PolyAt P w C H' q B → Fits ns n b D B → (∀ u, val u B = v u) → (y = .ref q ∨ FrP H H' q) → Q (.ref q) H'
theorem scAsPoly : FnScope ["thing"] ["thing"] (defScope sAsPoly) := ⟨rfl, rfl, rfl, by decide +kernel, rfl, by decide +kernel, by decide +kernel⟩
theorem one_lt_pow {b : Nat} (h : 1 < b) : (1 : Int).natAbs < 2 ^ b := by
  have : 2 ^ 1 < 2 ^ b := Nat.pow_lt_pow_right (by decide) h
  show 1 < 2 ^ b
  omega
theorem ok_aspoly {f C fI fW mpC gC mpO gO : Addr} {mc : Value} {fd fdW : FuncData} (F : Fun K "_as_poly" "_as_poly" sAsPoly f fd) (T : Blt mg) (X : PTxt K mg C fI) (Z : PIsi K C) (Y : PCms K C mc mpC gC mpO gO)
    (mW : mg "is_whole" = some (.ref fW)) (kW : PySem.W.keepIn K (.ref fW) = true) (bW : Binds K fdW ["thing"] []) (GW : FnOk P w K mg base CX0 1 fW fdW ["thing"] spWhole)
    (GC : FnR P w K mg base CX0 3 gC (spC1 P w C)) : FnOk P w K mg base CX0 4 f fd ["thing"] (spAsPoly P w C) := by
  refine F.ok scAsPoly (fun vs H Q E h => ?_) (fun cdv Ar outer s H vs Q E hr h => ?_)
  · obtain ⟨y, ns, n, b, D, v, rfl, _⟩ := h
    rfl
  · obtain ⟨y, ns, n, b, D, v, rfl, hy, qq⟩ := h
    have nd := scAsPoly.nd
    refine ⟨_, pss_cons (ps_if (pt_val (pe_callB call_isi (by rfl) T.isi PyProof.Rows.boot_isinstance (pa_cons (pv 0) (pa_cons (pe_glob (v := .ref C) (by rfl) X.mg rfl) pa_nil)))) (pss_one (ps_ret (pv 0))) pss_nil)
      (pss_cons (ps_if (pt_val (pe_call GW (hr.mono (by decide)) (by rfl) mW kW bW .nil pass0 (pa_cons (pv 0) pa_nil))) (pss_one (ps_ret (ClX.pe_cmeth (pe_glob (v := .ref C) (by rfl) X.mg rfl) Y.rd Y.con GC hr pass0 (pa_cons (pv 0) pa_nil)))) pss_nil)
      pss_no), ?_⟩
    rcases hy with ⟨q, B, rfl, hB, fB, vB⟩ | ⟨i, rfl, hi, n1, b1, b9, hv⟩
    · have hB' := hB
      obtain ⟨dq, tq, hq, _⟩ := hB'
      refine ⟨.ref q, rfl, _, _, _, _, true, rfl, .own C, .base (TyOf.ins hq Z.ins.cl Z.ins.ha Z.ins.hn Z.ins.htk Z.ins.hm), Z.ins.me, true, rfl, iteT ?_⟩
      exact ⟨.ref q, rfl, qq _ _ _ (Same.refl _) hB fB vB (.inl rfl)⟩
    · refine ⟨.int i, rfl, _, _, _, _, false, rfl, .own C, .base (.int _), Z.intNo, false, rfl, iteF ?_⟩
      refine ⟨.int i, rfl, i, rfl, true, rfl, iteT ?_⟩
      refine ⟨rfl, .int i, rfl, i, 1, b, rfl, by decide, hi, one_lt_pow b1, by omega, b9, fun H' p A s fr hA fA vA => ?_⟩
      refine qq _ _ _ s hA ((fA ns).mono n1 (Nat.le_refl _) (Nat.zero_le _)) (fun u => ?_) (.inr fr)
      rw [vA u, hv u]
      have : ((1 : Int) : Rat) = 1 := rfl
      rw [this]
      generalize (i : Rat) = r
      grind
/-! ### the operators -/
/-- a method of a polynomial and a late value, whose answer has the value g -/
def spLin (P : Program) (w : World) (C : Addr) (g : Rat → Rat → Rat) : Sp := fun vs H Q _ => ∃ (p : Addr) (y : V) (A : Pol) (ns : List Str) (n1 b1 n2 b2 D : Nat) (v : (Str → Int) → Rat), vs = [.ref p, y] ∧ PolyAt P w C H p A ∧ Fits ns n1 b1 D A ∧ Late P w C H y ns n2 b2 D v ∧ n1 + n2 ≤ 4000 ∧ b1 + b2 + 13 ≤ 9000 ∧ 0 < b1 ∧ 0 < b2 ∧
  ∀ H' r R, Same H H' → FrP H H' r → PolyAt P w C H' r R → Fits ns (n1 + n2) (b1 + b2 + 13) D R → (∀ u, val u R = g (val u A) (v u)) → Q (.ref r) H'
def spMul (P : Program) (w : World) (C : Addr) : Sp := fun vs H Q _ => ∃ (p : Addr) (y : V) (A : Pol) (ns : List Str) (n1 b1 D1 n2 b2 D2 : Nat) (v : (Str → Int) → Rat), vs = [.ref p, y] ∧ PolyAt P w C H p A ∧ Fits ns n1 b1 D1 A ∧ Late P w C H y ns n2 b2 D2 v ∧ (∀ q, y = .ref q → Apart H p q) ∧ n1 * n2 ≤ 4000 ∧ b1 + b2 + 13 ≤ 9000 ∧ D1 + D2 ≤ 900 ∧
  ∀ H' r R, Same H H' → FrP H H' r → PolyAt P w C H' r R → Fits ns (n1 * n2) (b1 + b2 + 13) (D1 + D2) R → (∀ u, val u R = val u A * v u) → Q (.ref r) H'
abbrev nOp : List Str := ["self", "other", "late"]
abbrev sPAdd : Stmt := inClass sPoly 5
abbrev sPRAdd : Stmt := inClass sPoly 6
abbrev sPSub : Stmt := inClass sPoly 7
abbrev sPRSub : Stmt := inClass sPoly 8
abbrev sPMul : Stmt := inClass sPoly 9
abbrev sPRMul : Stmt := inClass sPoly 10
theorem scPAdd : FnScope nOp ["self", "other"] (defScope sPAdd) := ⟨rfl, rfl, rfl, by decide +kernel, rfl, by decide +kernel, by decide +kernel⟩
theorem scPRAdd : FnScope nOp ["self", "other"] (defScope sPRAdd) := ⟨rfl, rfl, rfl, by decide +kernel, rfl, by decide +kernel, by decide +kernel⟩
theorem scPSub : FnScope nOp ["self", "other"] (defScope sPSub) := ⟨rfl, rfl, rfl, by decide +kernel, rfl, by decide +kernel, by decide +kernel⟩
theorem scPRSub : FnScope nOp ["self", "other"] (defScope sPRSub) := ⟨rfl, rfl, rfl, by decide +kernel, rfl, by decide +kernel, by decide +kernel⟩
theorem scPMul : FnScope nOp ["self", "other"] (defScope sPMul) := ⟨rfl, rfl, rfl, by decide +kernel, rfl, by decide +kernel, by decide +kernel⟩
theorem scPRMul : FnScope nOp ["self", "other"] (defScope sPRMul) := ⟨rfl, rfl, rfl, by decide +kernel, rfl, by decide +kernel, by decide +kernel⟩
structure OpsIn (P : Program) (w : World) (K : PySem.W.Frag) (mg : Str → Option Value) (base : Heap) (C fA fS fM fN : Addr) (fdA fdS fdM : FuncData) : Prop where
  mA : mg "_as_poly" = some (.ref fA)
  kA : PySem.W.keepIn K (.ref fA) = true
  bA : Binds K fdA ["thing"] []
  GA : FnOk P w K mg base CX0 4 fA fdA ["thing"] (spAsPoly P w C)
  mS : mg "_sum_of" = some (.ref fS)
  kS : PySem.W.keepIn K (.ref fS) = true
  bS : Binds K fdS ["one", "other"] []
  GS : FnOk P w K mg base CX0 3 fS fdS ["one", "other"] (spSum P w C)
  mM : mg "_product_of" = some (.ref fM)
  kM : PySem.W.keepIn K (.ref fM) = true
  bM : Binds K fdM ["one", "other"] []
  GM : FnOk P w K mg base CX0 3 fM fdM ["one", "other"] (spProd P w C)
section
variable {C fA fS fM fN : Addr} {fdA fdS fdM : FuncData}
theorem ok_padd {f : Addr} {fd : FuncData} (F : Fun K "__add__" "Poly.__add__" sPAdd f fd) (O : OpsIn P w K mg base C fA fS fM fN fdA fdS fdM) : FnOk P w K mg base CX0 5 f fd ["self", "other"] (spLin P w C fun a b => a + b) := by
  refine F.ok scPAdd (fun vs H Q E h => ?_) (fun cdv Ar outer s H vs Q E hr h => ?_)
  · obtain ⟨p, y, A, ns, n1, b1, n2, b2, D, v, rfl, _⟩ := h
    rfl
  · obtain ⟨p, y, A, ns, n1, b1, n2, b2, D, v, rfl, hA, fA', hy, few, small, _, _, qq⟩ := h
    have nd := scPAdd.nd
    refine ⟨_, pss_cons (ps_set (i := 2) nd rfl (.inl rfl) (pe_call O.GA hr (by rfl) O.mA O.kA O.bA .nil pass0 (pa_cons (pv 1) pa_nil)))
      (pss_cons (ps_if (pt_cmpR op_isN (pv 2) pe_non (nomark _)) pss_no pss_nil)
      (pss_one (ps_ret (pe_call O.GS (hr.mono (by decide)) (by rfl) O.mS O.kS O.bS .nil pass0 (pa_cons (pv 0) (pa_cons (pv 2) pa_nil)))))), ?_⟩
    refine ⟨_, rfl, y, ns, n2, b2, D, v, rfl, hy, fun H1 q B s1 hB fB vB _ => ?_⟩
    refine ⟨_, rfl, rfl, _, rfl, iteF ?_⟩
    refine ⟨_, rfl, _, rfl, p, q, A, B, ns, n1, b1, n2, b2, D, rfl, hA.same s1, hB, fA', fB, few, small, fun H2 r R s2 fr hR fR vR => ?_⟩
    exact qq _ _ _ (s1.trans s2) (fr.back s1) hR fR fun u => by rw [vR u, vB u]
end
end
end Po
namespace Po
open PySem PySem.Spec L2 Lo PyProof.Rows
section
variable {prog : Program} {w : World} {A : Around} {Er : Value → Shared → Prop} {s : Shared} {K : PySem.W.Frag} {x C f : Addr} {ox : Obj} {od : Option Obj}
theorem bool_own {Qv : Value → Shared → Prop} (X : K.In s.heap) (I : PySem.W.InstAt s.heap x ox C od) (hs : PySem.W.findIn K (.ref C) "__bool__" = some (some (.ref f))) (hf : PySem.W.isFn K (.ref f) = true)
    (h : wpAny (model prog w) A.in1.in1 (call (.ref f) [.ref x]) (fun r t => ∃ b : Bool, r = Value.bool b ∧ Qv r t) Er s) : wpAny (model prog w) A (call (.type "bool") [.ref x]) Qv Er s := by
  refine callType_codes (T := "bool") (Bi := Builtin.«object.__init__») (Q₁ := fun r t => ∃ b : Bool, r = Value.bool b ∧ Qv r t) PySem.F.called_bool (PySem.F.typeCall_bool_1 _) PySem.F.entry_object_init ?_ ?_
  · refine codeAny_of_tree ?_
    show wpAny _ A.in1.in1 (do checkBuiltinCall "bool.__new__" ⟨[.type "bool", .ref x], []⟩; again (.builtin "bool.__new__" ⟨[.type "bool", .ref x], []⟩)) _ _ s
    refine wpAny_bind (wpAny_of_eq (PySem.F.newCall_bool_1 _) (wpAny_pure ⟨plainId_quiet (by decide +kernel) _, codeAny_builtin PySem.F.entry_bool_new ?_⟩))
    rw [Around.under_plainId (by decide +kernel) _]
    unfold Builtin.«bool.__new__»
    have isT : isType (.type "bool") = pure true := by first | rfl | kernel_rfl | (unfold isType; rw [isSubtype_type]; kernel_rfl)
    have one : someArgs "bool" 0 1 { pos := [Value.ref x] } = pure [Value.ref x] := by first | rfl | kernel_rfl
    refine wpAny_bind (wpAny_of_eq (a := true) isT ?_)
    refine PySem.W.KFB.if_not rfl ?_
    refine wpAny_bind (wpAny_of_eq (a := true) PySem.F.conv_sub_bool ?_)
    refine PySem.W.KFB.if_not rfl ?_
    refine wpAny_bind (wpAny_of_eq (a := [Value.ref x]) one ?_)
    refine wpAny_bind (m := truthy (.ref x)) ?_
    unfold truthy
    refine wpAny_bind (m := callSpecial? (.ref x) "__bool__") (PySem.W.special_fn X I hs (beq_iff_eq.mp hf) (wpAny_mono h (fun r t ht => ?_) fun _ _ y => y))
    obtain ⟨b, rfl, hq⟩ := ht
    exact wpAny_pure (wpAny_pure ⟨b, rfl, hq⟩)
  · rintro obj t ⟨b, rfl, hq⟩
    exact ⟨rfl, PySem.F.args_object_init_2 _ _, object_init_meets PySem.F.called_bool.init.lookup PySem.F.called_bool.made (by decide) prog w A.in1 _ t ⟨rfl, rfl, hq⟩⟩
end
section
variable {X : Cx} {CX : CXT} {k n : Nat} {f g C : Addr} {fd : FuncData} {ps : List Str} {sp : Sp} {E : XK}
/-- bool(x), x an instance of the class at C -/
def rBoolO (C : Addr) (sp : Sp) (E : XK) : List V → Hp → VK → Prop := fun xs H Q => ∃ a dx fs, xs = [V.ref a] ∧ H a = some (.ins C dx fs) ∧ sp [.ref a] H (fun z H' => ∃ b : Bool, z = .bl b ∧ Q z H') E
theorem call_boolO (hs : PySem.W.findIn X.K (.ref C) "__bool__" = some (some (.ref g))) (hf : PySem.W.isFn X.K (.ref g) = true) (F : FnR X.prog X.w X.K X.mg X.base CX n g sp) (hr : Room (n + 2) X.A) (hx : Passes CX X E) : CallR X (.type "bool") (rBoolO C sp E) := by
  rintro pins s σ H xs us Q I r ⟨a, dx, fs, rfl, ha, q⟩
  cases r with
  | cons ru rest =>
    cases rest
    cases ru
    obtain ⟨mA, O, _⟩ := ins_get I.hok ha
    obtain ⟨od, J, _⟩ := O.look
    have room := (show Room (n + 1) X.A.in1 from Room.in1 hr).in1
    refine bool_own I.kIn J hs hf (wpAny_mono (wpAny_call (SlX.run_at (us := [.ref a]) (ws := [.ref a]) F room I.env0.in1.in1 hx I (.cons rfl .nil) q)) (fun v t ht => ?_) fun _ _ z => z)
    obtain ⟨z, H', J', rz, b, rfl, qz⟩ := ht
    cases (show v = Value.bool b from rz)
    exact ⟨b, rfl, .bl b, H', J', rfl, qz⟩
/-- x op y, two instances of the class at C -/
def rBinO (C : Addr) (sp : Sp) (E : XK) : R2 := fun x y H Q => ∃ a dx fs b dy gs, x = .ref a ∧ y = .ref b ∧ H a = some (.ins C dx fs) ∧ H b = some (.ins C dy gs) ∧ sp [.ref a, .ref b] H (fun z H' => ∃ c, z = .ref c ∧ Q z H') E
theorem op_binO {op : Operator} (hc : PySem.W.selfFirst X.K C = true) (hs : PySem.W.findIn X.K (.ref C) (PySem.dunder op.info.2) = some (some (.ref g))) (hf : PySem.W.isFn X.K (.ref g) = true) (F : FnR X.prog X.w X.K X.mg X.base CX n g sp) (hr : Room n X.A) (hx : Passes CX X E) :
    OpR X (binaryOp op) (rBinO C sp E) := by
  rintro pins s σ H x y v u Q I rx ry ⟨a, dx, fs, b, dy, gs, rfl, rfl, ha, hb, q⟩
  cases rx
  cases ry
  obtain ⟨_, O, _⟩ := ins_get I.hok ha
  obtain ⟨_, J, _⟩ := O.look
  obtain ⟨_, O2, _⟩ := ins_get I.hok hb
  obtain ⟨_, J2, _⟩ := O2.look
  obtain ⟨m, fr⟩ := I.fr
  refine PySem.W.binop_K fr I.ok.mod.kin J J2.type hc hs hf (wpAny_mono (wpAny_call (SlX.run_at (us := [.ref a, .ref b]) (ws := [.ref a, .ref b]) F hr I.env0 hx I (.cons rfl (.cons rfl .nil)) q)) (fun v t ht => ?_) fun _ _ z => z)
  obtain ⟨z, H', J', rz, c, rfl, qz⟩ := ht
  cases (show v = Value.ref c from rz)
  exact ⟨.ref c, H', J', rfl, qz⟩
/-- -x, an instance of the class at C -/
def rNegO (C : Addr) (sp : Sp) (E : XK) : V → Hp → VK → Prop := fun x H Q => ∃ a dx fs, x = .ref a ∧ H a = some (.ins C dx fs) ∧ sp [.ref a] H Q E
theorem un_negO (hs : PySem.W.findIn X.K (.ref C) "__neg__" = some (some (.ref g))) (hf : PySem.W.isFn X.K (.ref g) = true) (F : FnR X.prog X.w X.K X.mg X.base CX n g sp) (hr : Room n X.A) (hx : Passes CX X E) : UnR X (unaryOp .USub) (rNegO C sp E) := by
  rintro pins s σ H x v Q I rx ⟨a, dx, fs, rfl, ha, q⟩
  cases rx
  obtain ⟨_, O, _⟩ := ins_get I.hok ha
  obtain ⟨_, J, _⟩ := O.look
  obtain ⟨m, fr⟩ := I.fr
  exact PySem.W.ksp_neg fr I.ok.mod.kin J hs hf (wpAny_call (SlX.run_at (us := [.ref a]) (ws := [.ref a]) F hr I.env0 hx I (.cons rfl .nil) q))
end
section
variable {P : Program} {w : World} {K : PySem.W.Frag} {mg : Str → Option Value} {base : Heap} {C fA fS fM fN : Addr} {fdA fdS fdM : FuncData}
theorem ok_pradd {f : Addr} {fd : FuncData} (F : Fun K "__radd__" "Poly.__radd__" sPRAdd f fd) (O : OpsIn P w K mg base C fA fS fM fN fdA fdS fdM) : FnOk P w K mg base CX0 5 f fd ["self", "other"] (spLin P w C fun a b => b + a) := by
  refine F.ok scPRAdd (fun vs H Q E h => ?_) (fun cdv Ar outer s H vs Q E hr h => ?_)
  · obtain ⟨p, y, A, ns, n1, b1, n2, b2, D, v, rfl, _⟩ := h
    rfl
  · obtain ⟨p, y, A, ns, n1, b1, n2, b2, D, v, rfl, hA, fA', hy, few, small, _, _, qq⟩ := h
    have nd := scPRAdd.nd
    refine ⟨_, pss_cons (ps_set (i := 2) nd rfl (.inl rfl) (pe_call O.GA hr (by rfl) O.mA O.kA O.bA .nil pass0 (pa_cons (pv 1) pa_nil)))
      (pss_cons (ps_if (pt_cmpR op_isN (pv 2) pe_non (nomark _)) pss_no pss_nil)
      (pss_one (ps_ret (pe_call O.GS (hr.mono (by decide)) (by rfl) O.mS O.kS O.bS .nil pass0 (pa_cons (pv 2) (pa_cons (pv 0) pa_nil)))))), ?_⟩
    refine ⟨_, rfl, y, ns, n2, b2, D, v, rfl, hy, fun H1 q B s1 hB fB vB _ => ?_⟩
    refine ⟨_, rfl, rfl, _, rfl, iteF ?_⟩
    refine ⟨_, rfl, _, rfl, q, p, B, A, ns, n2, b2, n1, b1, D, rfl, hB, hA.same s1, fB, fA', by omega, by omega, fun H2 r R s2 fr hR fR vR => ?_⟩
    exact qq _ _ _ (s1.trans s2) (fr.back s1) hR (fR.mono (by omega) (by omega) (Nat.le_refl _)) fun u => by rw [vR u, vB u]
theorem ok_psub {f : Addr} {fd : FuncData} (F : Fun K "__sub__" "Poly.__sub__" sPSub f fd) (O : OpsIn P w K mg base C fA fS fM fN fdA fdS fdM)
    (hn : PySem.W.findIn K (.ref C) "__neg__" = some (some (.ref fN))) (hi : PySem.W.isFn K (.ref fN) = true) (GN : FnR P w K mg base CX0 3 fN (spNeg P w C)) : FnOk P w K mg base CX0 5 f fd ["self", "other"] (spLin P w C fun a b => a - b) := by
  refine F.ok scPSub (fun vs H Q E h => ?_) (fun cdv Ar outer s H vs Q E hr h => ?_)
  · obtain ⟨p, y, A, ns, n1, b1, n2, b2, D, v, rfl, _⟩ := h
    rfl
  · obtain ⟨p, y, A, ns, n1, b1, n2, b2, D, v, rfl, hA, fA', hy, few, small, p1, p2, qq⟩ := h
    have nd := scPSub.nd
    refine ⟨_, pss_cons (ps_set (i := 2) nd rfl (.inl rfl) (pe_call O.GA hr (by rfl) O.mA O.kA O.bA .nil pass0 (pa_cons (pv 1) pa_nil)))
      (pss_cons (ps_if (pt_cmpR op_isN (pv 2) pe_non (nomark _)) pss_no pss_nil)
      (pss_one (ps_ret (pe_call O.GS (hr.mono (by decide)) (by rfl) O.mS O.kS O.bS .nil pass0 (pa_cons (pv 0) (pa_cons (pe_un (un_negO hn hi GN (hr.mono (by decide)) pass0) (pv 2)) pa_nil)))))), ?_⟩
    refine ⟨_, rfl, y, ns, n2, b2, D, v, rfl, hy, fun H1 q B s1 hB fB vB _ => ?_⟩
    refine ⟨_, rfl, rfl, _, rfl, iteF ?_⟩
    have hB' := hB
    obtain ⟨dq, tq, hq, _⟩ := hB'
    refine ⟨_, rfl, _, rfl, q, dq, _, rfl, hq, q, B, ns, n2, b2, D, rfl, hB, fB, by omega, p2, by omega, fun H2 r R s2 fr hR fR vR => ?_⟩
    refine ⟨p, r, A, R, ns, n1, b1, n2, b2, D, rfl, (hA.same s1).same s2, hR, fA', fR, few, small, fun H3 r3 R3 s3 fr3 hR3 fR3 vR3 => ?_⟩
    exact qq _ _ _ ((s1.trans s2).trans s3) (fr3.back (s1.trans s2)) hR3 fR3 fun u => by
      rw [vR3 u, vR u, vB u]
      exact (Rat.sub_eq_add_neg _ _).symm
theorem ok_prsub {f : Addr} {fd : FuncData} (F : Fun K "__rsub__" "Poly.__rsub__" sPRSub f fd) (O : OpsIn P w K mg base C fA fS fM fN fdA fdS fdM)
    (hn : PySem.W.findIn K (.ref C) "__neg__" = some (some (.ref fN))) (hi : PySem.W.isFn K (.ref fN) = true) (GN : FnR P w K mg base CX0 3 fN (spNeg P w C)) : FnOk P w K mg base CX0 5 f fd ["self", "other"] (spLin P w C fun a b => b - a) := by
  refine F.ok scPRSub (fun vs H Q E h => ?_) (fun cdv Ar outer s H vs Q E hr h => ?_)
  · obtain ⟨p, y, A, ns, n1, b1, n2, b2, D, v, rfl, _⟩ := h
    rfl
  · obtain ⟨p, y, A, ns, n1, b1, n2, b2, D, v, rfl, hA, fA', hy, few, small, p1, p2, qq⟩ := h
    have nd := scPRSub.nd
    refine ⟨_, pss_cons (ps_set (i := 2) nd rfl (.inl rfl) (pe_call O.GA hr (by rfl) O.mA O.kA O.bA .nil pass0 (pa_cons (pv 1) pa_nil)))
      (pss_cons (ps_if (pt_cmpR op_isN (pv 2) pe_non (nomark _)) pss_no pss_nil)
      (pss_one (ps_ret (pe_call O.GS (hr.mono (by decide)) (by rfl) O.mS O.kS O.bS .nil pass0 (pa_cons (pv 2) (pa_cons (pe_un (un_negO hn hi GN (hr.mono (by decide)) pass0) (pv 0)) pa_nil)))))), ?_⟩
    refine ⟨_, rfl, y, ns, n2, b2, D, v, rfl, hy, fun H1 q B s1 hB fB vB _ => ?_⟩
    refine ⟨_, rfl, rfl, _, rfl, iteF ?_⟩
    have hA1 := hA.same s1
    have hA' := hA1
    obtain ⟨dp, tp, hp, _⟩ := hA'
    refine ⟨_, rfl, _, rfl, p, dp, _, rfl, hp, p, A, ns, n1, b1, D, rfl, hA1, fA', by omega, p1, by omega, fun H2 r R s2 fr hR fR vR => ?_⟩
    refine ⟨q, r, B, R, ns, n2, b2, n1, b1, D, rfl, hB.same s2, hR, fB, fR, by omega, by omega, fun H3 r3 R3 s3 fr3 hR3 fR3 vR3 => ?_⟩
    exact qq _ _ _ ((s1.trans s2).trans s3) (fr3.back (s1.trans s2)) hR3 (fR3.mono (by omega) (by omega) (Nat.le_refl _)) fun u => by
      rw [vR3 u, vR u, vB u]
      exact (Rat.sub_eq_add_neg _ _).symm
theorem late_apart {H H' : Hp} {p q : Addr} {y : V} {A B : Pol} (hA : PolyAt P w C H p A) (s : Same H H') (hB : PolyAt P w C H' q B) (ap : ∀ q, y = .ref q → Apart H p q) (h : y = .ref q ∨ FrP H H' q) (hy : ∀ q, y = .ref q → ∃ B', PolyAt P w C H q B') : Apart H' p q := by
  rcases h with rfl | fr
  · obtain ⟨B', hB'⟩ := hy q rfl
    exact (ap q rfl).same s hA hB'
  · exact (fr.apart s hA).symm
theorem Late.at_ {H : Hp} {y : V} {ns : List Str} {n b D : Nat} {v : (Str → Int) → Rat} (h : Late P w C H y ns n b D v) : ∀ q, y = .ref q → ∃ B', PolyAt P w C H q B' := by
  rintro q rfl
  rcases h with ⟨q', B, e, h, _⟩ | ⟨i, e, _⟩
  · cases e
    exact ⟨B, h⟩
  · cases e
theorem ok_pmul {f : Addr} {fd : FuncData} (F : Fun K "__mul__" "Poly.__mul__" sPMul f fd) (O : OpsIn P w K mg base C fA fS fM fN fdA fdS fdM) : FnOk P w K mg base CX0 5 f fd ["self", "other"] (spMul P w C) := by
  refine F.ok scPMul (fun vs H Q E h => ?_) (fun cdv Ar outer s H vs Q E hr h => ?_)
  · obtain ⟨p, y, A, ns, n1, b1, D1, n2, b2, D2, v, rfl, _⟩ := h
    rfl
  · obtain ⟨p, y, A, ns, n1, b1, D1, n2, b2, D2, v, rfl, hA, fA', hy, ap, few, small, deg, qq⟩ := h
    have nd := scPMul.nd
    refine ⟨_, pss_cons (ps_set (i := 2) nd rfl (.inl rfl) (pe_call O.GA hr (by rfl) O.mA O.kA O.bA .nil pass0 (pa_cons (pv 1) pa_nil)))
      (pss_cons (ps_if (pt_cmpR op_isN (pv 2) pe_non (nomark _)) pss_no pss_nil)
      (pss_one (ps_ret (pe_call O.GM (hr.mono (by decide)) (by rfl) O.mM O.kM O.bM .nil pass0 (pa_cons (pv 0) (pa_cons (pv 2) pa_nil)))))), ?_⟩
    refine ⟨_, rfl, y, ns, n2, b2, D2, v, rfl, hy, fun H1 q B s1 hB fB vB late => ?_⟩
    refine ⟨_, rfl, rfl, _, rfl, iteF ?_⟩
    have ap1 := late_apart hA s1 hB ap late hy.at_
    refine ⟨_, rfl, _, rfl, p, q, A, B, ns, n1, b1, D1, n2, b2, D2, rfl, hA.same s1, hB, ap1, fA', fB, few, small, deg, fun H2 r R s2 fr hR fR vR => ?_⟩
    exact qq _ _ _ (s1.trans s2) (fr.back s1) hR fR fun u => by rw [vR u, vB u]
theorem ok_prmul {f : Addr} {fd : FuncData} (F : Fun K "__rmul__" "Poly.__rmul__" sPRMul f fd) (O : OpsIn P w K mg base C fA fS fM fN fdA fdS fdM) : FnOk P w K mg base CX0 5 f fd ["self", "other"] (spMul P w C) := by
  refine F.ok scPRMul (fun vs H Q E h => ?_) (fun cdv Ar outer s H vs Q E hr h => ?_)
  · obtain ⟨p, y, A, ns, n1, b1, D1, n2, b2, D2, v, rfl, _⟩ := h
    rfl
  · obtain ⟨p, y, A, ns, n1, b1, D1, n2, b2, D2, v, rfl, hA, fA', hy, ap, few, small, deg, qq⟩ := h
    have nd := scPRMul.nd
    refine ⟨_, pss_cons (ps_set (i := 2) nd rfl (.inl rfl) (pe_call O.GA hr (by rfl) O.mA O.kA O.bA .nil pass0 (pa_cons (pv 1) pa_nil)))
      (pss_cons (ps_if (pt_cmpR op_isN (pv 2) pe_non (nomark _)) pss_no pss_nil)
      (pss_one (ps_ret (pe_call O.GM (hr.mono (by decide)) (by rfl) O.mM O.kM O.bM .nil pass0 (pa_cons (pv 2) (pa_cons (pv 0) pa_nil)))))), ?_⟩
    refine ⟨_, rfl, y, ns, n2, b2, D2, v, rfl, hy, fun H1 q B s1 hB fB vB late => ?_⟩
    refine ⟨_, rfl, rfl, _, rfl, iteF ?_⟩
    have ap1 := late_apart hA s1 hB ap late hy.at_
    refine ⟨_, rfl, _, rfl, q, p, B, A, ns, n2, b2, D2, n1, b1, D1, rfl, hB, hA.same s1, ap1.symm, fB, fA', by rw [Nat.mul_comm]; exact few, by omega, by omega, fun H2 r R s2 fr hR fR vR => ?_⟩
    exact qq _ _ _ (s1.trans s2) (fr.back s1) hR (fR.mono (Nat.le_of_eq (Nat.mul_comm _ _)) (by omega) (by omega)) fun u => by rw [vR u, vB u, Rat.mul_comm]
end
end Po
namespace Po
open PySem PySem.Spec L2 Lo PyProof.Rows
abbrev sPBool : Stmt := inClass sPoly 3
abbrev sPCall : Stmt := inClass sPoly 11
abbrev sPFraction : Stmt := inClass sPoly 12
abbrev sPDegree : Stmt := inClass sPoly 13
/-- the greatest exponent -/
def degOf (x : Str) (T : List (Mo × Int)) : Nat := (T.map fun t => (expo x t.1).toNat).foldl max 0
theorem foldl_max_le : ∀ (l : List Nat) (a d : Nat), a ≤ d → (∀ x ∈ l, x ≤ d) → l.foldl max a ≤ d
  | [], _, _, h, _ => h
  | x :: l, a, d, h, k => foldl_max_le l (max a x) d (Nat.max_le.mpr ⟨h, k x List.mem_cons_self⟩) fun y hy => k y (List.mem_cons_of_mem _ hy)
theorem le_foldl_max : ∀ (l : List Nat) (a : Nat), a ≤ l.foldl max a ∧ ∀ x ∈ l, x ≤ l.foldl max a
  | [], a => ⟨Nat.le_refl _, fun x h => nomatch h⟩
  | y :: l, a => by
    obtain ⟨h1, h2⟩ := le_foldl_max l (max a y)
    refine ⟨Nat.le_trans (Nat.le_max_left _ _) h1, fun x hx => ?_⟩
    rcases List.mem_cons.mp hx with e | e
    · rw [e]
      exact Nat.le_trans (Nat.le_max_right _ _) h1
    · exact h2 x e
theorem degOf_le {x : Str} {T : List (Mo × Int)} {d : Nat} (h : ∀ t ∈ T, expo x t.1 ≤ d) : degOf x T ≤ d := by
  refine foldl_max_le _ _ _ (Nat.zero_le _) fun y hy => ?_
  obtain ⟨t, ht, rfl⟩ := List.mem_map.mp hy
  have := h t ht
  omega
theorem le_degOf {x : Str} {T : List (Mo × Int)} {t : Mo × Int} (h : t ∈ T) : expo x t.1 ≤ degOf x T := by
  have := (le_foldl_max (T.map fun t => (expo x t.1).toNat) 0).2 _ (List.mem_map.mpr ⟨t, h, rfl⟩)
  show expo x t.1 ≤ ((T.map fun t => (expo x t.1).toNat).foldl max 0 : Nat)
  omega
theorem foldl_cast : ∀ (l : List Int) (a : Int), (∀ x ∈ l, 0 ≤ x) → 0 ≤ a → l.foldl max a = (((l.map Int.toNat).foldl max a.toNat : Nat) : Int)
  | [], a, _, h => by show a = ((a.toNat : Nat) : Int); omega
  | x :: l, a, k, h => by
    have hx := k x List.mem_cons_self
    show l.foldl max (max a x) = (((l.map Int.toNat).foldl max (max a.toNat x.toNat) : Nat) : Int)
    rw [foldl_cast l (max a x) (fun y hy => k y (List.mem_cons_of_mem _ hy)) (Int.le_trans h (Int.le_max_left _ _))]
    have : (max a x).toNat = max a.toNat x.toNat := by omega
    rw [this]
theorem expo_deg {x : Str} {m : Mo} (g : Good m) : expo x m ≤ degM m := expo_le (by omega) g.exp
theorem worthD {u : Str → Int} {c D : Nat} {ns : List Str} {m : Mo} (hD : degM m ≤ D) (hn : ∀ p ∈ m, p.1 ∈ ns) (hc : ∀ x ∈ ns, (u x).natAbs ≤ 2 ^ c) : (worth u m).natAbs ≤ 2 ^ (c * D) :=
  Nat.le_trans (worth_bits fun p hp => hc _ (hn p hp)) (Nat.pow_le_pow_right (by decide) (Nat.mul_le_mul_left _ hD))
section
variable {P : Program} {w : World} {K : PySem.W.Frag} {mg : Str → Option Value} {base : Heap}
/-! ### __bool__ -/
def spPBool (P : Program) (w : World) (C : Addr) : Sp := fun vs H Q _ => ∃ (p : Addr) (A : Pol), vs = [.ref p] ∧ PolyAt P w C H p A ∧ Q (.bl (decide (0 < A.T.length))) H
theorem scPBool : FnScope ["self"] ["self"] (defScope sPBool) := ⟨rfl, rfl, rfl, by decide +kernel, rfl, by decide +kernel, by decide +kernel⟩
theorem call_lenNP {P : Program} {w : World} {X : Cx} (hP : X.prog = P) (hw : X.w = w) : CallR X (.builtin "len") (rLenN P w) := by
  subst hP hw
  exact call_lenN
theorem ok_pbool {f C fI : Addr} {fd : FuncData} (F : Fun K "__bool__" "Poly.__bool__" sPBool f fd) (T : Blt mg) (X : PTxt K mg C fI) : FnOk P w K mg base CX0 1 f fd ["self"] (spPBool P w C) := by
  refine F.ok scPBool (fun vs H Q E h => ?_) (fun cdv Ar outer s H vs Q E hr h => ?_)
  · obtain ⟨p, A, rfl, _⟩ := h
    rfl
  · obtain ⟨p, A, rfl, hA, q⟩ := h
    refine ⟨_, pss_one (ps_ret (pe_cmpR op_gt (pe_callB (call_lenNP (P := P) (w := w) rfl rfl) (by rfl) T.len PySem.boot_len (pa_cons (pe_fld (pv 0) rfl) pa_nil)) pe_int (nomark _))), ?_⟩
    have hA' := hA
    obtain ⟨dp, tp, hp, hN⟩ := hA'
    refine ⟨_, rfl, pfld_t X hp ⟨tp, A.T, rfl, hN.rd, _, _, rfl, rfl, ?_⟩⟩
    have : (decide ((0 : Int) < ((A.T.length : Nat) : Int))) = decide (0 < A.T.length) := by
      by_cases h : 0 < A.T.length
      · rw [decide_eq_true h, decide_eq_true (by omega)]
      · rw [decide_eq_false h, decide_eq_false (by omega)]
    show Q (.bl (decide ((0 : Int) < ((A.T.length : Nat) : Int)))) H
    rw [this]
    exact q
/-! ### fraction -/
def spFrac (P : Program) (w : World) (C : Addr) : Sp := fun vs H Q _ => ∃ (p d : Addr) (A : Pol) (ns : List Str) (n b D c : Nat) (u : Str → Int), vs = [.ref p, .ref d] ∧ PolyAt P w C H p A ∧ Fits ns n b D A ∧ PtK H d u ns ∧ (∀ x ∈ ns, (u x).natAbs ≤ 2 ^ c) ∧ n ≤ 4000 ∧ 0 < b ∧ b ≤ 9000 ∧ D ≤ 900 ∧ c * D + c + 10 ≤ 900000 ∧
  ∀ H' t a e, Same H H' → H t = none → H' t = some (.tup [.int a, .int e]) → 0 < e → Int.gcd a e = 1 → e.natAbs < 2 ^ b → a.natAbs ≤ (ev u A.T).natAbs → val u A = (a : Rat) / e → Q (.ref t) H'
abbrev nPFraction : List Str := ["self", "point", "above", "monomial", "many", "shared"]
theorem scPFraction : FnScope nPFraction ["self", "point"] (defScope sPFraction) := ⟨rfl, rfl, rfl, by decide +kernel, rfl, by decide +kernel, by decide +kernel⟩
theorem ok_pfrac {f C fI fW : Addr} {fd fdW : FuncData} (F : Fun K "fraction" "Poly.fraction" sPFraction f fd) (U : BltP mg) (X : PTxt K mg C fI)
    (mW : mg "_worth" = some (.ref fW)) (kW : PySem.W.keepIn K (.ref fW) = true) (bW : Binds K fdW ["monomial", "point"] []) (GW : FnOk P w K mg base CX0 1 fW fdW ["monomial", "point"] spWorth) : FnOk P w K mg base CX0 2 f fd ["self", "point"] (spFrac P w C) := by
  refine F.ok scPFraction (fun vs H Q E h => ?_) (fun cdv Ar outer s H vs Q E hr h => ?_)
  · obtain ⟨p, d, A, ns, n, b, D, c, u, rfl, _⟩ := h
    rfl
  · obtain ⟨p, d, A, ns, n, b, D, c, u, rfl, hA, fA, hd, hc, few, b0, b9, D9, small, qq⟩ := h
    have nd := scPFraction.nd
    have hu9 : (Ar.deeper (PyProof.Rows.envOfC (Str.ofString "Poly.fraction") (defScope sPFraction) s.heap.objs.size f cdv)).units + 9 < cLine := by have := hr.units; omega
    refine ⟨_, pss_cons (ps_set (i := 2) nd rfl (.inl rfl) pe_int)
      (pss_cons (ps_lock (ps_for PassesOwn.never rfl (pi_nitems (pe_fld (pv 0) rfl)) (pg_tup rfl (pgs_cons (pg_name (i := 3) nd rfl (.inl rfl)) (pgs_cons (pg_name (i := 4) nd rfl (.inl rfl)) pgs_nil)))
        (pss_one (ps_set (i := 2) nd rfl (.inl rfl) (pe_op op_add (pv 2) (pe_op op_mulW (pv 4) (pe_call GW hr (by rfl) mW kW bW .nil pass0 (pa_cons (pv 3) (pa_cons (pv 1) pa_nil)))))))))
      (pss_cons (ps_set (i := 5) nd rfl (.inl rfl) (L2.pe_callBfun cr_gcd (by rfl) U.gcd (pa_cons (pv 2) (pa_cons (pe_fld (pv 0) rfl) pa_nil))))
      (pss_one (ps_ret (pe_tup (pa_cons (pe_op op_fdivW (pv 2) (pv 5)) (pa_cons (pe_op op_fdivW (pe_fld (pv 0) rfl) (pv 5)) pa_nil))))))), ?_⟩
    obtain ⟨dp, tp, hp, ks, ht, mk, eT⟩ := hA
    have pA := fA.can.pos
    have kl : ks.length = A.T.length := by rw [← eT]; simp [strip]
    have hptp : p ≠ tp := ne_of hp ht (fun z => nomatch z)
    refine ⟨tp, _, ht, trivial, fun od => ?_⟩
    have hp0 : upd H tp (.frz od (NdO P w tp ks)) p = some (.ins C dp (pflds tp A.d)) := by rw [upd_ne hptp]; exact hp
    have hd0 : ∀ {H' : Hp}, SameX tp H H' → PtK H' d u ns := fun {H'} sx => by
      obtain ⟨kvs, r, k⟩ := hd
      refine ⟨kvs, ?_, k⟩
      rcases r with r | ⟨o, r⟩
      · exact .inl (sx _ _ (ne_of r ht (fun z => nomatch z)) r)
      · exact .inr ⟨o, sx _ _ (ne_of r ht (fun z => nomatch z)) r⟩
    refine ⟨.ref p, rfl, p, C, dp, _, _, rfl, hp0, X.cl, X.nT, pflds_t _ _, tp, od, ks, rfl, upd_same, for_it walk_nitems (fun i σ H' => ∃ y3 y4 y5, σ = [some (.ref p), some (.ref d), some (.int (ev u (A.T.take i))), y3, y4, y5] ∧ SameX tp H H' ∧ H' tp = some (.frz od (NdO P w tp ks)))
      ⟨none, none, none, rfl, fun b o n e => by rw [upd_ne n]; exact e, upd_same⟩ (fun i σ H' _ ⟨_, _, _, _, _, e⟩ => e) ?_ ?_⟩
    · rintro i x σ H1 H2 hi ⟨y3, y4, y5, rfl, sx1, h1t⟩ ⟨tu, e, hk, rfl, ntu, rfl⟩
      have hkm := List.mem_of_getElem? hk
      have hi' : A.T[i]? = some (e.1, e.2.2) := by rw [← eT]; exact strip_at hk
      have hiA := List.mem_of_getElem? hi'
      have sT := same_upd (o := HO.tup [V.ref e.2.1, V.int e.2.2]) ntu
      refine ⟨tu, _, rfl, SqT.of upd_same, rfl, _, _, rfl, _, _, rfl, rfl, ?_⟩
      have sx2 := sx1.trans (same_x sT)
      have h2t := sT _ _ h1t
      generalize upd H1 tu (.tup [V.ref e.2.1, V.int e.2.2]) = H2 at sx2 h2t ⊢
      have hm2 : MoK H2 e.1 e.2.1 := (mk e hkm).keeps (sx_keep (o := .own tp) ht sx2)
      have gA := fA.can.good _ hiA
      have mA := fA.mon _ hiA
      have cA := fA.cof _ hiA
      have dM : degM e.1 ≤ D := mA.1
      refine ⟨_, rfl, _, rfl, .ref e.2.1, rfl, .ref d, rfl, e.2.1, d, e.1, u, ns, c, rfl, hm2, hd0 sx2, fun x hx => ⟨mA.2 x hx, ?_, ?_⟩, hc, ?_, fun H3 s3 => ?_⟩
      · have := gA.pos x hx
        omega
      · have := gA.exp x hx
        omega
      · have : c * degM e.1 ≤ c * D := Nat.mul_le_mul_left _ dM
        omega
      · refine ⟨_, _, rfl, rfl, ?_, _, _, rfl, rfl, ?_⟩
        · exact wide_mul (a := b) (b := c * D + 1) cA (lt_pow_succ (worthD dM mA.2 hc)) b0 (by omega) (by omega)
        · refine ⟨some (.ref e.2.1), some (.int e.2.2), y5, ?_, fun b o n eb => s3 _ _ (sx2 _ _ n eb), s3 _ _ h2t⟩
          rw [ev_snoc u hi']
          rfl
    · rintro σ H1 ⟨y3, y4, y5, rfl, sx1, h1t⟩
      rw [kl, List.take_length]
      refine ⟨h1t, ?_⟩
      have s5 : Same H (upd H1 tp (NdO P w tp ks)) := sameX_back ht sx1
      generalize upd H1 tp (NdO P w tp ks) = H5 at s5 ⊢
      generalize hev : ev u A.T = z
      generalize hg : Nat.gcd z.natAbs A.d.natAbs = g
      have gpos : 0 < g := by rw [← hg]; exact Nat.gcd_pos_of_pos_right _ (by omega)
      have gle : g ≤ A.d.natAbs := by rw [← hg]; exact Nat.gcd_le_right _ (by omega)
      have gz : (g : Int) ∣ z := by
        have := Nat.gcd_dvd_left z.natAbs A.d.natAbs
        rw [hg] at this
        exact natCast_dvd'.mpr this
      have gd : (g : Int) ∣ A.d := by
        have := Nat.gcd_dvd_right z.natAbs A.d.natAbs
        rw [hg] at this
        exact natCast_dvd'.mpr this
      have wd : ∀ i : Int, CDivW i (g : Int) := fun i => wide_div (by omega) (b := b) (by rw [Int.natAbs_natCast]; exact Nat.lt_of_le_of_lt gle fA.den) b0 b9
      refine ⟨_, rfl, .ref p, rfl, p, C, dp, _, _, rfl, s5 _ _ hp, X.cl, X.nB, pflds_b _ _, z, A.d, rfl, ?_⟩
      rw [hg]
      refine ⟨_, rfl, _, rfl, _, _, rfl, rfl, wd _, ?_⟩
      refine ⟨.ref p, rfl, p, C, dp, _, _, rfl, s5 _ _ hp, X.cl, X.nB, pflds_b _ _, _, rfl, _, _, rfl, rfl, wd _, by show 2 ≤ sizeLine; decide, fun t ht5 => ?_⟩
      have e1 : A.d / (g : Int) * g = A.d := Int.ediv_mul_cancel gd
      have e2 : z / (g : Int) * g = z := Int.ediv_mul_cancel gz
      have ep : 0 < A.d / (g : Int) := by
        rcases Int.lt_trichotomy 0 (A.d / (g : Int)) with h | h | h
        · exact h
        · rw [← h] at e1
          omega
        · have := Int.mul_neg_of_neg_of_pos h (by omega : (0 : Int) < g)
          omega
      refine qq _ t _ _ (s5.later (s5.free ht5)) (s5.free ht5) upd_same ep ?_ ?_ (by rw [hev]; exact Int.natAbs_ediv_le_natAbs _ _) ?_
      · show Nat.gcd (z / (g : Int)).natAbs (A.d / (g : Int)).natAbs = 1
        rw [Int.natAbs_ediv_of_dvd gz, Int.natAbs_ediv_of_dvd gd, Int.natAbs_natCast, ← hg]
        exact Nat.coprime_div_gcd_div_gcd (by rw [hg]; exact gpos)
      · exact Nat.lt_of_le_of_lt (Int.natAbs_ediv_le_natAbs _ _) fA.den
      · unfold val
        rw [hev]
        refine (rat_cross pA ep).mpr ?_
        generalize A.d / (g : Int) = y at *
        generalize z / (g : Int) = x at *
        rw [← e1, ← e2]
        grind
/-! ### __call__ -/
def spPCall (P : Program) (w : World) (C : Addr) : Sp := fun vs H Q _ => ∃ (p d : Addr) (A : Pol) (ns : List Str) (n b D c : Nat) (u : Str → Int), vs = [.ref p, .ref d] ∧ PolyAt P w C H p A ∧ Fits ns n b D A ∧ PtK H d u ns ∧ (∀ x ∈ ns, (u x).natAbs ≤ 2 ^ c) ∧ n ≤ 4000 ∧ 0 < b ∧ b ≤ 9000 ∧ D ≤ 900 ∧ c * D + c + 10 ≤ 900000 ∧
  ∀ (H' : Hp) (a e : Int), Same H H' → 0 < e → val u A = (a : Rat) / e → Q (.int (a / e)) H'
abbrev nPCall : List Str := ["self", "point", "above", "below"]
theorem scPCall : FnScope nPCall ["self", "point"] (defScope sPCall) := ⟨rfl, rfl, rfl, by decide +kernel, rfl, by decide +kernel, by decide +kernel⟩
theorem ok_pcall {f C fI fF : Addr} {fd fdF : FuncData} (F : Fun K "__call__" "Poly.__call__" sPCall f fd) (X : PTxt K mg C fI)
    (mF : Meth K C "fraction" fF) (bF : Binds K fdF ["self", "point"] []) (GF : FnOk P w K mg base CX0 2 fF fdF ["self", "point"] (spFrac P w C)) : FnOk P w K mg base CX0 3 f fd ["self", "point"] (spPCall P w C) := by
  refine F.ok scPCall (fun vs H Q E h => ?_) (fun cdv Ar outer s H vs Q E hr h => ?_)
  · obtain ⟨p, d, A, ns, n, b, D, c, u, rfl, _⟩ := h
    rfl
  · obtain ⟨p, d, A, ns, n, b, D, c, u, rfl, hA, fA, hd, hc, few, b0, b9, D9, small, qq⟩ := h
    have nd := scPCall.nd
    refine ⟨_, pss_cons (ps_asg (pe_meth (pv 0) X.cl mF GF hr bF .nil pass0 (pa_cons (pv 1) pa_nil)) (pg_tup rfl (pgs_cons (pg_name (i := 2) nd rfl (.inl rfl)) (pgs_cons (pg_name (i := 3) nd rfl (.inl rfl)) pgs_nil))))
      (pss_one (ps_ret (pe_op op_fdivW (pv 2) (pv 3)))), ?_⟩
    have hA' := hA
    obtain ⟨dp, tp, hp, _⟩ := hA'
    refine ⟨.ref p, rfl, p, dp, _, rfl, hp, pflds_no _ _ (by decide) (by decide), .ref d, rfl, ?_⟩
    refine ⟨p, d, A, ns, n, b, D, c, u, rfl, hA, fA, hd, hc, few, b0, b9, D9, small, fun H' t a e s hn ht he hg hb _ hv => ?_⟩
    refine ⟨t, _, rfl, SqT.of ht, rfl, _, _, rfl, _, _, rfl, rfl, ?_⟩
    exact ⟨_, rfl, _, rfl, _, _, rfl, rfl, wide_div he hb b0 b9, qq _ _ _ s he hv⟩
/-! ### degree -/
def spDeg (P : Program) (w : World) (C : Addr) : Sp := fun vs H Q _ => ∃ (p : Addr) (A : Pol) (x : Str), vs = [.ref p, .str x] ∧ PolyAt P w C H p A ∧ A.T.length ≤ 4000 ∧ (∀ t ∈ A.T, Good t.1) ∧ ∀ H', Same H H' → Q (.int ((degOf x A.T : Nat) : Int)) H'
abbrev nPDegree : List Str := ["self", "name", "monomial"]
theorem scPDegree : FnScope nPDegree ["self", "name"] (defScope sPDegree) := ⟨rfl, rfl, rfl, by decide +kernel, rfl, by decide +kernel, by decide +kernel⟩
theorem ok_pdegree {f C fI fE : Addr} {fd fdE : FuncData} (F : Fun K "degree" "Poly.degree" sPDegree f fd) (U : BltP mg) (X : PTxt K mg C fI)
    (mE : mg "_exponent" = some (.ref fE)) (kE : PySem.W.keepIn K (.ref fE) = true) (bE : Binds K fdE ["monomial", "name"] []) (GE : FnOk P w K mg base CX0 1 fE fdE ["monomial", "name"] spExponent) : FnOk P w K mg base CX0 2 f fd ["self", "name"] (spDeg P w C) := by
  refine F.ok scPDegree (fun vs H Q E h => ?_) (fun cdv Ar outer s H vs Q E hr h => ?_)
  · obtain ⟨p, A, x, rfl, _⟩ := h
    rfl
  · obtain ⟨p, A, x, rfl, hA, few, good, qq⟩ := h
    have nd := scPDegree.nd
    have hu10 : (Ar.deeper (PyProof.Rows.envOfC (Str.ofString "Poly.degree") (defScope sPDegree) s.heap.objs.size f cdv)).units + 10 < cLine := by have := hr.units; omega
    refine ⟨_, pss_one (ps_ret (pe_callBK (cr_maxD rfl hu10) (by rfl) U.max PyProof.Rows.boot_max (pa_cons (pe_lock (pe_lc (own := [("monomial", 2)]) (g := gName 2) rfl nd (pi_nkeys (pe_fld (pv 0) rfl)) (blkOk_by (N := nPDegree) (sc := defScope sPDegree) (by decide +kernel))
          (fun _ _ _ _ _ => pg_name (i := 2) nd rfl (.inl rfl)) (fun _ _ _ _ _ => pts_nil) (fun _ _ _ _ _ => pe_call GE hr (by rfl) mE kE bE .nil pass0 (pa_cons (pv 2) (pa_cons (pv 1) pa_nil))))) pa_nil) (pk_cons pe_int pk_nil))), ?_⟩
    obtain ⟨dp, tp, hp, ks, ht, mk, eT⟩ := hA
    have kl : ks.length = A.T.length := by rw [← eT]; simp [strip]
    have hptp : p ≠ tp := ne_of hp ht (fun z => nomatch z)
    refine ⟨tp, _, ht, trivial, fun od => ?_⟩
    have hp0 : upd H tp (.frz od (NdO P w tp ks)) p = some (.ins C dp (pflds tp A.d)) := by rw [upd_ne hptp]; exact hp
    refine ⟨.ref p, rfl, p, C, dp, _, _, rfl, hp0, X.cl, X.nT, pflds_t _ _, tp, od, ks, rfl, upd_same, fun D hD => ?_⟩
    have hDt : D ≠ tp := fun e => by rw [e, upd_same] at hD; cases hD
    have hD0 : H D = none := by rw [upd_ne hDt] at hD; exact hD
    refine lc_it walk_nkeys (fun i H' => SameX tp H H' ∧ H' tp = some (.frz od (NdO P w tp ks)) ∧ H' D = some (.lst ((A.T.take i).map fun t => V.int (expo x t.1)))) ⟨fun b o n e => by rw [upd_ne (ne_of_none e hD0), upd_ne n]; exact e, by rw [upd_ne hDt.symm]; exact upd_same, upd_same⟩ (fun i H' _ h => h.2.1) ?_ ?_
    · rintro i v H1 H2 hi ⟨sx, h1t, h1D⟩ ⟨rfl, e, hk, rfl⟩
      have hkm := List.mem_of_getElem? hk
      have hi' : A.T[i]? = some (e.1, e.2.2) := by rw [← eT]; exact strip_at hk
      have hm2 : MoK H2 e.1 e.2.1 := (mk e hkm).keeps (sx_keep (o := .own tp) ht sx)
      refine ⟨rfl, ?_⟩
      unfold tYes
      refine iteT ⟨_, rfl, _, rfl, e.2.1, e.1, x, rfl, hm2, fun H3 s3 => ?_⟩
      refine ⟨_, s3 _ _ h1D, ?_, ?_, ?_, ?_⟩
      · rw [List.length_map, List.length_take]
        exact small4000 (by omega)
      · exact fun b o n eb => by rw [upd_ne (ne_of_none eb hD0)]; exact s3 _ _ (sx _ _ n eb)
      · rw [upd_ne hDt.symm]
        exact s3 _ _ h1t
      · rw [upd_same, take_snoc hi', List.map_append]
        rfl
    · rintro H1 ⟨sx, h1t, h1D⟩
      rw [kl, List.take_length] at h1D
      refine ⟨h1t, ?_⟩
      have s5 : Same H (upd H1 tp (NdO P w tp ks)) := sameX_back ht sx
      have h5D : upd H1 tp (NdO P w tp ks) D = some (.lst (A.T.map fun t => V.int (expo x t.1))) := by rw [upd_ne hDt]; exact h1D
      generalize upd H1 tp (NdO P w tp ks) = H5 at s5 h5D ⊢
      refine ⟨D, A.T.map fun t => expo x t.1, 0, rfl, rfl, SqL.of (by rw [h5D, List.map_map]; rfl), fun e => ?_, fun n r e => ?_⟩
      · have eT0 : A.T = [] := List.map_eq_nil_iff.mp e
        have := qq H5 s5
        rw [eT0] at this
        exact this
      · have nn : ∀ y ∈ A.T.map fun t => expo x t.1, 0 ≤ y := fun y hy => by
          obtain ⟨t, ht, rfl⟩ := List.mem_map.mp hy
          exact expo_nonneg (good t ht)
        have := qq H5 s5
        have e2 : ((degOf x A.T : Nat) : Int) = r.foldl max n := by
          rw [e] at nn
          rw [foldl_cast r n (fun y hy => nn y (List.mem_cons_of_mem _ hy)) (nn n List.mem_cons_self)]
          unfold degOf
          have : (A.T.map fun t => (expo x t.1).toNat) = (n :: r).map Int.toNat := by
            rw [← e, List.map_map]
            rfl
          rw [this]
          show ((((r.map Int.toNat).foldl max (max 0 n.toNat)) : Nat) : Int) = _
          rw [Nat.zero_max]
        rw [← e2]
        exact this
end
end Po
namespace Po
open PySem PySem.Spec L2 Lo PyProof.Rows
abbrev sPCoefficient : Stmt := inClass sPoly 14
abbrev sPPut : Stmt := inClass sPoly 15
theorem part_snoc {x : Str} {k : Int} {T : List (Mo × Int)} {i : Nat} {t : Mo × Int} (h : T[i]? = some t) : part x k (T.take (i + 1)) = if expo x t.1 = k then part x k (T.take i) ++ [(lo x t.1, t.2)] else part x k (T.take i) := by
  rw [take_snoc h]
  unfold part
  rw [List.filter_append, List.map_append]
  by_cases c : expo x t.1 = k
  · rw [if_pos c]
    simp [c]
  · rw [if_neg c]
    simp [c]
theorem mem_part {x : Str} {k : Int} {T : List (Mo × Int)} {s : Mo × Int} (h : s ∈ part x k T) : ∃ t ∈ T, expo x t.1 = k ∧ s = (lo x t.1, t.2) := by
  unfold part at h
  obtain ⟨t, ht, rfl⟩ := List.mem_map.mp h
  have := List.mem_filter.mp ht
  exact ⟨t, this.1, by simpa using this.2, rfl⟩
theorem len_part (x : Str) (k : Int) (T : List (Mo × Int)) : (part x k T).length ≤ T.length := by
  unfold part
  rw [List.length_map]
  exact List.length_filter_le _ _
theorem degM_lo (x : Str) (m : Mo) : degM (lo x m) ≤ degM m := by
  induction m with
  | nil => exact Nat.le_refl _
  | cons p m ih =>
    unfold lo
    rw [List.filter_cons]
    by_cases c : p.1 = x
    · rw [if_neg (by simpa using c)]
      show degM (lo x m) ≤ p.2.toNat + degM m
      omega
    · rw [if_pos (by simpa using c)]
      show p.2.toNat + degM (lo x m) ≤ p.2.toNat + degM m
      omega
theorem Fits.part {ns : List Str} {n b D : Nat} {A : Pol} (f : Fits ns n b D A) (x : Str) (k : Int) : Acc ns n (2 ^ b - 1) D (part x k A.T) where
  nd := by
    have ndA := f.can.nodup mlt_ord
    unfold Po.part
    rw [List.map_map]
    have h1 : ((A.T.filter fun t => decide (expo x t.1 = k)).map (·.1)).Nodup := (List.filter_sublist.map _).nodup ndA
    rw [List.Nodup, List.pairwise_map] at h1 ⊢
    refine (List.Pairwise.and_mem.mp h1).imp fun {a b} ⟨ha, hb, hne⟩ z => hne ?_
    have a1 := List.mem_filter.mp ha
    have b1 := List.mem_filter.mp hb
    have a2 : expo x a.1 = k := by simpa using a1.2
    have b2 : expo x b.1 = k := by simpa using b1.2
    exact lo_inj (f.can.good _ a1.1) (f.can.good _ b1.1) (a2.trans b2.symm) z
  good := fun s hs => by
    obtain ⟨t, ht, _, rfl⟩ := mem_part hs
    exact (f.can.good t ht).lo
  len := Nat.le_trans (len_part _ _ _) f.len
  cof := fun s hs => by
    obtain ⟨t, ht, _, rfl⟩ := mem_part hs
    have := f.cof t ht
    show t.2.natAbs ≤ _
    omega
  mon := fun s hs => by
    obtain ⟨t, ht, _, rfl⟩ := mem_part hs
    exact ⟨Nat.le_trans (degM_lo _ _) (f.mon t ht).1, fun p hp => (f.mon t ht).2 p (mem_lo.mp hp).1⟩
/-- the value of a coefficient -/
def cf (u : Str → Int) (x : Str) (A : Pol) (k : Nat) : Rat := (ev u (part x (k : Int) A.T) : Rat) / (A.d : Rat)
def horR (B : Rat) : Nat → (Nat → Rat) → Rat
  | 0, _ => 0
  | K + 1, F => F 0 + B * horR B K fun k => F (k + 1)
theorem horR_int (B d : Int) : ∀ (K : Nat) (F : Nat → Int), horR (B : Rat) K (fun k => (F k : Rat) / (d : Rat)) = ((hor B K F : Int) : Rat) / (d : Rat)
  | 0, F => by
    show (0 : Rat) = ((0 : Int) : Rat) / _
    rw [show ((0 : Int) : Rat) = 0 from rfl]
    generalize (d : Rat) = D
    grind
  | K + 1, F => by
    show (F 0 : Rat) / (d : Rat) + (B : Rat) * horR (B : Rat) K (fun k => (F (k + 1) : Rat) / (d : Rat)) = ((F 0 + B * hor B K (fun k => F (k + 1)) : Int) : Rat) / (d : Rat)
    rw [horR_int B d K (fun k => F (k + 1)), Rat.intCast_add, Rat.intCast_mul]
    generalize (F 0 : Rat) = a
    generalize (B : Rat) = b
    generalize ((hor B K fun k => F (k + 1) : Int) : Rat) = c
    generalize (d : Rat) = D
    grind
theorem horR_congr {B : Rat} : ∀ {K : Nat} {F G : Nat → Rat}, (∀ k, k < K → F k = G k) → horR B K F = horR B K G
  | 0, _, _, _ => rfl
  | K + 1, F, G, h => by
    unfold horR
    rw [h 0 (by omega), horR_congr (K := K) (F := fun k => F (k + 1)) (G := fun k => G (k + 1)) fun k hk => h (k + 1) (by omega)]
/-- the coefficients make up the polynomial -/
theorem val_cf (u : Str → Int) (x : Str) {A : Pol} (good : ∀ t ∈ A.T, Good t.1) : val u A = horR (u x : Rat) (degOf x A.T + 1) (cf u x A) := by
  have e := ev_part u x (degOf x A.T + 1) (T := A.T) fun t ht => ⟨good t ht, by have := le_degOf (x := x) ht; omega⟩
  have h := horR_int (u x) A.d (degOf x A.T + 1) fun k => ev u (part x k A.T)
  rw [← e] at h
  exact h.symm
section
variable {P : Program} {w : World} {K : PySem.W.Frag} {mg : Str → Option Value} {base : Heap}
/-! ### coefficient -/
def spCoef (P : Program) (w : World) (C : Addr) : Sp := fun vs H Q _ => ∃ (p : Addr) (A : Pol) (x : Str) (k : Int) (ns : List Str) (n b D : Nat), vs = [.ref p, .str x, .int k] ∧ PolyAt P w C H p A ∧ Fits ns n b D A ∧ n ≤ 4000 ∧ 0 < b ∧ b ≤ 9000 ∧ D ≤ 900 ∧
  ∀ H' r R, Same H H' → FrP H H' r → PolyAt P w C H' r R → Fits ns n b D R → (∀ u, val u R = (ev u (part x k A.T) : Rat) / (A.d : Rat)) → (∀ t ∈ R.T, ∀ p ∈ t.1, p.1 ≠ x) → ((∀ t ∈ A.T, expo x t.1 ≠ k) → R.T = []) → Q (.ref r) H'
abbrev nPCoefficient : List Str := ["self", "name", "many", "found", "monomial", "factor"]
theorem scPCoefficient : FnScope nPCoefficient ["self", "name", "many"] (defScope sPCoefficient) := ⟨rfl, rfl, rfl, by decide +kernel, rfl, by decide +kernel, by decide +kernel⟩
theorem ok_pcoef {f C fI fE fL : Addr} {fd fdI fdE fdL : FuncData} (F : Fun K "coefficient" "Poly.coefficient" sPCoefficient f fd) (X : PTxt K mg C fI)
    (GI : FnOk P w K mg base CX0 1 fI fdI ["self", "terms", "below"] (spPInit P w C)) (bI : Binds K fdI ["self", "terms", "below"] [])
    (mE : mg "_exponent" = some (.ref fE)) (kE : PySem.W.keepIn K (.ref fE) = true) (bE : Binds K fdE ["monomial", "name"] []) (GE : FnOk P w K mg base CX0 1 fE fdE ["monomial", "name"] spExponent)
    (mL : mg "_left_out" = some (.ref fL)) (kL : PySem.W.keepIn K (.ref fL) = true) (bL : Binds K fdL ["monomial", "name"] []) (GL : FnOk P w K mg base CX0 1 fL fdL ["monomial", "name"] spLeftOut) : FnOk P w K mg base CX0 3 f fd ["self", "name", "many"] (spCoef P w C) := by
  refine F.ok scPCoefficient (fun vs H Q E h => ?_) (fun cdv Ar outer s H vs Q E hr h => ?_)
  · obtain ⟨p, A, x, k, ns, n, b, D, rfl, _⟩ := h
    rfl
  · obtain ⟨p, A, x, k, ns, n, b, Dg, rfl, hA, fA, few, b0, b9, D9, qq⟩ := h
    have nd := scPCoefficient.nd
    have hu9 : (Ar.deeper (PyProof.Rows.envOfC (Str.ofString "Poly.coefficient") (defScope sPCoefficient) s.heap.objs.size f cdv)).units + 9 < cLine := by have := hr.units; omega
    have r1 := hr.mono (show 1 ≤ 2 by decide)
    refine ⟨_, pss_cons (ps_set (i := 3) nd rfl (.inl rfl) (pe_nnewP (P := P) (w := w) rfl rfl))
      (pss_cons (ps_lock (ps_for PassesOwn.never rfl (pi_nitems (pe_fld (pv 0) rfl)) (pg_tup rfl (pgs_cons (pg_name (i := 4) nd rfl (.inl rfl)) (pgs_cons (pg_name (i := 5) nd rfl (.inl rfl)) pgs_nil)))
        (pss_one (ps_if (pt_cmpR op_eq (pe_call GE r1 (by rfl) mE kE bE .nil pass0 (pa_cons (pv 4) (pa_cons (pv 1) pa_nil))) (pv 2) (nomark _))
          (pss_one (ps_nput hu9 (pv 3) (pe_call GL r1 (by rfl) mL kL bL .nil pass0 (pa_cons (pv 4) (pa_cons (pv 1) pa_nil))) (pv 5) rfl)) pss_nil))))
      (pss_one (ps_ret (pe_make X.make GI hr (by rfl) X.mg bI .nil pass0 (pa_cons (pv 3) (pa_cons (pe_fld (pv 0) rfl) pa_nil)))))), ?_⟩
    obtain ⟨dp, tp, hp, ks, ht, mk, eT⟩ := hA
    have pA := fA.can.pos
    have kl : ks.length = A.T.length := by rw [← eT]; simp [strip]
    have lA := fA.len
    have hptp : p ≠ tp := ne_of hp ht (fun z => nomatch z)
    have pt := fA.part x k
    intro D hD
    have hDp : tp ≠ D := ne_of_none ht hD
    have hND0 : NDW P w (upd H D (NdO P w D [])) D [] := ⟨[], upd_same, (fun e h => nomatch h), rfl⟩
    have s0 : Same H (upd H D (NdO P w D [])) := same_upd hD
    generalize upd H D (NdO P w D []) = H0 at hND0 s0 ⊢
    have h0t := s0 _ _ ht
    refine ⟨tp, _, h0t, trivial, fun od => ?_⟩
    have hp0 : upd H0 tp (.frz od (NdO P w tp ks)) p = some (.ins C dp (pflds tp A.d)) := by rw [upd_ne hptp]; exact s0 _ _ hp
    refine ⟨.ref p, rfl, p, C, dp, _, _, rfl, hp0, X.cl, X.nT, pflds_t _ _, tp, od, ks, rfl, upd_same, for_it walk_nitems (fun i σ H' => ∃ y4 y5, σ = [some (.ref p), some (.str x), some (.int k), some (.ref D), y4, y5] ∧ SameX tp H H' ∧ H' tp = some (.frz od (NdO P w tp ks)) ∧ NDW P w H' D (part x k (A.T.take i)))
      ⟨none, none, rfl, fun b o n e => by rw [upd_ne n]; exact s0 _ _ e, upd_same, hND0.at' (by rw [upd_ne hDp.symm]) ⟨fun b ys h => by rw [upd_ne (ne_of h h0t (fun z => nomatch z))]; exact h, fun b ob u h => by rw [upd_ne (ne_of h h0t (fun z => nomatch z))]; exact h⟩⟩ (fun i σ H' _ ⟨_, _, _, _, e, _⟩ => e) ?_ ?_⟩
    · rintro i v σ H1 H2 hi ⟨y4, y5, rfl, sx1, h1t, hT1⟩ ⟨tu, e, hk, rfl, ntu, rfl⟩
      have hkm := List.mem_of_getElem? hk
      have hi' : A.T[i]? = some (e.1, e.2.2) := by rw [← eT]; exact strip_at hk
      have hiA := List.mem_of_getElem? hi'
      have sT := same_upd (o := HO.tup [V.ref e.2.1, V.int e.2.2]) ntu
      refine ⟨tu, _, rfl, SqT.of upd_same, rfl, _, _, rfl, _, _, rfl, rfl, ?_⟩
      have sx2 := sx1.trans (same_x sT)
      have h2t := sT _ _ h1t
      have hT2 := hT1.same sT
      generalize upd H1 tu (.tup [V.ref e.2.1, V.int e.2.2]) = H2 at sx2 h2t hT2 ⊢
      have hm2 : MoK H2 e.1 e.2.1 := (mk e hkm).keeps (sx_keep (o := .own tp) ht sx2)
      have mA := fA.mon _ hiA
      have gA := fA.can.good _ hiA
      have dM : degM e.1 ≤ Dg := mA.1
      have lM := gA.len
      refine ⟨_, rfl, _, rfl, e.2.1, e.1, x, rfl, hm2, fun H3 s3 => ?_⟩
      have eD : decide (V.int (expo x e.1) = V.int k) = decide (expo x e.1 = k) := by simp
      refine ⟨_, rfl, rfl, _, rfl, ?_⟩
      rw [eD]
      refine ite2 (fun c => ?_) (fun c => ?_)
      · have c' : expo x e.1 = k := of_decide_eq_true c
        refine ⟨_, rfl, _, rfl, _, rfl, _, rfl, e.2.1, e.1, x, rfl, hm2.same s3, by show e.1.length ≤ 4000; have : e.1.length ≤ degM e.1 := lM; omega, fun H4 q s4 nq hq => ?_⟩
        have hT4 := (hT2.same s3).same s4
        have hlen := len_part x k (A.T.take i)
        rw [List.length_take] at hlen
        refine ⟨D, q, lo x e.1, _, _, rfl, rfl, rfl, hT4, small4000 (by omega), hq, fun H5 n5 => ?_⟩
        obtain ⟨nw, ks5, e5⟩ := n5
        have hp1 := part_snoc (x := x) (k := k) hi'
        rw [if_pos c'] at hp1
        have hnew : lo x e.1 ∉ (part x k (A.T.take i)).map (·.1) := by
          have h1 : (part x k (A.T.take (i + 1))).map (·.1) = (part x k (A.T.take i)).map (·.1) ++ [lo x e.1] := by rw [hp1, List.map_append]; rfl
          have h2 : ((part x k (A.T.take (i + 1))).map (·.1)).Nodup := by
            have h3 := pt.nd
            rw [← List.take_append_drop (i + 1) A.T] at h3
            have h4 : part x k (A.T.take (i + 1) ++ A.T.drop (i + 1)) = part x k (A.T.take (i + 1)) ++ part x k (A.T.drop (i + 1)) := by
              unfold part
              rw [List.filter_append, List.map_append]
            rw [h4, List.map_append] at h3
            exact (List.nodup_append.mp h3).1
          rw [h1] at h2
          intro z
          exact (List.nodup_append.mp h2).2.2 _ z _ (List.mem_singleton.mpr rfl) rfl
        rw [putT_new hnew] at nw
        refine ⟨some (.ref e.2.1), some (.int e.2.2), rfl, fun b o n eb => ?_, ?_, ?_⟩
        · rw [e5, upd_ne (ne_of_none eb hD)]
          exact s4 _ _ (s3 _ _ (sx2 _ _ n eb))
        · rw [e5, upd_ne hDp]
          exact s4 _ _ (s3 _ _ h2t)
        · rw [hp1]
          exact nw
      · have c' : ¬ expo x e.1 = k := fun z => c (decide_eq_true z)
        refine ⟨some (.ref e.2.1), some (.int e.2.2), rfl, fun b o n eb => s3 _ _ (sx2 _ _ n eb), s3 _ _ h2t, ?_⟩
        rw [part_snoc hi', if_neg c']
        exact hT2.same s3
    · rintro σ H1 ⟨y4, y5, rfl, sx1, h1t, hT1⟩
      rw [kl, List.take_length] at hT1
      refine ⟨h1t, ?_⟩
      have s5 : Same H (upd H1 tp (NdO P w tp ks)) := sameX_back ht sx1
      have hT5 : NDW P w (upd H1 tp (NdO P w tp ks)) D (part x k A.T) := hT1.at' (by rw [upd_ne hDp.symm]) ⟨fun b ys h => by rw [upd_ne (ne_of h h1t (fun z => nomatch z))]; exact h, fun b ob u h => by rw [upd_ne (ne_of h h1t (fun z => nomatch z))]; exact h⟩
      generalize upd H1 tp (NdO P w tp ks) = H5 at s5 hT5 ⊢
      refine ⟨.ref D, rfl, .ref p, rfl, p, C, dp, _, _, rfl, s5 _ _ hp, X.cl, X.nB, pflds_b _ _, ?_⟩
      have lT := pt.len
      have p2 : 0 < 2 ^ b := Nat.two_pow_pos b
      refine make_poly hT5 pt.nd pt.good pA fA.den b0 b9 (by omega) fun H6 r R s6 fr hR hN => ?_
      refine qq H6 r R (s5.trans s6) (fr.back s5) hR (hN.fitsA pt pA (by omega) fA.den) (fun u => hN.val pA u) (fun t ht' p hp' => ?_) fun no => ?_
      · obtain ⟨s', hs', e', _⟩ := hN.sub t ht'
        obtain ⟨t2, _, _, rfl⟩ := mem_part hs'
        rw [← e'] at hp'
        exact (mem_lo.mp hp').2
      · have : part x k A.T = [] := by
          rw [List.eq_nil_iff_forall_not_mem]
          intro s' hs'
          obtain ⟨t2, h2, h3, _⟩ := mem_part hs'
          exact no t2 h2 h3
        have hl := hN.len
        rw [this] at hl
        exact List.length_eq_zero_iff.mp (Nat.le_zero.mp hl)
end
end Po
namespace Po
open PySem PySem.Spec L2 Lo PyProof.Rows
section
variable {X : Cx} {CX : CXT} {n : Nat} {f g C : Addr} {sp : Sp} {E : XK} {op : Operator} {nm id : String}
/-- a polynomial op a polynomial, or an int -/
def rPO (C : Addr) (sp : Sp) (E : XK) : R2 := fun x y H Q => rBinO C sp E x y H Q ∨ rIntR C sp E x y H Q
theorem op_poly (ho : op.info.2 = nm) (S : IntSlot nm id) (N : NumCls X.K C nm f g) (F : FnR X.prog X.w X.K X.mg X.base CX n f sp) (hr : Room n X.A) (hx : Passes CX X E) : OpR X (binaryOp op) (rPO C sp E) := by
  intro pins s σ H x y v u Q I rx ry h
  rcases h with h | h
  · exact op_binO N.first (by rw [ho]; exact N.hasf) N.okf F hr hx pins s σ H x y v u Q I rx ry h
  · exact op_intR ho S N F hr hx pins s σ H x y v u Q I rx ry h
end
section
variable {P : Program} {w : World} {K : PySem.W.Frag} {mg : Str → Option Value} {base : Heap}
structure POps (P : Program) (w : World) (K : PySem.W.Frag) (mg : Str → Option Value) (base : Heap) (C a ra s rs m rm : Addr) : Prop where
  cA : NumCls K C "add" a ra
  cS : NumCls K C "sub" s rs
  cM : NumCls K C "mul" m rm
  gA : FnR P w K mg base CX0 5 a (spLin P w C fun a b => a + b)
  gRA : FnR P w K mg base CX0 5 ra (spLin P w C fun a b => b + a)
  gS : FnR P w K mg base CX0 5 s (spLin P w C fun a b => a - b)
  gRS : FnR P w K mg base CX0 5 rs (spLin P w C fun a b => b - a)
  gM : FnR P w K mg base CX0 5 m (spMul P w C)
  gRM : FnR P w K mg base CX0 5 rm (spMul P w C)
theorem rPO_of {C p : Addr} {y : V} {H : Hp} {Q : VK} {E : XK} {sp : Sp} {A : Pol} {ns : List Str} {n b D : Nat} {v : (Str → Int) → Rat} (hA : PolyAt P w C H p A) (hy : Late P w C H y ns n b D v) (h : sp [.ref p, y] H (fun z H' => ∃ c, z = .ref c ∧ Q z H') E) : rPO C sp E (.ref p) y H Q := by
  obtain ⟨dp, tp, hp, _⟩ := hA
  rcases hy with ⟨q, B, rfl, ⟨dq, tq, hq, _⟩, _, _⟩ | ⟨i, rfl, _⟩
  · exact .inl ⟨p, dp, _, q, dq, _, rfl, rfl, hp, hq, h⟩
  · exact .inr ⟨i, p, dp, _, rfl, rfl, hp, h⟩
theorem Late.poly {C q : Addr} {H : Hp} {B : Pol} {ns : List Str} {n b D : Nat} (h : PolyAt P w C H q B) (f : Fits ns n b D B) : Late P w C H (.ref q) ns n b D fun u => val u B := .inl ⟨q, B, rfl, h, f, fun _ => rfl⟩
theorem make_polyA {C : Addr} {H : Hp} {t : Addr} {d : Int} {T : List (Mo × Int)} {b : Nat} {Q : Addr → Hp → Prop} {E : XK} (hT : NDW P w H t T) (nd : (T.map (·.1)).Nodup) (good : ∀ s ∈ T, Good s.1) (hd : 0 < d) (hb : d.natAbs < 2 ^ b) (b0 : 0 < b) (b9 : b ≤ 9000) (few : T.length ≤ 4000)
    (q : ∀ H' p A, Same H H' → FrP H H' p → PolyAt P w C H' p A → NormOf T d A → Q p H') :
    ∀ x dx, H x = none → H dx = none → dx ≠ x → spPInit P w C (.ref x :: ([.ref t, .int d] ++ [])) (upd (upd H dx (.own x)) x (.ins C dx [])) (fun v H2 => v = .non ∧ Q x H2) E := by
  intro x dx hx hdx ne
  have hx2 : upd H dx (.own x) x = none := by
    rw [upd_ne ne.symm]
    exact hx
  have s1 : Same H (upd (upd H dx (.own x)) x (.ins C dx [])) := (same_upd hdx).trans (same_upd hx2)
  refine ⟨x, t, dx, d, T, b, rfl, upd_same, hT.same s1, nd, good, hd, hb, b0, b9, few, fun H' A keep hA hN fr => ⟨rfl, q H' x A (fun b o e => keep b o (s1 _ _ e) (ne_of_none e hx)) ⟨hx, fun t h => s1.free (fr t h)⟩ hA hN⟩⟩
/-! ### put -/
def putN (n1 n2 : Nat) : Nat → Nat
  | 0 => 0
  | j + 1 => putN n1 n2 j * n2 + n1
def putB (b1 b2 : Nat) : Nat → Nat
  | 0 => 2
  | j + 1 => putB b1 b2 j + b2 + 13 + b1 + 13
theorem putN_step (n1 n2 : Nat) : ∀ j, putN n1 n2 j ≤ putN n1 n2 (j + 1)
  | 0 => Nat.zero_le _
  | j + 1 => by
    show putN n1 n2 j * n2 + n1 ≤ putN n1 n2 (j + 1) * n2 + n1
    exact Nat.add_le_add_right (Nat.mul_le_mul_right _ (putN_step n1 n2 j)) _
theorem putN_mono {n1 n2 i j : Nat} (h : i ≤ j) : putN n1 n2 i ≤ putN n1 n2 j := by
  induction j with
  | zero => rw [Nat.le_zero.mp h]; exact Nat.le_refl _
  | succ j ih =>
    rcases Nat.lt_or_ge i (j + 1) with k | k
    · exact Nat.le_trans (ih (by omega)) (putN_step n1 n2 j)
    · rw [show i = j + 1 by omega]
      exact Nat.le_refl _
theorem putB_eq (b1 b2 : Nat) : ∀ j, putB b1 b2 j = 2 + j * (b1 + b2 + 26)
  | 0 => by simp [putB]
  | j + 1 => by
    show putB b1 b2 j + b2 + 13 + b1 + 13 = _
    rw [putB_eq b1 b2 j, Nat.add_mul]
    omega
theorem putB_mono {b1 b2 i j : Nat} (h : i ≤ j) : putB b1 b2 i ≤ putB b1 b2 j := by
  rw [putB_eq, putB_eq]
  have := Nat.mul_le_mul_right (b1 + b2 + 26) h
  omega
theorem putB_pos (b1 b2 j : Nat) : 2 ≤ putB b1 b2 j := by rw [putB_eq]; omega
def spPut (P : Program) (w : World) (C : Addr) : Sp := fun vs H Q _ => ∃ (p : Addr) (y : V) (A : Pol) (x : Str) (ns : List Str) (n1 b1 D1 n2 b2 D2 dm : Nat) (v : (Str → Int) → Rat), vs = [.ref p, .str x, y] ∧ PolyAt P w C H p A ∧ Fits ns n1 b1 D1 A ∧ Late P w C H y ns n2 b2 D2 v ∧ (∀ t ∈ A.T, expo x t.1 ≤ (dm : Int)) ∧
  n1 ≤ 4000 ∧ 0 < b1 ∧ 0 < b2 ∧ putN n1 n2 (dm + 1) ≤ 4000 ∧ putB b1 b2 (dm + 1) ≤ 9000 ∧ (dm + 1) * (D1 + D2) ≤ 900 ∧ D1 ≤ 900 ∧
  ∀ H' r R, Same H H' → FrP H H' r → PolyAt P w C H' r R → Fits ns (putN n1 n2 (dm + 1)) (putB b1 b2 (dm + 1)) ((dm + 1) * (D1 + D2)) R → (∀ u, val u R = horR (v u) (degOf x A.T + 1) (cf u x A)) → Q (.ref r) H'
abbrev nPPut : List Str := ["self", "name", "other", "found", "many"]
theorem scPPut : FnScope nPPut ["self", "name", "other"] (defScope sPPut) := ⟨rfl, rfl, rfl, by decide +kernel, rfl, by decide +kernel, by decide +kernel⟩
theorem ok_pput {f C fI a ra s rs m rm fD fC : Addr} {fd fdI fdD fdC : FuncData} (F : Fun K "put" "Poly.put" sPPut f fd) (T : Blt mg) (X : PTxt K mg C fI) (O : POps P w K mg base C a ra s rs m rm)
    (GI : FnOk P w K mg base CX0 1 fI fdI ["self", "terms", "below"] (spPInit P w C)) (bI : Binds K fdI ["self", "terms", "below"] [])
    (mD : Meth K C "degree" fD) (bD : Binds K fdD ["self", "name"] []) (GD : FnOk P w K mg base CX0 2 fD fdD ["self", "name"] (spDeg P w C))
    (mC : Meth K C "coefficient" fC) (bC : Binds K fdC ["self", "name", "many"] []) (GC : FnOk P w K mg base CX0 3 fC fdC ["self", "name", "many"] (spCoef P w C)) : FnOk P w K mg base CX0 6 f fd ["self", "name", "other"] (spPut P w C) := by
  refine F.ok scPPut (fun vs H Q E h => ?_) (fun cdv Ar outer s H vs Q E hr h => ?_)
  · obtain ⟨p, y, A, x, ns, n1, b1, D1, n2, b2, D2, dm, v, rfl, _⟩ := h
    rfl
  · obtain ⟨p, y, A, x, ns, n1, b1, D1, n2, b2, D2, dm, v, rfl, hA, fA, hy, hdm, few, p1, p2, sN, sB, sD, D9, qq⟩ := h
    have nd := scPPut.nd
    refine ⟨_, pss_cons (ps_set (i := 3) nd rfl (.inl rfl) (pe_make X.make GI (hr.mono (by decide)) (by rfl) X.mg bI .nil pass0 (pa_cons (pe_nnewP (P := P) (w := w) rfl rfl) (pa_cons pe_int pa_nil))))
      (pss_cons (ps_for PassesOwn.never rfl (pi_range3 (by rfl) T.range (pa_cons (pe_meth (pv 0) X.cl mD GD (hr.mono (by decide)) bD .nil pass0 (pa_cons (pv 1) pa_nil)) (pa_cons (pe_un un_neg pe_int) (pa_cons (pe_un un_neg pe_int) pa_nil)))) (pg_name (i := 4) nd rfl (.inl rfl))
        (pss_one (ps_set (i := 3) nd rfl (.inl rfl) (pe_op (op_poly rfl is_add O.cA O.gA hr pass0) (pe_op (op_poly rfl is_mul O.cM O.gM hr pass0) (pv 3) (pv 2)) (pe_meth (pv 0) X.cl mC GC (hr.mono (by decide)) bC .nil pass0 (pa_cons (pv 1) (pa_cons (pv 4) pa_nil)))))))
      (pss_one (ps_ret (pv 3)))), ?_⟩
    have good := fA.can.good
    have lA := fA.len
    have hA' := hA
    obtain ⟨dp, tp, hp, _⟩ := hA'
    have hdeg : degOf x A.T ≤ dm := degOf_le hdm
    have dmb : dm + 1 ≤ 9000 := by
      have h := sB
      rw [putB_eq] at h
      have := Nat.le_mul_of_pos_right (dm + 1) (show 0 < b1 + b2 + 26 by omega)
      omega
    generalize hd : degOf x A.T = d at *
    -- Poly({}, 1)
    intro t ht
    have s0 := same_upd (o := NdO P w t []) ht
    have n0 : NDW P w (upd H t (NdO P w t [])) t [] := ⟨[], upd_same, (fun e h => nomatch h), rfl⟩
    refine make_polyA (d := 1) (b := 2) n0 List.nodup_nil (fun s h => nomatch h) (by decide) (by decide) (by decide) (by decide) (Nat.zero_le _) fun H1 r0 R0 s1 fr0 hR0 hN0 => ?_
    have s01 := s0.trans s1
    have f0 : Fits ns 0 2 0 R0 := hN0.fits (Nat.zero_le _) (fun s h => nomatch h) (by decide) (by decide) (fun s h => nomatch h)
    have v0 : ∀ u, val u R0 = 0 := fun u => by
      rw [hN0.val (by decide) u]
      show ((0 : Int) : Rat) / ((1 : Int) : Rat) = 0
      rw [show ((0 : Int) : Rat) = 0 from rfl, show ((1 : Int) : Rat) = 1 from rfl]
      grind
    -- the degree
    refine ⟨.ref p, rfl, p, dp, _, rfl, s01 _ _ hp, pflds_no _ _ (by decide) (by decide), .str x, rfl, p, A, x, rfl, hA.same s01, by omega, good, fun H2 s2 => ?_⟩
    rw [hd]
    have s02 := s01.trans s2
    refine ⟨_, rfl, _, rfl, (d : Int), -1, -1, d + 1, rfl, ?_, ?_⟩
    · have h := RgC.neg (i := (d : Int)) (j := -1) (by omega) (by omega) (by omega) (by omega)
      have e : ((d : Int) - -1).toNat = d + 1 := by omega
      rw [e] at h
      exact h
    refine for_rangeC (fun i σ H' => ∃ r R y4, σ = [some (.ref p), some (.str x), some y, some (.ref r), y4] ∧ Same H H' ∧ FrP H H' r ∧ PolyAt P w C H' r R ∧ Fits ns (putN n1 n2 i) (putB b1 b2 i) (i * (D1 + D2)) R ∧ ∀ u, val u R = horR (v u) i fun k => cf u x A (d + 1 - i + k))
      ⟨r0, R0, none, rfl, s02, (fr0.back s0).on s2 hR0, hR0.same s2, f0.mono (Nat.le_refl _) (Nat.le_refl _) (by omega), fun u => v0 u⟩ ?_ ?_
    · rintro i σ H3 hi ⟨r, R, y4, rfl, s3, fr, hR, fR, vR⟩
      have ei : (d : Int) + (i : Nat) * -1 = ((d - i : Nat) : Int) := by omega
      rw [ei]
      have hy3 := hy.same s3
      have n_i : putN n1 n2 (i + 1) ≤ 4000 := Nat.le_trans (putN_mono (by omega)) sN
      have b_i : putB b1 b2 (i + 1) ≤ 9000 := Nat.le_trans (putB_mono (by omega)) sB
      have en : putN n1 n2 (i + 1) = putN n1 n2 i * n2 + n1 := rfl
      have eb : putB b1 b2 (i + 1) = putB b1 b2 i + b2 + 13 + b1 + 13 := rfl
      have pb := putB_pos b1 b2 i
      have d_i : (i + 1) * (D1 + D2) ≤ 900 := Nat.le_trans (Nat.mul_le_mul_right _ (by omega)) sD
      have ed : (i + 1) * (D1 + D2) = i * (D1 + D2) + D1 + D2 := by rw [Nat.add_mul]; omega
      refine ⟨.ref r, rfl, y, rfl, rPO_of hR hy3 ⟨r, y, R, ns, _, _, _, _, _, _, v, rfl, hR, fR, hy3, fun q e => ?_, by omega, by omega, by omega, fun H4 r4 R4 s4 fr4 hR4 fR4 vR4 => ⟨r4, rfl, ?_⟩⟩⟩
      · subst e
        obtain ⟨B', hB'⟩ := hy.at_ q rfl
        exact fr.apart s3 hB'
      have s34 := s3.trans s4
      refine ⟨.ref p, rfl, p, dp, _, rfl, s34 _ _ hp, pflds_no _ _ (by decide) (by decide), .str x, rfl, _, rfl, p, A, x, ((d - i : Nat) : Int), ns, n1, b1, D1, rfl, hA.same s34, fA, by omega, p1, by omega, D9, fun H5 r5 R5 s5 fr5 hR5 fR5 vR5 _ _ => ?_⟩
      have hR45 := hR4.same s5
      refine rPO_of hR45 (Late.poly hR5 (fR5.mono (Nat.le_refl _) (Nat.le_refl _) (show D1 ≤ (i + 1) * (D1 + D2) by omega))) ⟨r4, .ref r5, R4, ns, _, _, _, _, (i + 1) * (D1 + D2), _, rfl, hR45, fR4.mono (Nat.le_refl _) (Nat.le_refl _) (by omega), Late.poly hR5 (fR5.mono (Nat.le_refl _) (Nat.le_refl _) (by omega)), by omega, by omega, by omega, p1, fun H6 r6 R6 s6 fr6 hR6 fR6 vR6 => ⟨r6, rfl, ?_⟩⟩
      refine ⟨r6, R6, some (.int ((d - i : Nat) : Int)), rfl, s34.trans (s5.trans s6), fr6.back (s34.trans s5), hR6, fR6.mono (by omega) (by omega) (by omega), fun u => ?_⟩
      rw [vR6 u, vR4 u, vR5 u, vR u]
      show _ = cf u x A (d + 1 - (i + 1) + 0) + v u * horR (v u) i fun k => cf u x A (d + 1 - (i + 1) + (k + 1))
      have e1 : d + 1 - (i + 1) + 0 = d - i := by omega
      have e2 : ∀ k, d + 1 - (i + 1) + (k + 1) = d + 1 - i + k := fun k => by omega
      simp only [e1, e2]
      rw [Rat.mul_comm, Rat.add_comm]
      rfl
    · rintro σ H3 ⟨r, R, y4, rfl, s3, fr, hR, fR, vR⟩
      have hle : d + 1 ≤ dm + 1 := by omega
      refine ⟨_, rfl, qq _ _ _ s3 fr hR (fR.mono (putN_mono hle) (putB_mono hle) (Nat.mul_le_mul_right _ hle)) fun u => ?_⟩
      rw [vR u]
      exact horR_congr fun k hk => by rw [Nat.sub_self, Nat.zero_add]
end
end Po
namespace Po
open PySem L2 Lo
abbrev sDraw : Stmt := top 16
theorem fmod_in {i j : Int} (h : 0 < j) : 0 ≤ i.fmod j ∧ i.fmod j < j := by
  rw [Int.fmod_eq_emod_of_nonneg _ (Int.le_of_lt h)]
  exact ⟨Int.emod_nonneg _ (by omega), Int.emod_lt_of_pos _ h⟩
theorem dpInts {K : PySem.W.Frag} {H : Hp} : ∀ ns : List Int, DpAll K H (ns.map V.int) (ns.map PyData.int)
  | [] => .nil
  | n :: ns => .cons (.int n) (dpInts ns)
theorem eqv_nil (ns : List Int) : PyData.eqv (.list (ns.map PyData.int)) (.list []) = decide (ns = []) := by
  cases ns with
  | nil => rfl
  | cons n ns => exact (decide_eq_false (fun z => nomatch z)).symm
/-- int(e), e an int -/
theorem call_intI {X : Cx} : CallR X (.type "int") (fun xs H Q => ∃ i, xs = [.int i] ∧ Q (.int i) H) := fun pins s σ H xs us Q I r ⟨i, e, q⟩ => call_int1 pins s σ H xs us Q I r (.inl ⟨i, e, q⟩)
section
variable {P : Program} {w : World} {K : PySem.W.Frag} {mg : Str → Option Value} {base : Heap}
/-- the script at s -/
def Scr (K : PySem.W.Frag) (H : Hp) (s : Addr) : Prop := ∃ ns : List Int, SqL K H s (ns.map V.int) ∧ ns.length ≤ 63
theorem Scr.same {H H' : Hp} {s : Addr} (e : Same H H') (h : Scr K H s) : Scr K H' s := by
  obtain ⟨ns, h1, h2⟩ := h
  exact ⟨ns, e.seq h1, h2⟩
/-! ### _law_draw -/
def spDraw (K : PySem.W.Frag) : Sp := fun vs H Q _ => ∃ (s : Addr) (at_ many : Int), vs = [.ref s, .int at_, .int many] ∧ Scr K H s ∧ 1 ≤ many ∧ ∀ H' k, Same H H' → 0 ≤ k → k < many → Q (.int k) H'
abbrev nDraw : List Str := ["script", "at", "many", "row", "cell", "turn", "step", "mixed"]
theorem scDraw : FnScope nDraw ["script", "at", "many"] (defScope sDraw) := ⟨rfl, rfl, rfl, by decide +kernel, rfl, by decide +kernel, by decide +kernel⟩
theorem ok_draw {f : Addr} {fd : FuncData} (F : Fun K "_law_draw" "_law_draw" sDraw f fd) (T : Blt mg) : FnOk P w K mg base CX0 1 f fd ["script", "at", "many"] (spDraw K) := by
  refine F.ok scDraw (fun vs H Q E h => ?_) (fun cdv A outer s H vs Q E hr h => ?_)
  · obtain ⟨s, a, m, rfl, _⟩ := h
    rfl
  · obtain ⟨s, a, m, rfl, ⟨ns, hS, hlen⟩, hm, q⟩ := h
    have nd := scDraw.nd
    refine ⟨_, pss_cons (ps_set (i := 3) nd rfl (.inl rfl) (pe_ifExp (pt_cmpR (op_neD hr.units) (pv 0) (pe_lst pa_nil) (nomark _)) (pe_slice sl_list (pv 0) po_none (po_some pe_int)) (pe_lst (pa_cons pe_int pa_nil))))
      (pss_cons (ps_par (i := 4) (j := 5) rfl nd rfl rfl (by decide) rfl rfl (pa_cons (pe_ix ix_list (pv 3) (pe_op op_modN (pv 1) (pe_callB call_len_seq (by rfl) T.len PySem.boot_len (pa_cons (pv 3) pa_nil))) (fun _ _ => rfl))
          (pa_cons (pe_op op_fdivN (pv 1) (pe_callB call_len_seq (by rfl) T.len PySem.boot_len (pa_cons (pv 3) pa_nil))) pa_nil)) (by rfl))
      (pss_cons (ps_if (pt_cmpR op_ge (pv 4) (pe_op op_pow pe_int pe_int) (nomark _))
        (pss_cons (ps_set (i := 4) nd rfl (.inl rfl) (pe_op op_modN (pe_callTy call_intI (by rfl) T.int PyProof.Rows.boot_int (pa_cons (pv 4) pa_nil)) (pe_op op_pow pe_int pe_int)))
        (pss_cons (ps_for PassesOwn.never rfl (pi_range1 (by rfl) T.range (pa_cons (pe_op op_modN (pv 5) pe_int) pa_nil)) (pg_name (i := 6) nd rfl (.inl rfl)) (pss_one (ps_set (i := 4) nd rfl (.inl rfl) (pe_op op_fdivN (pv 4) pe_int))))
        (pss_one (ps_ret (pe_op op_modN (pe_op op_modN (pe_callTy call_intI (by rfl) T.int PyProof.Rows.boot_int (pa_cons (pv 4) pa_nil)) pe_int) (pv 2)))))) pss_nil)
      (pss_cons (ps_set (i := 7) nd rfl (.inl rfl) (pe_op op_add (pe_op op_mul (pe_op op_add (pe_op op_add (pe_op op_modN (pe_callTy call_intI (by rfl) T.int PyProof.Rows.boot_int (pa_cons (pe_op op_add (pv 4) (pe_op op_mul pe_int (pv 5))) pa_nil)) pe_int) (pe_op op_mul pe_int (pv 1))) pe_int) pe_int)
          (pe_op op_modN (pe_callTy call_intI (by rfl) T.int PyProof.Rows.boot_int (pa_cons (pe_op op_fdivN (pv 4) pe_int) pa_nil)) pe_int)))
      (pss_one (ps_ret (pe_op op_modN (pe_callTy call_intI (by rfl) T.int PyProof.Rows.boot_int (pa_cons (pe_op op_modN (pe_op op_mul (pe_op op_modN (pv 7) pe_int) pe_int) pe_int) pa_nil)) (pv 2))))))), ?_⟩
    -- the row: a list of ints, not empty
    have rowR : ∀ Q : V → Hp → Prop, (∀ (H2 : Hp) (rw_ : Addr) (rs : List Int), Same H H2 → H2 rw_ = some (.lst (rs.map V.int)) → rs ≠ [] → rs.length ≤ 63 → Q (.ref rw_) H2) →
        (tIf (tTest (tOp (rNeD K) (tVar 0) (tLst tNil))) (tSl (rSlL K) (tVar 0) tNoPart (tPart (tC (.int 60)))) (tLst (tCons (tC (.int 7)) tNil))) (L2.start nDraw [.ref s, .int a, .int m]) H Q := by
      intro Q hQ
      refine ⟨.ref s, rfl, Nat.zero_le _, fun e0 ne0 => ?_⟩
      have s1 : Same H (upd H e0 (.lst [])) := same_upd ne0
      refine ⟨_, _, .lst (s1.seq hS) (dpInts ns), .lst (SqL.of upd_same) .nil, PySem.W.ke_shaped_ints ns, PySem.W.ke_shaped_ints [], _, rfl, ?_⟩
      rw [eqv_nil]
      by_cases hn : ns = []
      · rw [decide_eq_true hn]
        refine iteF ⟨by show 1 ≤ sizeLine; decide, fun p np => ?_⟩
        exact hQ _ p [7] (s1.trans (same_upd np)) upd_same (List.cons_ne_nil _ _) (by decide)
      · rw [decide_eq_false hn]
        refine iteT ⟨.ref s, rfl, 60, rfl, s, _, rfl, s1.seq hS, fun p np => ?_⟩
        have ec : cutV (ns.map V.int) none (some 60) = (ns.take 60).map V.int := by
          unfold cutV
          rw [HT.sIx_none, show HT.sIx (ns.map V.int).length (ns.map V.int).length (some 60) = min 60 (ns.map V.int).length from HT.sIx_nat _ _ 60, List.drop_zero, Nat.sub_zero, List.map_take]
          rw [List.length_map]
          by_cases k : 60 ≤ ns.length
          · rw [Nat.min_eq_left k]
          · rw [Nat.min_eq_right (by omega), List.take_of_length_le (by rw [List.length_map]; exact Nat.le_refl _), List.take_of_length_le (by rw [List.length_map]; omega)]
        rw [ec]
        refine hQ _ p (ns.take 60) (s1.trans (same_upd np)) upd_same (fun z => hn ?_) (by rw [List.length_take]; omega)
        cases ns with
        | nil => rfl
        | cons x r => exact nomatch z
    refine rowR _ fun H2 rw_ rs s2 hrw hne hl => ?_
    have hpos : (0 : Int) < (rs.length : Nat) := by
      have := List.length_pos_iff.mpr hne
      omega
    obtain ⟨j, ej, hj⟩ : ∃ j : Nat, a.fmod (rs.length : Nat) = (j : Nat) ∧ j < rs.length := by
      obtain ⟨h0, h1⟩ := fmod_in (i := a) hpos
      exact ⟨(a.fmod (rs.length : Nat)).toNat, by omega, by omega⟩
    have elen : (((rs.map V.int).length : Nat) : Int) = (rs.length : Nat) := by rw [List.length_map]
    have hcell : (rs.map V.int)[j]? = some (.int rs[j]) := by
      rw [List.getElem?_map, List.getElem?_eq_getElem hj]
      rfl
    refine ⟨.ref rw_, rfl, .int a, rfl, .ref rw_, rfl, rw_, _, rfl, .inl (SqL.of hrw), _, _, rfl, rfl, ?_, rw_, _, (j : Nat), .int rs[j], rfl, ?_, SqL.of hrw, atI_nat hcell, ?_⟩
    · rw [elen]
      omega
    · rw [elen]
      show V.int (a.fmod (rs.length : Nat)) = _
      rw [ej]
    refine ⟨.int a, rfl, .ref rw_, rfl, rw_, _, rfl, .inl (SqL.of hrw), _, _, rfl, rfl, ?_, _, _, rfl, ?_⟩
    · rw [elen]
      exact ⟨by omega, by show (rs.length : Int).natAbs < 1073741824; omega⟩
    have fin : ∀ (H' : Hp) (i : Int), Same H H' → Q (.int (i.fmod m)) H' := fun H' i s' => by
      obtain ⟨h0, h1⟩ := fmod_in (i := i) (show 0 < m by omega)
      exact q H' _ s' h0 h1
    have nz : ∀ {i j : Int}, j ≠ 0 → (fun (_ j : Int) => j ≠ 0) i j := fun h => h
    have p40 : (97 : Int) ^ Int.toNat 40 ≠ 0 := by decide
    refine ⟨_, rfl, _, _, rfl, rfl, ⟨by decide, by decide, by decide⟩, _, _, rfl, rfl, _, rfl, ite2 (fun _ => ?_) (fun _ => ?_)⟩
    · refine ⟨_, rfl, _, rfl, _, _, rfl, rfl, ⟨by decide, by decide, by decide⟩, _, _, rfl, rfl, p40, ?_⟩
      refine ⟨_, rfl, _, _, rfl, rfl, (by decide : (40 : Int) ≠ 0), _, rfl, ?_, ?_, ?_⟩
      · obtain ⟨h0, h1⟩ := fmod_in (i := a.fdiv (((rs.map V.int).length : Nat) : Int)) (show (0 : Int) < 40 by decide)
        omega
      · obtain ⟨h0, h1⟩ := fmod_in (i := a.fdiv (((rs.map V.int).length : Nat) : Int)) (show (0 : Int) < 40 by decide)
        omega
      refine for_range (lo := 0) (fun i σ H' => ∃ (c : Int) (y : Option V), σ = [some (.ref s), some (.int a), some (.int m), some (.ref rw_), some (.int c), some (.int (a.fdiv (((rs.map V.int).length : Nat) : Int))), y, none] ∧ H' = H2) ⟨_, _, rfl, rfl⟩ ?_ ?_
      · rintro i σ H' hi ⟨c, y, rfl, rfl⟩
        exact ⟨_, rfl, _, _, rfl, rfl, ⟨by decide, by decide⟩, _, _, rfl, rfl⟩
      · rintro σ H' ⟨c, y, rfl, rfl⟩
        exact ⟨_, rfl, _, rfl, _, _, rfl, rfl, (by decide : (97 : Int) ≠ 0), _, rfl, _, _, rfl, rfl, (by omega : m ≠ 0), fin _ _ s2⟩
    · refine ⟨_, rfl, _, rfl, _, _, rfl, rfl, .inl ⟨by decide, by decide⟩, _, _, rfl, rfl, _, rfl, _, _, rfl, rfl, (by decide : (1000003 : Int) ≠ 0), ?_⟩
      refine ⟨_, rfl, _, _, rfl, rfl, .inl ⟨by decide, by decide⟩, _, _, rfl, rfl, _, _, rfl, rfl, _, _, rfl, rfl, .inr ⟨by decide, by decide⟩, ?_⟩
      refine ⟨_, rfl, _, _, rfl, rfl, ⟨by decide, by decide⟩, _, rfl, _, _, rfl, rfl, (by decide : (999983 : Int) ≠ 0), _, _, rfl, rfl, ?_⟩
      refine ⟨_, rfl, _, _, rfl, rfl, (by decide : (2147483647 : Int) ≠ 0), _, _, rfl, rfl, .inr ⟨by decide, by decide⟩, _, _, rfl, rfl, (by decide : (4294967291 : Int) ≠ 0), _, rfl, _, rfl, _, _, rfl, rfl, (by omega : m ≠ 0), fin _ _ s2⟩
end
end Po
namespace Po
open PySem PySem.Spec L2 Lo PyProof.Rows
abbrev sLEqual : Stmt := top 19
abbrev sLSame : Stmt := top 20
/-! ### the steps of the greatest common divisor -/
def eus (a c : Nat) : Nat := if h : c = 0 then 0 else 1 + eus c (a % c)
termination_by c
decreasing_by exact Nat.mod_lt _ (by omega)
theorem eus_zero (a : Nat) : eus a 0 = 0 := by
  unfold eus
  rw [dif_pos rfl]
theorem eus_pos {a c : Nat} (h : c ≠ 0) : eus a c = 1 + eus c (a % c) := by
  conv => lhs; unfold eus
  rw [dif_neg h]
theorem eus_le : ∀ (k a c : Nat), c < 2 ^ k → eus a c ≤ 2 * k
  | 0, a, c, h => by
    have : c = 0 := by
      have : c < 1 := h
      omega
    rw [this, eus_zero]
    exact Nat.zero_le _
  | k + 1, a, c, h => by
    by_cases c0 : c = 0
    · rw [c0, eus_zero]
      exact Nat.zero_le _
    · rw [eus_pos c0]
      by_cases r0 : a % c = 0
      · rw [r0, eus_zero]
        omega
      · rw [eus_pos r0]
        have h1 : a % c < c := Nat.mod_lt _ (by omega)
        have h2 : c % (a % c) < a % c := Nat.mod_lt _ (by omega)
        have h3 : c = a % c * (c / (a % c)) + c % (a % c) := (Nat.div_add_mod c (a % c)).symm
        have h4 : 1 ≤ c / (a % c) := (Nat.one_le_div_iff (by omega)).mpr (Nat.le_of_lt h1)
        have h5 : a % c ≤ a % c * (c / (a % c)) := Nat.le_mul_of_pos_right _ h4
        have h6 : c % (a % c) < 2 ^ k := by
          rw [Nat.pow_succ] at h
          omega
        have := eus_le k (a % c) (c % (a % c)) h6
        omega
section
variable {P : Program} {w : World} {K : PySem.W.Frag} {mg : Str → Option Value} {base : Heap}
/-! ### _law_equal -/
def spEqual : Sp := fun vs H Q _ => ∃ (t : Addr) (a e above below : Int) (b c : Nat), vs = [.ref t, .int above, .int below] ∧ H t = some (.tup [.int a, .int e]) ∧ 0 < e ∧ Int.gcd a e = 1 ∧ e.natAbs < 2 ^ b ∧ b ≤ 1990 ∧ 0 < below ∧ a * below = above * e ∧ above.natAbs < 2 ^ c ∧ below.natAbs < 2 ^ c ∧ 0 < b ∧ 0 < c ∧ c ≤ 100000 ∧ Q (.bl true) H
abbrev nLEqual : List Str := ["pair", "above", "below", "one", "two", "step"]
theorem scLEqual : FnScope nLEqual ["pair", "above", "below"] (defScope sLEqual) := ⟨rfl, rfl, rfl, by decide +kernel, rfl, by decide +kernel, by decide +kernel⟩
theorem ok_lequal {f : Addr} {fd : FuncData} (F : Fun K "_law_equal" "_law_equal" sLEqual f fd) (T : Blt mg) (U : BltP mg) : FnOk P w K mg base CX0 1 f fd ["pair", "above", "below"] spEqual := by
  refine F.ok scLEqual (fun vs H Q E h => ?_) (fun cdv Ar outer s H vs Q E hr h => ?_)
  · obtain ⟨t, a, e, above, below, b, c, rfl, _⟩ := h
    rfl
  · obtain ⟨t, a, e, above, below, b, c, rfl, ht, he, hg, hb, b9, hbel, heq, ha', hb', b0, c0, c9, q⟩ := h
    have nd := scLEqual.nd
    refine ⟨_, pss_cons (ps_if (PW.pt (pw_or (pt_not (pt_val (pe_callB call_isi (by rfl) T.isi PyProof.Rows.boot_isinstance (pa_cons (pv 0) (pa_cons (pe_bltn (v := .ty "tuple") rfl T.tuple PyProof.Rows.boot_tuple rfl) pa_nil)))))
        (pw_or (pt_cmpR op_ne (pe_callB call_len_seq (by rfl) T.len PySem.boot_len (pa_cons (pv 0) pa_nil)) pe_int (nomark _))
        (pw_or (pt_cmpR op_lt (pe_ix ix_tup (pv 0) pe_int (fun _ _ => rfl)) pe_int (nomark _))
        (pw_or1 (pt_cmpR op_ne (pe_op op_mulW (pe_ix ix_tup (pv 0) pe_int (fun _ _ => rfl)) (pv 2)) (pe_op op_mulW (pv 1) (pe_ix ix_tup (pv 0) pe_int (fun _ _ => rfl))) (nomark _))))))) (pss_one (ps_ret pe_bl)) pss_nil)
      (pss_cons (ps_par (i := 3) (j := 4) rfl nd rfl rfl (by decide) rfl rfl (pa_cons (pe_callB call_abs (by rfl) U.abs PyProof.Rows.boot_abs (pa_cons (pe_ix ix_tup (pv 0) pe_int (fun _ _ => rfl)) pa_nil)) (pa_cons (pe_ix ix_tup (pv 0) pe_int (fun _ _ => rfl)) pa_nil)) (by rfl))
      (pss_cons (ps_for PassesOwn.never rfl (pi_range1 (by rfl) T.range (pa_cons pe_int pa_nil)) (pg_name (i := 5) nd rfl (.inl rfl))
        (pss_cons (ps_if (pt_cmpR op_eq (pv 4) pe_int (nomark _)) (pss_one (ps_ret (pe_cmpR op_eq (pv 3) pe_int (nomark _)))) pss_nil)
        (pss_one (ps_par (i := 3) (j := 4) rfl nd rfl rfl (by decide) rfl rfl (pa_cons (pv 4) (pa_cons (pe_op op_mod (pe_callTy call_intI (by rfl) T.int PyProof.Rows.boot_int (pa_cons (pv 3) pa_nil)) (pv 4)) pa_nil)) (by rfl)))))
      (pss_one (ps_ret pe_bl)))), ?_⟩
    have sq : SqT K H t [.int a, .int e] := SqT.of ht
    have wa : a.natAbs < 2 ^ (c + b) := by
      have h1 : (a * below).natAbs = (above * e).natAbs := by rw [heq]
      rw [Int.natAbs_mul, Int.natAbs_mul] at h1
      have h2 : a.natAbs ≤ a.natAbs * below.natAbs := Nat.le_mul_of_pos_right _ (by omega)
      rw [h1] at h2
      refine Nat.lt_of_le_of_lt h2 ?_
      rw [Nat.pow_add]
      exact Nat.mul_lt_mul'' ha' hb
    refine ⟨.ref t, rfl, _, _, _, _, true, rfl, .ty _, .base (.tup ht), kit_ty (by decide +kernel), true, rfl, iteF ?_⟩
    refine ⟨.ref t, rfl, t, _, rfl, .inr sq, rfl, _, rfl, iteF ?_⟩
    refine ⟨.ref t, rfl, t, _, 1, .int e, rfl, rfl, sq, rfl, _, _, rfl, rfl, _, rfl, ?_⟩
    rw [decide_eq_false (by omega : ¬ e < 1)]
    refine iteF ⟨.ref t, rfl, t, _, 0, .int a, rfl, rfl, sq, rfl, _, rfl, _, _, rfl, rfl, wide_mul wa hb' (by omega) c0 (by omega), _, rfl, .ref t, rfl, t, _, 1, .int e, rfl, rfl, sq, rfl, _, _, rfl, rfl, wide_mul ha' hb c0 b0 (by omega), rfl, _, rfl, ?_⟩
    refine ite2 (fun z => absurd (show (!decide (V.int (a * below) = V.int (above * e))) = true from z) (by rw [heq]; simp)) (fun _ => ?_)
    refine ⟨.ref t, rfl, t, _, 0, .int a, rfl, rfl, sq, rfl, a, rfl, .ref t, rfl, t, _, 1, .int e, rfl, rfl, sq, rfl, ?_⟩
    have eabs : (if a < 0 then -a else a) = ((a.natAbs : Nat) : Int) := by
      by_cases h : a < 0
      · rw [if_pos h]; omega
      · rw [if_neg h]; omega
    rw [eabs]
    have ee : e = ((e.natAbs : Nat) : Int) := by omega
    generalize he' : e.natAbs = e' at *
    subst ee
    have gg : Nat.gcd a.natAbs e' = 1 := by
      have h : Nat.gcd a.natAbs ((e' : Nat) : Int).natAbs = 1 := hg
      rw [Int.natAbs_natCast] at h
      exact h
    have fuel : eus a.natAbs e' ≤ 3980 := Nat.le_trans (eus_le b _ _ hb) (by omega)
    refine ⟨_, _, rfl, 4000, rfl, by decide, by decide, for_range (lo := 0) (fun i σ H' => ∃ (x y : Nat) (y5 : Option V), σ = [some (.ref t), some (.int above), some (.int below), some (.int (x : Nat)), some (.int (y : Nat)), y5] ∧ H' = H ∧ Nat.gcd x y = 1 ∧ i + eus x y ≤ 3980) ⟨_, _, none, rfl, rfl, gg, by omega⟩ ?_ ?_⟩
    · rintro i σ H' hi ⟨x, y, y5, rfl, rfl, g1, fu⟩
      refine ⟨_, rfl, rfl, _, rfl, ite2 (fun z => ?_) (fun z => ?_)⟩
      · have y0 : y = 0 := by
          have := of_decide_eq_true z
          injection this with h
          omega
        subst y0
        rw [Nat.gcd_zero_right] at g1
        subst g1
        exact ⟨_, rfl, rfl, q⟩
      · have y0 : y ≠ 0 := fun h => by
          rw [h] at z
          simp at z
        rw [eus_pos y0] at fu
        refine ⟨_, rfl, _, rfl, _, rfl, _, rfl, _, _, rfl, rfl, by show (0 : Int) < (y : Nat); omega, ?_⟩
        refine ⟨_, _, rfl, y, x % y, some (.int (0 + (i : Nat))), ?_, rfl, ?_, by omega⟩
        · rw [Int.natCast_emod]
          rfl
        · rw [Nat.gcd_comm, ← Nat.gcd_rec, Nat.gcd_comm]
          exact g1
    · rintro σ H' ⟨x, y, y5, rfl, rfl, g1, fu⟩
      have : (4000 : Int).toNat = 4000 := rfl
      omega
/-! ### _law_same -/
def spSame (P : Program) (w : World) (C : Addr) : Sp := fun vs H Q _ => ∃ (p q : Addr) (A B : Pol), vs = [.ref p, .ref q] ∧ PolyAt P w C H p A ∧ PolyAt P w C H q B ∧ A = B ∧ Q (.bl true) H
theorem scLSame : FnScope ["one", "other"] ["one", "other"] (defScope sLSame) := ⟨rfl, rfl, rfl, by decide +kernel, rfl, by decide +kernel, by decide +kernel⟩
theorem op_eqNP {P : Program} {w : World} {X : Cx} (hP : X.prog = P) (hw : X.w = w) (hu : X.A.units + 20 < cLine) : OpR X (compareOp .Eq) (rEqN P w) := by
  subst hP hw
  exact op_eqN hu
theorem ok_lsame {f C fI : Addr} {fd : FuncData} (F : Fun K "_law_same" "_law_same" sLSame f fd) (X : PTxt K mg C fI) : FnOk P w K mg base CX0 1 f fd ["one", "other"] (spSame P w C) := by
  refine F.ok scLSame (fun vs H Q E h => ?_) (fun cdv Ar outer s H vs Q E hr h => ?_)
  · obtain ⟨p, q, A, B, rfl, _⟩ := h
    rfl
  · obtain ⟨p, q, A, B, rfl, hA, hB, rfl, qq⟩ := h
    have nd := scLSame.nd
    have hu20 : (Ar.deeper (PyProof.Rows.envOfC (Str.ofString "_law_same") (defScope sLSame) s.heap.objs.size f cdv)).units + 20 < cLine := by have := hr.units; omega
    refine ⟨_, pss_one (ps_ret (pe_and (pe_cmpR (op_eqNP (P := P) (w := w) rfl rfl hu20) (pe_fld (pv 0) rfl) (pe_fld (pv 1) rfl) (nomark _)) (pe_one (pe_cmpR op_eq (pe_fld (pv 0) rfl) (pe_fld (pv 1) rfl) (nomark _))))), ?_⟩
    obtain ⟨dp, tp, hp, hN⟩ := hA
    obtain ⟨dq, tq, hq, hM⟩ := hB
    refine ⟨.ref p, rfl, p, C, dp, _, _, rfl, hp, X.cl, X.nT, pflds_t _ _, .ref q, rfl, q, C, dq, _, _, rfl, hq, X.cl, X.nT, pflds_t _ _, tp, tq, A.T, rfl, rfl, hN.rd, hM.rd, true, rfl, iteT ?_⟩
    refine ⟨.ref p, rfl, p, C, dp, _, _, rfl, hp, X.cl, X.nB, pflds_b _ _, .ref q, rfl, q, C, dq, _, _, rfl, hq, X.cl, X.nB, pflds_b _ _, rfl, ?_⟩
    have e : decide (V.int A.d = V.int A.d) = true := decide_eq_true rfl
    rw [e]
    exact qq
end
end Po
/-! zip of a tuple and a list -/
namespace Po
open PySem PySem.Spec L2 Lo PyProof.Rows
def ItM (K : PySem.W.Frag) (a b : Addr) : It where
  go := fun i H => ∃ (xs ys : List V) (x y : V), SqT K H a xs ∧ SqL K H b ys ∧ xs[i]? = some x ∧ ys[i]? = some y
  yld := fun i H v H' => ∃ T x y, v = .ref T ∧ H T = none ∧ H' = upd H T (.tup [x, y]) ∧ (∀ xs, SqT K H a xs → xs[i]? = some x) ∧ ∀ ys, SqL K H b ys → ys[i]? = some y
  stop := fun i H => ∃ xs ys : List V, SqT K H a xs ∧ SqL K H b ys ∧ i = xs.length ∧ xs.length = ys.length
section
variable {P : Program} {w : World} {K : PySem.W.Frag} {elts : List Expr} {kk : Nat} {tpos : Pos} {a b z TI TO i1 i2 : Addr}
/-- how the five cells of the zip stand at turn i -/
def ZipSt (a b z TI TO i1 i2 : Addr) (i : Nat) (h : Heap) : Prop :=
  IsZip h z TI TO .none ∧ IsTupOf2 h TI (.ref i1) (.ref i2) ∧ (∃ x y, IsTupOf2 h TO x y) ∧ h.IsTupleIter i1 a i ∧ h.IsListIter i2 b i
abbrev zfp (z TI TO i1 i2 : Addr) : List Addr := [z, TI, TO, i1, i2]
theorem turn_zipM (S : ZipSep2 z TI TO i1 i2 [i1, a] [i2, b]) : Turn P w K (.Tuple elts kk tpos) (ItM K a b) (zfp z TI TO i1 i2) z (ZipSt a b z TI TO i1 i2) := by
  have six : ∀ {c : Addr}, c ∈ zfp z TI TO i1 i2 → c = z ∨ c = TI ∨ c = TO ∨ c = i1 ∨ c = i2 := fun hc => by simpa using hc
  have outside : ∀ {c : Addr}, ¬ c ∈ zfp z TI TO i1 i2 → c ≠ z ∧ c ≠ TI ∧ c ≠ TO ∧ c ≠ i1 ∧ c ≠ i2 := fun {c} hc => by
    simp only [List.mem_cons, List.not_mem_nil, or_false, not_or] at hc
    exact hc
  refine ⟨by simp, fun i h st c hc => ?_, fun i h h' st k => ?_, ?_, ?_, fun A i s Q E st h => wpAny_pyIter_zip st.1 h⟩
  · obtain ⟨hz, hTI, ⟨x, y, hTO⟩, ⟨o1, e1, _, d1⟩, ⟨o2, e2, _, d2⟩⟩ := st
    rcases six hc with rfl | rfl | rfl | rfl | rfl
    · exact ⟨_, hz, fun v q => nomatch q⟩
    · exact ⟨_, hTI, fun v q => nomatch q⟩
    · exact ⟨_, hTO, fun v q => nomatch q⟩
    · exact ⟨o1, e1, fun v q => by rw [d1] at q; cases q⟩
    · exact ⟨o2, e2, fun v q => by rw [d2] at q; cases q⟩
  · obtain ⟨hz, hTI, ⟨x, y, hTO⟩, h1, h2⟩ := st
    exact ⟨k z (by simp) _ hz, k TI (by simp) _ hTI, ⟨x, y, k TO (by simp) _ hTO⟩, h1.at fun o q => k i1 (by simp) o q, h2.at fun o q => k i2 (by simp) o q⟩
  · intro X hP hw hK hc i pins s σ H E I hf st hg
    subst hP hw hK
    obtain ⟨hz, hTI, ⟨x0, y0, hTO⟩, h1, h2⟩ := st
    obtain ⟨xs, ys, x, y, hqx, hqy, hx, hy⟩ := hg
    obtain ⟨its, rv, p, _⟩ := I.tuple hqx
    obtain ⟨its2, rv2, p2, _⟩ := I.list hqy
    obtain ⟨u, hu, ru⟩ := rv.get hx
    obtain ⟨u2, hu2, ru2⟩ := rv2.get hy
    have hu' : its.toArray[i]? = some u := by simpa using hu
    have hu2' : its2.toArray[i]? = some u2 := by simpa using hu2
    have l1 : i < its.toArray.size := (Array.getElem?_eq_some_iff.mp hu').1
    have l2 : i < its2.toArray.size := (Array.getElem?_eq_some_iff.mp hu2').1
    have hza : z < s.heap.objs.size := Heap.lt_size hz
    have na : a ≠ i1 := fun e => by
      obtain ⟨o1, e1, _, d1⟩ := h1
      obtain ⟨o2, e2, _, n2, d2⟩ := p
      rw [e, e1] at e2
      cases e2
      rw [d1] at d2
      cases d2
    have nb : b ≠ i2 := fun e => by
      have := (hf i2 (by simp)).1
      obtain ⟨o2, e2, _, d2⟩ := h2
      have pl := p2.isList
      obtain ⟨o3, e3, hc3, n3, d3⟩ := pl
      rw [e, e2] at e3
      cases e3
      rw [d2] at d3
      cases d3
    refine wpAny_pyNext_zipD2_item S (Draws.tuple (A := X.A.in1) (I.ok.hd hc) i1 a na its.toArray) (Draws.list (A := X.A.in1) (I.ok.hd hc) i2 b nb its2.toArray) hz hTI hTO ⟨h1, p⟩ ⟨h2, p2.isList⟩ l1 l2 fun v1 v2 h' tk e1 e2 z' TO' d1 d2 hT hsz hk => ?_
    rw [hu'] at e1
    rw [hu2'] at e2
    cases e1
    cases e2
    refine ⟨_, rfl, wpAny_letOwnedTupleGo_zip (s := { s with heap := h', toks := tk }) z' fun h'' z'' sb => ?_⟩
    have hT2 : h''.get? s.heap.objs.size = some { cls := .type "tuple", data := .seq #[u, u2] } := (sb.2 _ (Nat.ne_of_gt hza)).trans hT
    have new : ObjOk X.prog X.w (upd H s.heap.objs.size (.tup [x, y])) h'' s.heap.objs.size (.tup [x, y]) :=
      ⟨by show 2 ≤ sizeLine; decide, [u, u2], .cons ru (.cons ru2 .nil), ⟨_, hT2, rfl, _, rfl⟩⟩
    have I1 : Inv X pins σ (upd H s.heap.objs.size (.tup [x, y])) { s with heap := h'', toks := tk } :=
      I.turnedNew (t' := tk) (ch := zfp z TI TO i1 i2) (fun c o hb q => by
        obtain ⟨c1, c2, c3, c4, c5⟩ := outside hb
        exact (sb.2 c c1).trans (hk c o c1 c3 c4 c5 q)) hf (Nat.le_refl _) new
    refine ⟨.ref s.heap.objs.size, _, I1, rfl, ⟨_, x, y, rfl, I.hok.fresh (Nat.le_refl _), rfl, fun l hl => by rw [I.tuple_inj hl hqx]; exact hx, fun l hl => by rw [I.list_inj hl hqy]; exact hy⟩, ⟨z'', (sb.2 _ S.TIz).trans (hk _ _ S.TIz S.TITO S.TIi1 S.TIi2 hTI), ⟨u, u2, (sb.2 _ S.TOz).trans TO'⟩, d1.1.at fun o q => (sb.2 _ S.zi1.symm).trans q, d2.1.at fun o q => (sb.2 _ S.zi2.symm).trans q⟩, fun c hcm => ?_⟩
    have hlt : c < s.heap.objs.size := by
      rcases six hcm with rfl | rfl | rfl | rfl | rfl
      · exact hza
      · exact Heap.lt_size hTI
      · exact Heap.lt_size hTO
      · obtain ⟨_, e1, _⟩ := h1; exact Heap.lt_size e1
      · obtain ⟨_, e2, _⟩ := h2; exact Heap.lt_size e2
    rw [upd_ne (Nat.ne_of_lt hlt)]
    exact (hf c hcm).1
  · intro X hP hw hK hc i pins s σ H E I hf st hg
    subst hP hw hK
    obtain ⟨hz, hTI, ⟨x0, y0, hTO⟩, h1, h2⟩ := st
    obtain ⟨xs, ys, hqx, hqy, rfl, hl⟩ := hg
    obtain ⟨its, rv, p, _⟩ := I.tuple hqx
    obtain ⟨its2, rv2, p2, _⟩ := I.list hqy
    have l1 : xs.length = its.toArray.size := by rw [rv.length]; simp
    have l2 : xs.length = its2.toArray.size := by rw [hl, rv2.length]; simp
    have na : a ≠ i1 := fun e => by
      obtain ⟨o1, e1, _, d1⟩ := h1
      obtain ⟨o2, e2, _, n2, d2⟩ := p
      rw [e, e1] at e2
      cases e2
      rw [d1] at d2
      cases d2
    have nb : b ≠ i2 := fun e => by
      obtain ⟨o2, e2, _, d2⟩ := h2
      obtain ⟨o3, e3, hc3, n3, d3⟩ := p2.isList
      rw [e, e2] at e3
      cases e3
      rw [d2] at d3
      cases d3
    refine wpAny_pyNext_zipD2_end S (Draws.tuple (A := X.A.in1) (I.ok.hd hc) i1 a na its.toArray) (Draws.list (A := X.A.in1) (I.ok.hd hc) i2 b nb its2.toArray) hz hTI hTO ⟨h1, p⟩ ⟨h2, p2.isList⟩ (Nat.le_of_eq l1) (Nat.le_of_eq l2) (.inl l1) fun h' tk hk => ⟨rfl, I.turnedL (t' := tk) (ch := zfp z TI TO i1 i2) (fun c o hb q => ?_) hf⟩
    obtain ⟨c1, c2, c3, c4, c5⟩ := outside hb
    exact hk c o c1 c3 c4 c5 q
end
def iZipM (K : PySem.W.Frag) (ta : TA) : TI := fun σ H R => ta σ H fun vs H1 => ∃ a b xs ys, vs = [.ref a, .ref b] ∧ SqT K H1 a xs ∧ SqL K H1 b ys ∧ R (ItM K a b) H1
theorem pi_zipM {X : Cx} {e e2 : Expr} {ta : TA} {p pos tpos : Pos} {elts : List Expr} {kk : Nat} (hg : Gl X "zip") (hm : X.mg "zip" = none) (ha : PA X [e, e2] ta)
    (hs : starEach [e, e2] X.env = (false, eval e X.env) :: starEach [e2] X.env := by rfl) (hpl : (backTo pos (starEach [e2] X.env)).any (·.1) = false := by rfl) :
    PI X (.Tuple elts kk tpos) (.Call (.Name "zip" p) [e, e2] [] pos) (iZipM X.K ta) := by
  refine ⟨fun pins s σ H R I h => ?_⟩
  refine Call_ (ld_blt I hg hm PyProof.Rows.boot_zip (PyProof.Rows.callWith_type1 (thn (ha.run pos pins s σ H _ I h) fun us s1 ⟨vs, H1, I1, r1, a, b, xs, ys, ex, hqx, hqy, q⟩ => ?_) hs hpl))
  subst ex
  obtain ⟨u1, u2, rfl, ru1, ru2⟩ := vals2 r1
  obtain rfl : u1 = Value.ref a := ru1
  obtain rfl : u2 = Value.ref b := ru2
  obtain ⟨its, rv, p1, _⟩ := I1.tuple hqx
  obtain ⟨its2, rv2, p2, _⟩ := I1.list hqy
  have p1' : s1.heap.IsTuple a its.toArray := p1
  refine zip_begins2 (begins_tuple a its.toArray) (begins_list b its2.toArray) p1' p2.isList fun h' hz hTI hTO g1 g2 hsz hk => wpAny_pyIter_zip hz ?_
  have I2 : Inv X pins σ H1 { s1 with heap := h' } := I1.kept (t' := s1.toks) hk
  have la : a < s1.heap.objs.size := by obtain ⟨o, e, _⟩ := p1'; exact Heap.lt_size e
  have lb : b < s1.heap.objs.size := by obtain ⟨o, e, _⟩ := p2.isList; exact Heap.lt_size e
  refine ⟨s1.heap.objs.size + 4, zfp (s1.heap.objs.size + 4) (s1.heap.objs.size + 2) (s1.heap.objs.size + 3) s1.heap.objs.size (s1.heap.objs.size + 1), _, _, H1, rfl, I2, turn_zipM (zip_sep2 (N := s1.heap.objs.size) (fp1 := [a]) (fp2 := [b]) (fun c hc => by rw [List.mem_singleton.mp hc]; exact la) (fun c hc => by rw [List.mem_singleton.mp hc]; exact lb)), ⟨hz, hTI, ⟨_, _, hTO⟩, ⟨_, g1, rfl, rfl⟩, ⟨_, g2, rfl, rfl⟩⟩, fun c hcm => ?_, q⟩
  have hle : s1.heap.objs.size ≤ c := by
    have e' : c = s1.heap.objs.size + 4 ∨ c = s1.heap.objs.size + 2 ∨ c = s1.heap.objs.size + 3 ∨ c = s1.heap.objs.size ∨ c = s1.heap.objs.size + 1 := by simpa using hcm
    rcases e' with z | z | z | z | z
    · rw [z]; exact Nat.le_add_right _ _
    · rw [z]; exact Nat.le_add_right _ _
    · rw [z]; exact Nat.le_add_right _ _
    · rw [z]; exact Nat.le_refl _
    · rw [z]; exact Nat.le_add_right _ _
  exact I1.fpOk hle (I1.hok.fresh hle)
/-- a loop over zip of a tuple and a list of one length -/
theorem for_zipM {K : PySem.W.Frag} {a b : Addr} {xs ys : List V} {g : TG} {tb : TS} {D : Ends} {σ : L2.St} {H : Hp} (hl : xs.length = ys.length) (Pv : Nat → L2.St → Hp → Prop) (h0 : Pv 0 σ H) (hq : ∀ i σ H, Pv i σ H → SqT K H a xs ∧ SqL K H b ys)
    (hs : ∀ (i : Nat) (x y : V) (T : Addr) (σ : L2.St) (H : Hp), xs[i]? = some x → ys[i]? = some y → Pv i σ H → H T = none → g (.ref T) σ (upd H T (.tup [x, y])) fun σ2 H2 => tb { D with nx := Pv (i + 1), ct := Pv (i + 1), bk := D.nx } σ2 H2) (hd : ∀ σ H, Pv xs.length σ H → D.nx σ H) :
    ∃ W : Nat → Nat → L2.St → Hp → Prop, (∃ m, W 0 m σ H) ∧ ∀ i m σ H, W i m σ H →
      ((ItM K a b).stop i H ∧ D.nx σ H) ∨ ((ItM K a b).go i H ∧ ∃ N : L2.St → Hp → Prop, (∀ σ' H', N σ' H' → ∃ m', m' < m ∧ W (i + 1) m' σ' H') ∧ ∀ v H', (ItM K a b).yld i H v H' → g v σ H' fun σ2 H2 => tb { D with nx := N, ct := N, bk := D.nx } σ2 H2) := by
  refine ⟨fun i m σ H => m + i = xs.length ∧ Pv i σ H, ⟨xs.length, rfl, h0⟩, ?_⟩
  rintro i m σ H ⟨hm, p⟩
  obtain ⟨qx, qy⟩ := hq i σ H p
  cases m with
  | zero =>
    have e : i = xs.length := by omega
    subst e
    exact .inl ⟨⟨xs, ys, qx, qy, rfl, hl⟩, hd σ H p⟩
  | succ m =>
    have hx : xs[i]? = some (xs[i]'(by omega)) := List.getElem?_eq_getElem _
    have hy : ys[i]? = some (ys[i]'(by omega)) := List.getElem?_eq_getElem _
    refine .inr ⟨⟨xs, ys, _, _, qx, qy, hx, hy⟩, Pv (i + 1), fun σ' H' p' => ⟨m, by omega, by omega, p'⟩, fun v H' y => ?_⟩
    obtain ⟨T, x', y', rfl, hT, rfl, f1, f2⟩ := y
    exact hs i x' y' T σ H (f1 xs qx) (f2 ys qy) p hT
end Po
namespace Po
open PySem PySem.Spec L2 Lo PyProof.Rows
abbrev sLPoly : Stmt := top 17
abbrev sLValue : Stmt := top 18
/-! ### drawn terms -/
structure Tm where
  a : Int
  b : Int
  m : Mo
structure TmOk (nms : List Str) (t : Tm) : Prop where
  names : t.m.map (·.1) = nms
  exp : ∀ p ∈ t.m, 0 ≤ p.2 ∧ p.2 ≤ 2
  b1 : 1 ≤ t.b
  b4 : t.b ≤ 4
  a1 : -6 ≤ t.a
  a6 : t.a ≤ 6
def TmAt (l : Addr) (H : Hp) (t : Tm) (r : Addr) : Prop := ∃ pw, pw ≠ l ∧ H r = some (.tup [.int t.a, .int t.b, .ref pw]) ∧ H pw = some (.lst (t.m.map fun p => V.int p.2))
def TmsAt (H : Hp) (l : Addr) (ts : List Tm) : Prop := ∃ rs, H l = some (.lst (rs.map V.ref)) ∧ Paired (TmAt l H) ts rs
theorem TmAt.same {H H' : Hp} {t : Tm} {r l : Addr} (s : Same H H') (h : TmAt l H t r) : TmAt l H' t r := let ⟨pw, h0, h1, h2⟩ := h; ⟨pw, h0, s _ _ h1, s _ _ h2⟩
theorem TmsAt.same {H H' : Hp} {ts : List Tm} {l : Addr} (s : Same H H') (h : TmsAt H l ts) : TmsAt H' l ts := let ⟨rs, h1, h2⟩ := h; ⟨rs, s _ _ h1, Paired.mapP h2 fun _ _ z => z.same s⟩
def tmVal (u : Str → Int) (t : Tm) : Int := t.a * (12 / t.b) * worth u t.m
def tsVal (u : Str → Int) : List Tm → Int
  | [] => 0
  | t :: ts => tmVal u t + tsVal u ts
theorem tsVal_app (u : Str → Int) (a b : List Tm) : tsVal u (a ++ b) = tsVal u a + tsVal u b := by
  induction a with
  | nil => show tsVal u b = 0 + tsVal u b; omega
  | cons t a ih =>
    show tmVal u t + tsVal u (a ++ b) = tmVal u t + tsVal u a + tsVal u b
    rw [ih]
    omega
theorem tsVal_snoc (u : Str → Int) {ts : List Tm} {i : Nat} {t : Tm} (h : ts[i]? = some t) : tsVal u (ts.take (i + 1)) = tsVal u (ts.take i) + tmVal u t := by
  rw [take_snoc h, tsVal_app]
  show _ + (tmVal u t + 0) = _
  omega
theorem TmOk.deg {nms : List Str} {t : Tm} (h : TmOk nms t) (hn : nms.length ≤ 2) : degM t.m ≤ 4 := by
  have hl : t.m.length ≤ 2 := by rw [← List.length_map (f := (·.1)), h.names]; exact hn
  have key : ∀ m : Mo, (∀ p ∈ m, 0 ≤ p.2 ∧ p.2 ≤ 2) → degM m ≤ 2 * m.length := by
    intro m
    induction m with
    | nil => intro _; exact Nat.le_refl _
    | cons p m ih =>
      intro hm
      have h1 := hm p List.mem_cons_self
      have h2 := ih fun q hq => hm q (List.mem_cons_of_mem _ hq)
      show p.2.toNat + degM m ≤ 2 * (m.length + 1)
      omega
  have := key _ h.exp
  omega
theorem TmOk.twelve {nms : List Str} {t : Tm} (h : TmOk nms t) : 12 / t.b * t.b = 12 ∧ 0 ≤ 12 / t.b ∧ 12 / t.b ≤ 12 := by
  obtain ⟨_, _, h1, h4, _, _⟩ := h
  have : t.b = 1 ∨ t.b = 2 ∨ t.b = 3 ∨ t.b = 4 := by omega
  rcases this with e | e | e | e <;> rw [e] <;> decide
theorem TmOk.small {nms : List Str} {t : Tm} (h : TmOk nms t) : (t.a * (12 / t.b)).natAbs < 2 ^ 7 := by
  obtain ⟨_, h1, h2⟩ := h.twelve
  rw [Int.natAbs_mul]
  have a1 : t.a.natAbs ≤ 6 := by have := h.a1; have := h.a6; omega
  have a2 : (12 / t.b).natAbs ≤ 12 := by omega
  exact Nat.lt_of_le_of_lt (Nat.mul_le_mul a1 a2) (by decide)
section
variable {P : Program} {w : World} {K : PySem.W.Frag} {mg : Str → Option Value} {base : Heap}
/-! ### _law_value -/
def spValue (K : PySem.W.Frag) : Sp := fun vs H Q _ => ∃ (l nm d : Addr) (ts : List Tm) (nms ns : List Str) (u : Str → Int) (c : Nat), vs = [.ref l, .ref nm, .ref d] ∧ TmsAt H l ts ∧ SqT K H nm (nms.map V.str) ∧ nms.length ≤ 2 ∧ (∀ t ∈ ts, TmOk nms t) ∧ PtK H d u ns ∧ (∀ x ∈ nms, x ∈ ns) ∧ (∀ x ∈ ns, (u x).natAbs ≤ 2 ^ c) ∧ c ≤ 10000 ∧
  ∀ H' r, Same H H' → H' r = some (.tup [.int (tsVal u ts), .int 12]) → Q (.ref r) H'
abbrev nLValue : List Str := ["terms", "names", "point", "above", "one", "below", "powers", "part", "name", "many", "step"]
theorem scLValue : FnScope nLValue ["terms", "names", "point"] (defScope sLValue) := ⟨rfl, rfl, rfl, by decide +kernel, rfl, by decide +kernel, by decide +kernel⟩
theorem ok_lvalue {f : Addr} {fd : FuncData} (F : Fun K "_law_value" "_law_value" sLValue f fd) (T : Blt mg) (U : BltP mg) : FnOk P w K mg base CX0 1 f fd ["terms", "names", "point"] (spValue K) := by
  refine F.ok scLValue (fun vs H Q E h => ?_) (fun cdv Ar outer s H vs Q E hr h => ?_)
  · obtain ⟨l, nm, d, ts, nms, ns, u, c, rfl, _⟩ := h
    rfl
  · obtain ⟨l, nm, d, ts, nms, ns, u, c, rfl, hts, hnm, n2, okt, hd, hns, hc, c9, qq⟩ := h
    have nd := scLValue.nd
    have hu := hu_of hr
    refine ⟨_, pss_cons (ps_set (i := 3) nd rfl (.inl rfl) pe_int)
      (pss_cons (ps_for PassesOwn.never rfl (pi_list (pv 0)) (pg_tup rfl (pgs_cons (pg_name (i := 4) nd rfl (.inl rfl)) (pgs_cons (pg_name (i := 5) nd rfl (.inl rfl)) (pgs_cons (pg_name (i := 6) nd rfl (.inl rfl)) pgs_nil))))
        (pss_cons (ps_set (i := 7) nd rfl (.inl rfl) (pe_op op_mul (pv 4) (pe_op op_fdiv pe_int (pv 5))))
        (pss_cons (ps_for PassesOwn.never rfl (pi_zipM (by rfl) U.zip (pa_cons (pv 1) (pa_cons (pv 6) pa_nil))) (pg_tup rfl (pgs_cons (pg_name (i := 8) nd rfl (.inl rfl)) (pgs_cons (pg_name (i := 9) nd rfl (.inl rfl)) pgs_nil)))
          (pss_one (ps_for PassesOwn.never rfl (pi_range1 (by rfl) T.range (pa_cons (pv 9) pa_nil)) (pg_name (i := 10) nd rfl (.inl rfl))
            (pss_one (ps_set (i := 7) nd rfl (.inl rfl) (pe_op op_mulW (pv 7) (pe_dget hu (pv 2) (pv 8) (fun _ _ => rfl))))))))
        (pss_one (ps_set (i := 3) nd rfl (.inl rfl) (pe_op op_add (pv 3) (pv 7)))))))
      (pss_one (ps_ret (pe_tup (pa_cons (pv 3) (pa_cons pe_int pa_nil)))))), ?_⟩
    obtain ⟨rs, hl, prs⟩ := hts
    have lts : ts.length = rs.length := Paired.length prs
    refine ⟨.ref l, rfl, l, rfl, ⟨_, SqL.of hl⟩, for_list (K := K) (a := l) (xs := rs.map V.ref) (fun i σ H' => ∃ y4 y5 y6 y7 y8 y9 y10, σ = [some (.ref l), some (.ref nm), some (.ref d), some (.int (tsVal u (ts.take i))), y4, y5, y6, y7, y8, y9, y10] ∧ Same H H') ⟨_, _, _, _, _, _, _, rfl, Same.refl _⟩ (fun i σ H' _ ⟨_, _, _, _, _, _, _, _, sm⟩ => SqL.of (sm _ _ hl)) ?_ ?_⟩
    · rintro i v σ H1 hi ⟨y4, y5, y6, y7, y8, y9, y10, rfl, sm⟩
      rw [List.getElem?_map] at hi
      obtain ⟨r, hr0, rfl⟩ := Option.map_eq_some_iff.mp hi
      have hi1 : i < ts.length := by
        have := (List.getElem?_eq_some_iff.mp hr0).1
        omega
      obtain ⟨r', hr', ht⟩ := L2.paired_get prs (List.getElem?_eq_getElem hi1)
      rw [hr0] at hr'
      cases hr'
      have ti := List.getElem?_eq_getElem hi1
      generalize hte : ts[i] = t at *
      have ok := okt t (List.mem_of_getElem? ti)
      obtain ⟨pw, _, h1, h2⟩ := ht
      have dg := ok.deg n2
      have sma := ok.small
      have lm : nms.length = t.m.length := by rw [← ok.names, List.length_map]
      refine ⟨r, _, rfl, SqT.of (sm _ _ h1), rfl, _, _, rfl, _, _, rfl, _, _, rfl, rfl, ?_⟩
      refine ⟨_, rfl, _, rfl, _, _, rfl, rfl, ⟨by have := ok.b1; omega, by have := ok.b4; omega⟩, _, _, rfl, rfl, .inl ⟨by have := ok.a1; omega, by have := ok.a6; omega⟩, ?_⟩
      refine ⟨.ref nm, rfl, .ref pw, rfl, nm, pw, _, _, rfl, same_tup sm hnm, SqL.of (sm _ _ h2), for_zipM (K := K) (by rw [List.length_map, List.length_map]; exact lm) (fun j σ H' => ∃ y8 y9 y10, σ = [some (.ref l), some (.ref nm), some (.ref d), some (.int (tsVal u (ts.take i))), some (.int t.a), some (.int t.b), some (.ref pw), some (.int (t.a * (12 / t.b) * worth u (t.m.take j))), y8, y9, y10] ∧ Same H H')
        ⟨y8, y9, y10, ?_, sm⟩ (fun j σ H' ⟨_, _, _, _, s'⟩ => ⟨same_tup s' hnm, SqL.of (s' _ _ h2)⟩) ?_ ?_⟩
      · show _ = [some (.ref l), some (.ref nm), some (.ref d), some (.int (tsVal u (ts.take i))), some (.int t.a), some (.int t.b), some (.ref pw), some (.int (t.a * (12 / t.b) * 1)), y8, y9, y10]
        rw [Int.mul_one]
        rfl
      · rintro j x y Tz σ H2 hx hy ⟨y8, y9, y10, rfl, s2⟩ nT
        rw [List.getElem?_map] at hx hy
        obtain ⟨nx, hnx, rfl⟩ := Option.map_eq_some_iff.mp hx
        obtain ⟨p, hpj, rfl⟩ := Option.map_eq_some_iff.mp hy
        have en : nx = p.1 := by
          have : (t.m.map (·.1))[j]? = some p.1 := by rw [List.getElem?_map, hpj]; rfl
          rw [ok.names, hnx] at this
          exact Option.some.inj this
        subst en
        have hpm := List.mem_of_getElem? hpj
        obtain ⟨e0, e2⟩ := ok.exp p hpm
        have pin : p.1 ∈ ns := hns _ (by rw [← ok.names]; exact List.mem_map.mpr ⟨p, hpm, rfl⟩)
        have sT := same_upd (o := HO.tup [V.str p.1, V.int p.2]) nT
        refine ⟨Tz, _, rfl, SqT.of upd_same, rfl, _, _, rfl, _, _, rfl, rfl, ?_⟩
        have s3 := s2.trans sT
        generalize upd H2 Tz (.tup [V.str p.1, V.int p.2]) = H3 at s3 ⊢
        have bnd : ∀ k : Nat, k ≤ p.2.toNat → (t.a * (12 / t.b) * worth u (t.m.take j) * u p.1 ^ k).natAbs < 2 ^ (7 + c * 4) := fun k hk => by
          rw [Int.mul_assoc, Int.natAbs_mul]
          have b1 : (worth u (t.m.take j) * u p.1 ^ k).natAbs ≤ 2 ^ (c * 4) := by
            rw [Int.natAbs_mul]
            have c1 := worth_bits (u := u) (c := c) (m := t.m.take j) fun q hq => hc _ (hns _ (by rw [← ok.names]; exact List.mem_map.mpr ⟨q, List.mem_of_mem_take hq, rfl⟩))
            have c2 := pow_bits (k := k) (hc _ pin)
            refine Nat.le_trans (Nat.mul_le_mul c1 c2) ?_
            rw [← Nat.pow_add, ← Nat.mul_add]
            refine Nat.pow_le_pow_right (by decide) (Nat.mul_le_mul_left _ ?_)
            have := degM_take t.m (j + 1)
            rw [take_snoc hpj, degM_app] at this
            have e : degM [p] = p.2.toNat := by simp [degM]
            omega
          rw [Nat.pow_add]
          exact Nat.lt_of_lt_of_le (Nat.mul_lt_mul_of_pos_right sma (Nat.two_pow_pos _) |> fun h => Nat.lt_of_le_of_lt (Nat.mul_le_mul_left _ b1) h) (Nat.le_refl _)
        refine ⟨.int p.2, rfl, p.2, rfl, by omega, by omega, for_range (lo := 0) (fun k σ H' => ∃ y10, σ = [some (.ref l), some (.ref nm), some (.ref d), some (.int (tsVal u (ts.take i))), some (.int t.a), some (.int t.b), some (.ref pw), some (.int (t.a * (12 / t.b) * worth u (t.m.take j) * u p.1 ^ k)), some (.str p.1), some (.int p.2), y10] ∧ Same H H' ∧ k ≤ p.2.toNat)
          ⟨y10, ?_, s3, Nat.zero_le _⟩ ?_ ?_⟩
        · rw [Int.pow_zero, Int.mul_one]
          rfl
        · rintro k σ H4 hk ⟨y10', rfl, s4, _⟩
          refine ⟨_, rfl, .ref d, rfl, .str p.1, rfl, d, _, rfl, (hd.same s4).get pin, _, _, rfl, rfl, ?_, some (.int (0 + (k : Int))), ?_, s4, hk⟩
          · exact wide_mul (bnd k (by omega)) (lt_pow_succ (hc _ pin)) (by omega) (by omega) (by omega)
          · rw [Int.pow_succ, ← Int.mul_assoc]
            rfl
        · rintro σ H4 ⟨y10', rfl, s4, _⟩
          refine ⟨some (.str p.1), some (.int p.2), y10', ?_, s4⟩
          rw [take_snoc hpj, worth_snoc, ← Int.mul_assoc]
      · rintro σ H2 ⟨y8, y9, y10, rfl, s2⟩
        rw [List.length_map, lm, List.take_length]
        refine ⟨_, rfl, _, rfl, _, _, rfl, rfl, some (.int t.a), some (.int t.b), some (.ref pw), some (.int (t.a * (12 / t.b) * worth u t.m)), y8, y9, y10, ?_, s2⟩
        rw [tsVal_snoc u ti]
        rfl
    · rintro σ H1 ⟨y4, y5, y6, y7, y8, y9, y10, rfl, sm⟩
      rw [List.length_map, ← lts, List.take_length]
      refine ⟨_, rfl, by show 2 ≤ sizeLine; decide, fun r hr0 => qq _ r (sm.later (sm.free hr0)) upd_same⟩
end
end Po
namespace Po
open PySem PySem.Spec L2 Lo PyProof.Rows
/-! ### through a list's new items -/
theorem NDW.lst {P : Program} {w : World} {H : Hp} {l t : Addr} {xs ys : List V} {T : List (Mo × Int)} (e : H l = some (.lst xs)) (h : NDW P w H t T) : NDW P w (upd H l (.lst ys)) t T := by
  have ne : t ≠ l := by
    obtain ⟨ks, k, _⟩ := h
    exact ne_of k e (fun z => nomatch z)
  exact h.at' (by rw [upd_ne ne]) (keep2_lst e)
theorem PolyAt.lst {P : Program} {w : World} {C : Addr} {H : Hp} {l p : Addr} {xs ys : List V} {A : Pol} (e : H l = some (.lst xs)) (h : PolyAt P w C H p A) : PolyAt P w C (upd H l (.lst ys)) p A := by
  obtain ⟨dx, t, h1, h2⟩ := h
  exact ⟨dx, t, by rw [upd_ne (ne_of h1 e (fun z => nomatch z))]; exact h1, h2.lst e⟩
theorem FrP.lst {H0 H : Hp} {l p : Addr} {xs ys : List V} (e : H l = some (.lst xs)) (f : FrP H0 H p) : FrP H0 (upd H l (.lst ys)) p := by
  refine ⟨f.1, fun t ⟨C, dx, fs, h, k⟩ => f.2 t ⟨C, dx, fs, ?_, k⟩⟩
  by_cases c : p = l
  · subst c
    rw [upd_same] at h
    cases h
  · rw [upd_ne c] at h
    exact h
theorem TmAt.lst {H : Hp} {l r : Addr} {xs ys : List V} {t : Tm} (e : H l = some (.lst xs)) (h : TmAt l H t r) : TmAt l (upd H l (.lst ys)) t r := by
  obtain ⟨pw, h0, h1, h2⟩ := h
  exact ⟨pw, h0, by rw [upd_ne (ne_of h1 e (fun z => nomatch z))]; exact h1, by rw [upd_ne h0]; exact h2⟩
theorem Fits.one_ {ns : List Str} {b D : Nat} {A : Pol} (f : Fits ns 1 b D A) : Fits ns 1 b D A := f
section
variable {P : Program} {w : World} {K : PySem.W.Frag} {mg : Str → Option Value} {base : Heap}
/-! ### _law_poly -/
def spLPoly (P : Program) (w : World) (K : PySem.W.Frag) (C : Addr) : Sp := fun vs H Q _ => ∃ (s nm : Addr) (at_ : Int) (most : Nat) (nms : List Str), vs = [.ref s, .int at_, .ref nm, .int most] ∧ Scr K H s ∧ SqT K H nm (nms.map V.str) ∧ nms.length = 2 ∧ (∀ x ∈ nms, x ≠ "0") ∧ most ≤ 4 ∧
  ∀ H' r p l A ts, Same H H' → H' r = some (.tup [.ref p, .ref l]) → PolyAt P w C H' p A → FrP H H' p → Fits nms (1 + most) (2 + 77 * most) 4 A → TmsAt H' l ts → ts.length ≤ most → (∀ t ∈ ts, TmOk nms t) → (∀ u, val u A = (tsVal u ts : Rat) / ((12 : Int) : Rat)) → Q (.ref r) H'
abbrev nLPoly : List Str := ["script", "at", "names", "most", "found", "terms", "turn", "spot", "above", "below", "powers", "part", "name", "many", "step", "k"]
theorem scLPoly : FnScope nLPoly ["script", "at", "names", "most"] (defScope sLPoly) := ⟨rfl, rfl, rfl, by decide +kernel, rfl, by decide +kernel, by decide +kernel⟩
structure LawIn (P : Program) (w : World) (K : PySem.W.Frag) (mg : Str → Option Value) (base : Heap) (C gC gO fD : Addr) (fdD : FuncData) : Prop where
  GC1 : FnR P w K mg base CX0 3 gC (spC1 P w C)
  GC2 : FnR P w K mg base CX0 3 gC (spConst P w C)
  GO1 : FnR P w K mg base CX0 3 gO (spOf1 P w C)
  GO2 : FnR P w K mg base CX0 3 gO (spOf P w C)
  mD : mg "_law_draw" = some (.ref fD)
  kD : PySem.W.keepIn K (.ref fD) = true
  bD : Binds K fdD ["script", "at", "many"] []
  GD : FnOk P w K mg base CX0 1 fD fdD ["script", "at", "many"] (spDraw K)
theorem ok_lpoly {f C fI a ra sa rs m rm mpC gC mpO gO fD : Addr} {mc : Value} {fd fdD : FuncData} (F : Fun K "_law_poly" "_law_poly" sLPoly f fd) (T : Blt mg) (U : BltP mg) (X : PTxt K mg C fI) (Y : PCms K C mc mpC gC mpO gO) (O : POps P w K mg base C a ra sa rs m rm)
    (L : LawIn P w K mg base C gC gO fD fdD) : FnOk P w K mg base CX0 6 f fd ["script", "at", "names", "most"] (spLPoly P w K C) := by
  refine F.ok scLPoly (fun vs H Q E h => ?_) (fun cdv Ar outer s H vs Q E hr h => ?_)
  · obtain ⟨s, nm, at_, most, nms, rfl, _⟩ := h
    rfl
  · obtain ⟨s, nm, at_, most, nms, rfl, hs, hnm, n2, nz, m4, qq⟩ := h
    have nd := scLPoly.nd
    have r1 := hr.mono (show 1 ≤ 5 by decide)
    have r3 := hr.mono (show 3 ≤ 5 by decide)
    refine ⟨_, pss_cons (ps_par (i := 4) (j := 5) rfl nd rfl rfl (by decide) rfl rfl (pa_cons (ClX.pe_cmeth (pe_glob (v := .ref C) (by rfl) X.mg rfl) Y.rd Y.con L.GC1 r3 pass0 (pa_cons pe_int pa_nil)) (pa_cons (pe_lst pa_nil) pa_nil)) (by rfl))
      (pss_cons (ps_for PassesOwn.never rfl (pi_range1 (by rfl) T.range (pa_cons (pe_call L.GD r1 (by rfl) L.mD L.kD L.bD .nil pass0 (pa_cons (pv 0) (pa_cons (pv 1) (pa_cons (pe_op op_add (pv 3) pe_int) pa_nil)))) pa_nil)) (pg_name (i := 6) nd rfl (.inl rfl))
        (pss_cons (ps_set (i := 7) nd rfl (.inr rfl) (pe_op op_add (pe_op op_add (pv 1) pe_int) (pe_op op_mul pe_int (pv 6))))
        (pss_cons (ps_par (i := 8) (j := 9) rfl nd rfl rfl (by decide) rfl rfl (pa_cons (pe_op op_sub (pe_call L.GD r1 (by rfl) L.mD L.kD L.bD .nil pass0 (pa_cons (pv 0) (pa_cons (pv 7) (pa_cons pe_int pa_nil)))) pe_int) (pa_cons (pe_op op_add pe_int (pe_call L.GD r1 (by rfl) L.mD L.kD L.bD .nil pass0 (pa_cons (pv 0) (pa_cons (pe_op op_add (pv 7) pe_int) (pa_cons pe_int pa_nil))))) pa_nil)) (by rfl))
        (pss_cons (ps_setLc (i := 10) (own := [("k", 15)]) (g := gName 15) (tt := tYes) rfl nd rfl rfl (sw_true rfl rfl rfl (by decide +kernel)) (pi_range1 (by rfl) T.range (pa_cons (pe_callB call_len_seq (by rfl) T.len PySem.boot_len (pa_cons (pv 2) pa_nil)) pa_nil)) (blkOk_by (N := nLPoly) (sc := defScope sLPoly) (by decide +kernel))
          (fun _ _ _ _ _ => pg_name (i := 15) nd rfl (.inl rfl)) (fun _ _ _ _ _ => pts_nil) (fun _ _ _ _ _ => pe_call L.GD r1 (by rfl) L.mD L.kD L.bD .nil pass0 (pa_cons (pv 0) (pa_cons (pe_op op_add (pe_op op_add (pv 7) pe_int) (pv 15)) (pa_cons pe_int pa_nil)))))
        (pss_cons (ps_set (i := 11) nd rfl (.inl rfl) (ClX.pe_cmeth (pe_glob (v := .ref C) (by rfl) X.mg rfl) Y.rd Y.con L.GC2 r3 pass0 (pa_cons (pv 8) (pa_cons (pv 9) pa_nil))))
        (pss_cons (ps_for PassesOwn.never rfl (pi_zipM (by rfl) U.zip (pa_cons (pv 2) (pa_cons (pv 10) pa_nil))) (pg_tup rfl (pgs_cons (pg_name (i := 12) nd rfl (.inl rfl)) (pgs_cons (pg_name (i := 13) nd rfl (.inl rfl)) pgs_nil)))
          (pss_one (ps_for PassesOwn.never rfl (pi_range1 (by rfl) T.range (pa_cons (pv 13) pa_nil)) (pg_name (i := 14) nd rfl (.inl rfl))
            (pss_one (ps_set (i := 11) nd rfl (.inl rfl) (pe_op (op_poly rfl is_mul O.cM O.gM hr pass0) (pv 11) (ClX.pe_cmeth (pe_glob (v := .ref C) (by rfl) X.mg rfl) Y.rd Y.of L.GO1 r3 pass0 (pa_cons (pv 12) pa_nil))))))))
        (pss_cons (ps_set (i := 4) nd rfl (.inl rfl) (pe_ifExp (pt_cmpR op_eq (pe_call L.GD r1 (by rfl) L.mD L.kD L.bD .nil pass0 (pa_cons (pv 0) (pa_cons (pe_op op_add (pv 7) pe_int) (pa_cons pe_int pa_nil)))) pe_int (nomark _)) (pe_op (op_poly rfl is_add O.cA O.gA hr pass0) (pv 4) (pv 11)) (pe_op (op_poly rfl is_add O.cA O.gA hr pass0) (pv 11) (pv 4))))
        (pss_one (ps_expr (pe_bm PySem.F.plainAttrs_list PySem.F.slot_list_append PySem.F.type_list_append mt_append (pv 5) (pa_cons (pe_tup (pa_cons (pv 8) (pa_cons (pv 9) (pa_cons (pv 10) pa_nil)))) pa_nil)))))))))))
      (pss_one (ps_ret (pe_tup (pa_cons (pv 4) (pa_cons (pv 5) pa_nil)))))), ?_⟩
    -- found, terms
    refine ⟨rfl, 0, 1, 2, rfl, by decide, by decide, by decide, by decide, by decide, fun H1 p0 A0 s1 fr0 hA0 fA0 vA0 => ?_⟩
    refine ⟨Nat.zero_le _, fun l hl => ⟨_, _, rfl, ?_⟩⟩
    have sl := same_upd (o := HO.lst []) hl
    have hlH : H l = none := s1.free hl
    have hl1 := upd_same (H := H1) (a := l) (o := HO.lst [])
    have hA1 := hA0.same sl
    have fr1 := fr0.on sl hA0
    have s1' := s1.trans sl
    generalize upd H1 l (.lst []) = H1' at hl1 hA1 fr1 s1' ⊢
    have v0 : ∀ u, val u A0 = 0 := fun u => by
      rw [vA0 u]
      show ((0 : Int) : Rat) / ((1 : Int) : Rat) = 0
      rw [show ((0 : Int) : Rat) = 0 from rfl, show ((1 : Int) : Rat) = 1 from rfl]
      grind
    -- how many
    refine ⟨.ref s, rfl, .int at_, rfl, _, rfl, _, _, rfl, rfl, s, at_, _, rfl, hs.same s1', by show (1 : Int) ≤ (most : Int) + 1; omega, fun H2 k s2 k0 k1 => ?_⟩
    have k1' : k < (most : Int) + 1 := k1
    refine ⟨k, rfl, by omega, by omega, ?_⟩
    have s12 := s1'.trans s2
    refine for_range (lo := 0) (fun i σ H' => ∃ p A ts y6 y7 y8 y9 y10 y11 y12 y13 y14 y15, σ = [some (.ref s), some (.int at_), some (.ref nm), some (.int most), some (.ref p), some (.ref l), y6, y7, y8, y9, y10, y11, y12, y13, y14, y15] ∧ Same H H' ∧ PolyAt P w C H' p A ∧ FrP H H' p ∧ Fits nms (1 + i) (2 + 77 * i) 4 A ∧ TmsAt H' l ts ∧ (∀ t ∈ ts, TmOk nms t) ∧ ts.length = i ∧ ∀ u, val u A = (tsVal u ts : Rat) / ((12 : Int) : Rat))
      ⟨p0, A0, [], none, none, none, none, none, none, none, none, none, none, rfl, s12, hA1.same s2, fr1.on s2 hA1, (fA0 nms).mono (by omega) (by omega) (by omega), ⟨[], s2 _ _ hl1, .nil⟩, (fun t h => nomatch h), rfl, fun u => ?_⟩ ?_ ?_
    · rw [v0 u]
      show (0 : Rat) = ((0 : Int) : Rat) / _
      rw [show ((0 : Int) : Rat) = 0 from rfl, show ((12 : Int) : Rat) = 12 from rfl]
      grind
    · rintro i σ H3 hi ⟨p, A, ts, y6, y7, y8, y9, y10, y11, y12, y13, y14, y15, rfl, s3, hA, fr, fA, hts, okt, lts, vA⟩
      have i4 : i < 4 := by omega
      -- spot
      refine ⟨_, rfl, _, _, rfl, rfl, _, rfl, _, _, rfl, rfl, .inl ⟨by decide, by decide⟩, _, _, rfl, rfl, ?_⟩
      generalize hspot : at_ + 1 + 8 * (0 + (i : Nat)) = spot
      -- above, below
      refine ⟨.ref s, rfl, _, rfl, s, _, 13, rfl, hs.same s3, by decide, fun H4 ka s4 ka0 ka1 => ⟨_, _, rfl, rfl, .ref s, rfl, _, rfl, _, _, rfl, rfl, s, _, 4, rfl, (hs.same s3).same s4, by decide, fun H5 kb s5 kb0 kb1 => ⟨_, _, rfl, rfl, _, _, rfl, ?_⟩⟩⟩
      have s35 := s4.trans s5
      have s05 := s3.trans s35
      -- the exponents
      refine ⟨.ref nm, rfl, nm, _, rfl, .inr (same_tup s05 hnm), _, rfl, ?_, ?_, fun D hD => ?_⟩
      · omega
      · rw [List.length_map]
        omega
      have en : (((nms.map V.str).length : Nat) : Int).toNat = 2 := by rw [List.length_map, n2]; rfl
      rw [en]
      refine lc_it walk_range (fun j H' => Same H5 H' ∧ ∃ ks : List Int, H' D = some (.lst (ks.map V.int)) ∧ ks.length = j ∧ ∀ x ∈ ks, 0 ≤ x ∧ x ≤ 2) ⟨same_upd hD, [], upd_same, rfl, fun x h => nomatch h⟩ (fun _ _ _ _ => trivial) ?_ ?_
      · rintro j x H6 H7 hj ⟨s6, ks, hks, lk, ok⟩ ⟨rfl, rfl⟩
        refine ⟨rfl, ?_⟩
        unfold tYes
        refine iteT ⟨.ref s, rfl, _, rfl, _, _, rfl, rfl, _, rfl, _, _, rfl, rfl, s, _, 3, rfl, (hs.same s05).same s6, by decide, fun H8 kc s8 kc0 kc1 => ⟨_, s8 _ _ hks, ?_, ?_, ks ++ [kc], ?_, ?_, ?_⟩⟩
        · rw [List.length_map]
          exact small4000 (by omega)
        · exact same_lay hD (s6.trans s8) (s8 _ _ hks)
        · rw [upd_same, List.map_append]
          rfl
        · rw [List.length_append, lk]
          rfl
        · intro x hx
          rcases List.mem_append.mp hx with z | z
          · exact ok x z
          · rw [List.mem_singleton.mp z]
            omega
      rintro H6 ⟨s6, ks, hks, lk, ok⟩
      have s06 := s05.trans s6
      -- the term
      obtain ⟨m, hm1, hm2⟩ : ∃ m : Mo, m.map (·.1) = nms ∧ m.map (·.2) = ks := ⟨nms.zip ks, List.map_fst_zip (by omega), List.map_snd_zip (by omega)⟩
      have ok' : ∀ q ∈ m, 0 ≤ q.2 ∧ q.2 ≤ 2 := fun q hq => ok q.2 (by rw [← hm2]; exact List.mem_map.mpr ⟨q, hq, rfl⟩)
      have oT : TmOk nms ⟨ka - 6, 1 + kb, m⟩ := ⟨hm1, ok', by show 1 ≤ 1 + kb; omega, by show 1 + kb ≤ 4; omega, by show -6 ≤ ka - 6; omega, by show ka - 6 ≤ 6; omega⟩
      have dg : degM m ≤ 4 := oT.deg (by omega)
      have hks' : H6 D = some (.lst (m.map fun q => V.int q.2)) := by
        rw [hks, ← hm2, List.map_map]
        rfl
      have b0 : (0 : Int) < 1 + kb := by omega
      -- part
      refine ⟨rfl, _, rfl, _, rfl, ka - 6, 1 + kb, 4, rfl, b0, by show (ka - 6).natAbs < 16; omega, by show (1 + kb).natAbs < 16; omega, by decide, by decide, fun H7 q0 B0 s7 fq0 hB0 fB0 vB0 => ?_⟩
      have s67 := s6.trans s7
      have s07 := s05.trans s67
      refine ⟨.ref nm, rfl, .ref D, rfl, nm, D, _, _, rfl, same_tup s07 hnm, SqL.of (s7 _ _ hks'), for_zipM (K := K) (by rw [List.length_map, List.length_map, ← hm1, List.length_map]) (fun j σ H' => ∃ q B y12 y13 y14, σ = [some (.ref s), some (.int at_), some (.ref nm), some (.int most), some (.ref p), some (.ref l), some (.int (0 + (i : Nat))), some (.int spot), some (.int (ka - 6)), some (.int (1 + kb)), some (.ref D), some (.ref q), y12, y13, y14, y15] ∧ Same H7 H' ∧ PolyAt P w C H' q B ∧ Fits nms 1 (4 + 15 * degM (m.take j)) (degM (m.take j)) B ∧ ∀ u, val u B = ((ka - 6 : Int) : Rat) / ((1 + kb : Int) : Rat) * (worth u (m.take j) : Rat))
        ⟨q0, B0, y12, y13, y14, by rw [← hspot]; rfl, Same.refl _, hB0, fB0 nms, fun u => ?_⟩ (fun j σ H' ⟨_, _, _, _, _, _, s', _⟩ => ⟨same_tup (s07.trans s') hnm, SqL.of (s' _ _ (s7 _ _ hks'))⟩) ?_ ?_⟩
      · rw [vB0 u]
        show _ = _ * ((1 : Int) : Rat)
        rw [show ((1 : Int) : Rat) = 1 from rfl]
        generalize ((ka - 6 : Int) : Rat) = x
        generalize ((1 + kb : Int) : Rat) = y
        grind
      · rintro j x y Tz σ H8 hx hy ⟨q, B, y12, y13, y14, rfl, s8, hB, fB, vB⟩ nT
        rw [List.getElem?_map] at hx hy
        obtain ⟨nx, hnx, rfl⟩ := Option.map_eq_some_iff.mp hx
        obtain ⟨e, hpj, rfl⟩ := Option.map_eq_some_iff.mp hy
        have ee : nx = e.1 := by
          have : (m.map (·.1))[j]? = some e.1 := by rw [List.getElem?_map, hpj]; rfl
          rw [hm1, hnx] at this
          exact Option.some.inj this
        subst ee
        have hem := List.mem_of_getElem? hpj
        obtain ⟨e0, e2⟩ := ok' e hem
        have ein : e.1 ∈ nms := by rw [← hm1]; exact List.mem_map.mpr ⟨e, hem, rfl⟩
        have sT := same_upd (o := HO.tup [V.str e.1, V.int e.2]) nT
        refine ⟨Tz, _, rfl, SqT.of upd_same, rfl, _, _, rfl, _, _, rfl, rfl, ?_⟩
        have s9 := s8.trans sT
        have hB9 := hB.same sT
        generalize upd H8 Tz (.tup [V.str e.1, V.int e.2]) = H9 at s9 hB9 ⊢
        have dsn : degM (m.take (j + 1)) = degM (m.take j) + e.2.toNat := by
          rw [take_snoc hpj, degM_app]
          simp [degM]
        have dle := degM_take m (j + 1)
        refine ⟨.int e.2, rfl, e.2, rfl, by omega, by omega, for_range (lo := 0) (fun r σ H' => ∃ q B y14, σ = [some (.ref s), some (.int at_), some (.ref nm), some (.int most), some (.ref p), some (.ref l), some (.int (0 + (i : Nat))), some (.int spot), some (.int (ka - 6)), some (.int (1 + kb)), some (.ref D), some (.ref q), some (.str e.1), some (.int e.2), y14, y15] ∧ Same H7 H' ∧ PolyAt P w C H' q B ∧ r ≤ e.2.toNat ∧ Fits nms 1 (4 + 15 * (degM (m.take j) + r)) (degM (m.take j) + r) B ∧ ∀ u, val u B = ((ka - 6 : Int) : Rat) / ((1 + kb : Int) : Rat) * ((worth u (m.take j) * u e.1 ^ r : Int) : Rat))
          ⟨q, B, y14, rfl, s9, hB9, Nat.zero_le _, fB, fun u => by rw [Int.pow_zero, Int.mul_one]; exact vB u⟩ ?_ ?_⟩
        · rintro r σ H10 hr' ⟨q, B, y14, rfl, s10, hB, _, fB, vB⟩
          refine ⟨.ref q, rfl, rfl, _, rfl, e.1, 0, 2, rfl, by decide, by decide, by decide, fun H11 z Z s11 fz hZ fZ _ vZ => ?_⟩
          have fZ' := fZ nms ein
          rw [if_pos rfl] at fZ'
          have vZ' : ∀ u, val u Z = (u e.1 : Rat) := fun u => by
            rw [vZ u, if_neg (nz _ ein), Int.add_zero]
          have hB11 := hB.same s11
          have rr : degM (m.take j) + r + 1 ≤ 4 := by omega
          refine rPO_of hB11 (Late.poly hZ fZ') ⟨q, .ref z, B, nms, 1, _, _, 1, 2, 1, _, rfl, hB11, fB, Late.poly hZ fZ', fun q' eq => ?_, by decide, by omega, by omega, fun H12 q2 B2 s12 fq hB2 fB2 vB2 => ⟨q2, rfl, ?_⟩⟩
          · cases eq
            exact (fz.apart s11 hB).symm
          refine ⟨q2, B2, some (.int (0 + (r : Nat))), rfl, s10.trans (s11.trans s12), hB2, hr', fB2.mono (Nat.le_refl _) (by omega) (by omega), fun u => ?_⟩
          rw [vB2 u, vB u, vZ' u, Int.pow_succ, ← Int.mul_assoc, Rat.intCast_mul (worth u (m.take j) * u e.1 ^ r) (u e.1)]
          generalize ((worth u (m.take j) * u e.1 ^ r : Int) : Rat) = x
          generalize ((ka - 6 : Int) : Rat) = x1
          generalize ((1 + kb : Int) : Rat) = x2
          generalize (u e.1 : Rat) = x3
          grind
        · rintro σ H10 ⟨q, B, y14, rfl, s10, hB, _, fB, vB⟩
          refine ⟨q, B, some (.str e.1), some (.int e.2), y14, rfl, s10, hB, ?_, fun u => ?_⟩
          · rw [dsn]
            exact fB
          · rw [vB u, take_snoc hpj, worth_snoc]
      rintro σ H8 ⟨q, B, y12, y13, y14, rfl, s8, hB, fB, vB⟩
      have el : (nms.map V.str).length = m.length := by rw [List.length_map, ← hm1, List.length_map]
      rw [el, List.take_length] at fB vB
      have s68 := s67.trans s8
      have s08 := s05.trans s68
      have s38 : Same H3 H8 := s35.trans s68
      -- which way
      have hA8 := hA.same s38
      have fB4 := fB.mono (Nat.le_refl _) (show 4 + 15 * degM m ≤ 64 by omega) (show degM m ≤ 4 from dg)
      have vT : ∀ u, tsVal u (ts ++ [⟨ka - 6, 1 + kb, m⟩]) = tsVal u ts + tmVal u ⟨ka - 6, 1 + kb, m⟩ := fun u => by
        rw [tsVal_app]
        show _ + (_ + 0) = _
        omega
      have vSum : ∀ u, val u A + val u B = (tsVal u (ts ++ [⟨ka - 6, 1 + kb, m⟩]) : Rat) / ((12 : Int) : Rat) := fun u => by
        have hv : (tmVal u ⟨ka - 6, 1 + kb, m⟩ : Rat) = ((ka - 6 : Int) : Rat) * ((12 / (1 + kb) : Int) : Rat) * (worth u m : Rat) := by
          show ((((ka - 6) * (12 / (1 + kb)) * worth u m : Int)) : Rat) = _
          rw [Rat.intCast_mul, Rat.intCast_mul]
        rw [vA u, vB u, vT u, show ((tsVal u ts + tmVal u ⟨ka - 6, 1 + kb, m⟩ : Int) : Rat) = (tsVal u ts : Rat) + (tmVal u ⟨ka - 6, 1 + kb, m⟩ : Rat) from Rat.intCast_add _ _, hv]
        have h12 : 12 / (1 + kb) * (1 + kb) = 12 := oT.twelve.1
        have h12' : (((12 / (1 + kb) : Int) : Rat)) * ((1 + kb : Int) : Rat) = ((12 : Int) : Rat) := by rw [← Rat.intCast_mul, h12]
        have nb : ((1 + kb : Int) : Rat) ≠ 0 := rat_ne b0
        have n12 : ((12 : Int) : Rat) ≠ 0 := rat_ne (by decide)
        generalize ((12 / (1 + kb) : Int) : Rat) = x4 at *
        generalize ((ka - 6 : Int) : Rat) = x1 at *
        generalize ((1 + kb : Int) : Rat) = x2 at *
        generalize (worth u m : Rat) = x3 at *
        generalize (tsVal u ts : Rat) = x5 at *
        generalize ((12 : Int) : Rat) = x6 at *
        grind
      obtain ⟨rs, hl3, prs3⟩ := hts
      have hl8 := s38 _ _ hl3
      have lrs : rs.length = i := by rw [← Paired.length prs3, lts]
      have nDl : D ≠ l := (ne_of_none (s35 _ _ hl3) hD).symm
      have hD8 : H8 D = some (.lst (m.map fun q => V.int q.2)) := s8 _ _ (s7 _ _ hks')
      have tail : ∀ H9 p2 A2, Same H8 H9 → FrP H8 H9 p2 → PolyAt P w C H9 p2 A2 → ∀ r : Addr, H9 r = none →
          upd H9 r (.tup [.int (ka - 6), .int (1 + kb), .ref D]) l = some (.lst (rs.map V.ref)) ∧ Same H (upd (upd H9 r (.tup [.int (ka - 6), .int (1 + kb), .ref D])) l (.lst (rs.map V.ref ++ [.ref r]))) ∧ PolyAt P w C (upd (upd H9 r (.tup [.int (ka - 6), .int (1 + kb), .ref D])) l (.lst (rs.map V.ref ++ [.ref r]))) p2 A2 ∧
            FrP H (upd (upd H9 r (.tup [.int (ka - 6), .int (1 + kb), .ref D])) l (.lst (rs.map V.ref ++ [.ref r]))) p2 ∧ TmsAt (upd (upd H9 r (.tup [.int (ka - 6), .int (1 + kb), .ref D])) l (.lst (rs.map V.ref ++ [.ref r]))) l (ts ++ [⟨ka - 6, 1 + kb, m⟩]) := by
        intro H9 p2 A2 s9 f2 hA2 r nr
        have sr := same_upd (o := HO.tup [.int (ka - 6), .int (1 + kb), .ref D]) nr
        have s10 := s9.trans sr
        have hr1 := upd_same (H := H9) (a := r) (o := HO.tup [.int (ka - 6), .int (1 + kb), .ref D])
        have hA10 := hA2.same sr
        have f10 := (f2.back s08).on sr hA2
        generalize upd H9 r (.tup [.int (ka - 6), .int (1 + kb), .ref D]) = H10 at s10 hr1 hA10 f10 ⊢
        have hl10 := s10 _ _ hl8
        refine ⟨hl10, same_lay hlH (s08.trans s10) hl10, hA10.lst hl10, f10.lst hl10, rs ++ [r], by rw [upd_same, List.map_append]; rfl, ?_⟩
        refine Paired.snoc (Paired.mapP prs3 fun t x z => (z.same (s38.trans s10)).lst hl10) ?_
        exact TmAt.lst hl10 ⟨D, nDl, hr1, s10 _ _ hD8⟩
      have okt' : ∀ t ∈ ts ++ [⟨ka - 6, 1 + kb, m⟩], TmOk nms t := fun t ht => by
        rcases List.mem_append.mp ht with z | z
        · exact okt t z
        · rw [List.mem_singleton.mp z]
          exact oT
      have lts' : (ts ++ [(⟨ka - 6, 1 + kb, m⟩ : Tm)]).length = i + 1 := by rw [List.length_append, lts]; rfl
      refine ⟨.ref s, rfl, _, rfl, _, _, rfl, rfl, s, _, 2, rfl, hs.same s08, by decide, fun H9 kw s9 _ _ => ⟨rfl, _, rfl, ?_⟩⟩
      have hA9 := hA8.same s9
      have hB9 := hB.same s9
      refine ite2 (fun _ => ?_) (fun _ => ?_)
      · refine ⟨_, rfl, _, rfl, rPO_of hA9 (Late.poly hB9 fB4) ⟨p, .ref q, A, nms, 1 + i, 2 + 77 * i, 1, 64, 4, _, rfl, hA9, fA, Late.poly hB9 fB4, by omega, by omega, by omega, by omega, fun H10 p2 A2 s10 f2 hA2 fA2 vA2 => ⟨p2, rfl, ?_⟩⟩⟩
        refine ⟨.ref l, rfl, .inl ⟨rfl, _, SqL.of ((s9.trans s10) _ _ hl8)⟩, _, rfl, _, rfl, _, rfl, by show 3 ≤ sizeLine; decide, fun r nr => ?_⟩
        obtain ⟨g1, g2, g3, g4, g5⟩ := tail H10 p2 A2 (s9.trans s10) (f2.back s9) hA2 r nr
        refine ⟨l, _, .ref r, rfl, rfl, g1, ?_, p2, A2, ts ++ [⟨ka - 6, 1 + kb, m⟩], _, _, _, _, _, _, _, _, _, _, rfl, g2, g3, g4, fA2.mono (by omega) (by omega) (Nat.le_refl _), g5, okt', lts', fun u => ?_⟩
        · rw [List.length_map, lrs]
          exact small4000 (by omega)
        · rw [vA2 u]
          exact vSum u
      · refine ⟨_, rfl, _, rfl, rPO_of hB9 (Late.poly hA9 fA) ⟨q, .ref p, B, nms, 1, 64, 1 + i, 2 + 77 * i, 4, _, rfl, hB9, fB4, Late.poly hA9 fA, by omega, by omega, by omega, by omega, fun H10 p2 A2 s10 f2 hA2 fA2 vA2 => ⟨p2, rfl, ?_⟩⟩⟩
        refine ⟨.ref l, rfl, .inl ⟨rfl, _, SqL.of ((s9.trans s10) _ _ hl8)⟩, _, rfl, _, rfl, _, rfl, by show 3 ≤ sizeLine; decide, fun r nr => ?_⟩
        obtain ⟨g1, g2, g3, g4, g5⟩ := tail H10 p2 A2 (s9.trans s10) (f2.back s9) hA2 r nr
        refine ⟨l, _, .ref r, rfl, rfl, g1, ?_, p2, A2, ts ++ [⟨ka - 6, 1 + kb, m⟩], _, _, _, _, _, _, _, _, _, _, rfl, g2, g3, g4, fA2.mono (by omega) (by omega) (Nat.le_refl _), g5, okt', lts', fun u => ?_⟩
        · rw [List.length_map, lrs]
          exact small4000 (by omega)
        · rw [vA2 u]
          show val u B + val u A = _
          rw [Rat.add_comm]
          exact vSum u
    · rintro σ H3 ⟨p, A, ts, y6, y7, y8, y9, y10, y11, y12, y13, y14, y15, rfl, s3, hA, fr, fA, hts, okt, lts, vA⟩
      have hk : k.toNat ≤ most := by omega
      refine ⟨_, rfl, _, rfl, by show 2 ≤ sizeLine; decide, fun r nr => ?_⟩
      have sr := same_upd (o := HO.tup [.ref p, .ref l]) nr
      exact qq _ r p l A ts (s3.trans sr) upd_same (hA.same sr) (fr.on sr hA) (fA.mono (by omega) (by omega) (Nat.le_refl _)) (hts.same sr) (by omega) okt vA
end
end Po
namespace Po
open PySem PySem.Spec L2 Lo PyProof.Rows
theorem hor_scale (B c : Int) : ∀ (K : Nat) (F : Nat → Int), hor B K (fun k => F k * c) = hor B K F * c
  | 0, _ => by show (0 : Int) = 0 * c; omega
  | K + 1, F => by
    show F 0 * c + B * hor B K (fun k => F (k + 1) * c) = (F 0 + B * hor B K (fun k => F (k + 1))) * c
    rw [hor_scale B c K (fun k => F (k + 1))]
    grind
/-- a name with another value -/
def with_ (u : Str → Int) (x : Str) (B : Int) : Str → Int := fun s => if s = x then B else u s
theorem with_same {u : Str → Int} {x : Str} {B : Int} : with_ u x B x = B := if_pos rfl
theorem with_ne {u : Str → Int} {x y : Str} {B : Int} (h : y ≠ x) : with_ u x B y = u y := if_neg h
theorem ev_with {u : Str → Int} {x : Str} {B : Int} {T : List (Mo × Int)} (h : ∀ t ∈ T, ∀ p ∈ t.1, p.1 ≠ x) : ev (with_ u x B) T = ev u T := ev_congr fun t ht p hp => with_ne (h t ht p hp)
theorem part_no {x : Str} {k : Int} {T : List (Mo × Int)} : ∀ t ∈ part x k T, ∀ p ∈ t.1, p.1 ≠ x := fun s hs p hp => by
  obtain ⟨t, _, _, rfl⟩ := mem_part hs
  exact (mem_lo.mp hp).2
/-- the exponent of the first name in a drawn term -/
def k1 (t : Tm) : Nat := match t.m with | p :: _ => p.2.toNat | [] => 0
def rest1 (u : Str → Int) (t : Tm) : Int := match t.m with | _ :: m => t.a * (12 / t.b) * worth u m | [] => 0
def gAt (u : Str → Int) (ts : List Tm) (k : Nat) : Int := match ts with | [] => 0 | t :: ts => (if k = k1 t then rest1 u t else 0) + gAt u ts k
theorem tsVal_hor {u : Str → Int} {x y : Str} (xy : y ≠ x) (B : Int) {K : Nat} (hK : 3 ≤ K) : ∀ {ts : List Tm}, (∀ t ∈ ts, TmOk [x, y] t) → tsVal (with_ u x B) ts = hor B K (gAt u ts)
  | [], _ => by
    show (0 : Int) = hor B K (fun _ => 0)
    rw [hor_zero]
  | t :: ts, ok => by
    have h1 := ok t List.mem_cons_self
    have ih := tsVal_hor (u := u) xy B hK fun s hs => ok s (List.mem_cons_of_mem _ hs)
    show tmVal (with_ u x B) t + tsVal (with_ u x B) ts = hor B K fun k => (if k = k1 t then rest1 u t else 0) + gAt u ts k
    rw [hor_add, ih]
    obtain ⟨a, b, m⟩ := t
    have hn := h1.names
    match m, hn, h1 with
    | [p, q], hn, h1 =>
      have e1 : p.1 = x := by injection hn
      have e2 : q.1 = y := by injection hn with _ h; injection h
      have hp := h1.exp p List.mem_cons_self
      have kk : k1 ⟨a, b, [p, q]⟩ = p.2.toNat := rfl
      rw [hor_one _ _ _ _ (by rw [kk]; omega), kk]
      congr 1
      show a * (12 / b) * (with_ u x B p.1 ^ p.2.toNat * (with_ u x B q.1 ^ q.2.toNat * 1)) = B ^ p.2.toNat * (a * (12 / b) * (u q.1 ^ q.2.toNat * 1))
      rw [e1, with_same, e2, with_ne xy]
      grind
    | [], hn, _ => exact nomatch hn
    | [p], hn, _ => simp at hn
    | p :: q :: r :: m, hn, _ => simp at hn
theorem gAt_none {u : Str → Int} {nms : List Str} {k : Nat} (hk : 3 ≤ k) : ∀ {ts : List Tm}, (∀ t ∈ ts, TmOk nms t) → gAt u ts k = 0
  | [], _ => rfl
  | t :: ts, ok => by
    have h1 := ok t List.mem_cons_self
    have ih := gAt_none (u := u) hk fun s hs => ok s (List.mem_cons_of_mem _ hs)
    have : ¬ k = k1 t := by
      obtain ⟨a, b, m⟩ := t
      cases m with
      | nil => show ¬ k = 0; omega
      | cons p m =>
        have hp := h1.exp p List.mem_cons_self
        show ¬ k = p.2.toNat
        omega
    show (if k = k1 t then rest1 u t else 0) + gAt u ts k = 0
    rw [if_neg this, ih]
    rfl
/-- a drawn polynomial has no power of its first name above the second -/
theorem deg2 {ns : List Str} {n b D : Nat} {A : Pol} {x y : Str} {ts : List Tm} (f : Fits ns n b D A) (xy : y ≠ x) (ok : ∀ t ∈ ts, TmOk [x, y] t) (v : ∀ u, val u A = (tsVal u ts : Rat) / ((12 : Int) : Rat)) : ∀ t ∈ A.T, expo x t.1 ≤ 2 := by
  have pA := f.can.pos
  have good := f.can.good
  have cross : ∀ u, ev u A.T * 12 = tsVal u ts * A.d := fun u => (rat_cross pA (by decide)).mp (v u)
  have zero : ∀ u k, 3 ≤ k → k < degOf x A.T + 3 → ev u (part x (k : Nat) A.T) = 0 := fun u k hk hK => by
    have h := hor_none (degOf x A.T + 3) (fun k => ev u (part x (k : Nat) A.T) * 12 + gAt u ts k * (-A.d)) (fun B _ => ?_) k hK
    · have h' : ev u (part x (k : Nat) A.T) * 12 + gAt u ts k * (-A.d) = 0 := h
      rw [gAt_none hk ok] at h'
      omega
    · rw [hor_add, hor_scale, hor_scale]
      have e1 := ev_part (with_ u x B) x (degOf x A.T + 3) (T := A.T) fun t ht => ⟨good t ht, by have := le_degOf (x := x) ht; omega⟩
      rw [with_same] at e1
      have e2 : (fun k : Nat => ev (with_ u x B) (part x (k : Nat) A.T)) = fun k : Nat => ev u (part x (k : Nat) A.T) := by
        funext k
        exact ev_with part_no
      rw [e2] at e1
      rw [← e1, ← tsVal_hor xy B (by omega) ok, cross]
      grind
  intro t ht
  refine Classical.byContradiction fun hk => ?_
  have e0 := expo_nonneg (x := x) (good t ht)
  obtain ⟨k, ek⟩ : ∃ k : Nat, expo x t.1 = k := ⟨(expo x t.1).toNat, by omega⟩
  have hK := le_degOf (x := x) ht
  have z := ev_none ns (T := part x (k : Nat) A.T) (fun s hs => ⟨(f.part x k).good s hs, ((f.part x k).mon s hs).2⟩) (fun u => zero u k (by omega) (by omega)) (lo x t.1)
  have hm : (lo x t.1, t.2) ∈ part x (k : Nat) A.T := by
    unfold part
    exact List.mem_map.mpr ⟨t, List.mem_filter.mpr ⟨ht, by simpa using ek⟩, rfl⟩
  rw [co_mem (f.part x k).nd hm] at z
  exact f.can.nz t ht z
/-- the size of a value -/
theorem ev_bits {ns : List Str} {n b D c : Nat} {A : Pol} {u : Str → Int} (f : Fits ns n b D A) (hc : ∀ x ∈ ns, (u x).natAbs ≤ 2 ^ c) : (ev u A.T).natAbs ≤ A.T.length * (2 ^ b * 2 ^ (c * D)) := by
  have key : ∀ T : List (Mo × Int), (∀ t ∈ T, t.2.natAbs < 2 ^ b ∧ degM t.1 ≤ D ∧ ∀ p ∈ t.1, p.1 ∈ ns) → (ev u T).natAbs ≤ T.length * (2 ^ b * 2 ^ (c * D)) := by
    intro T
    induction T with
    | nil => intro _; exact Nat.zero_le _
    | cons t T ih =>
      intro h
      obtain ⟨h1, h2, h3⟩ := h t List.mem_cons_self
      have i2 := ih fun s hs => h s (List.mem_cons_of_mem _ hs)
      show (t.2 * worth u t.1 + ev u T).natAbs ≤ (T.length + 1) * _
      have i1 : (t.2 * worth u t.1).natAbs ≤ 2 ^ b * 2 ^ (c * D) := by
        rw [Int.natAbs_mul]
        exact Nat.mul_le_mul (Nat.le_of_lt h1) (worthD h2 h3 hc)
      rw [Nat.add_mul]
      omega
  exact key A.T fun t ht => ⟨f.cof t ht, f.mon t ht⟩
end Po
namespace Po
/-! ways to part, falling products, power sums -/
def st : Nat → Nat → Int
  | 0, 0 => 1
  | 0, _ + 1 => 0
  | _ + 1, 0 => 0
  | m + 1, k + 1 => ((k + 1 : Nat) : Int) * st m (k + 1) + st m k
theorem st_high : ∀ (m k : Nat), m < k → st m k = 0
  | 0, 0, h => absurd h (Nat.lt_irrefl _)
  | 0, _ + 1, _ => rfl
  | m + 1, 0, h => absurd h (Nat.not_lt_zero _)
  | m + 1, k + 1, h => by
    show ((k + 1 : Nat) : Int) * st m (k + 1) + st m k = 0
    rw [st_high m (k + 1) (by omega), st_high m k (by omega)]
    omega
/-- how the program makes the next row -/
theorem st_step (m k : Nat) : st (m + 1) k = (k : Int) * st m k + (if 0 < k then st m (k - 1) else 0) := by
  cases k with
  | zero =>
    show (0 : Int) = ((0 : Nat) : Int) * st m 0 + 0
    simp
  | succ k =>
    rw [if_pos (by omega)]
    rfl
def ffall (x : Int) : Nat → Int
  | 0 => 1
  | k + 1 => ffall x k * (x - k)
theorem ffall_up (x : Int) : ∀ k, ffall (x + 1) (k + 1) = (x + 1) * ffall x k
  | 0 => by show 1 * (x + 1 - ((0 : Nat) : Int)) = (x + 1) * 1; simp
  | k + 1 => by
    show ffall (x + 1) (k + 1) * (x + 1 - ((k + 1 : Nat) : Int)) = (x + 1) * (ffall x k * (x - k))
    rw [ffall_up x k]
    have : x + 1 - ((k + 1 : Nat) : Int) = x - k := by omega
    rw [this]
    grind
theorem ffall_step (x : Int) (k : Nat) : ffall (x + 1) (k + 1) - ffall x (k + 1) = ((k + 1 : Nat) : Int) * ffall x k := by
  rw [ffall_up]
  show (x + 1) * ffall x k - ffall x k * (x - k) = _
  have : ((k + 1 : Nat) : Int) = (k : Int) + 1 := by omega
  rw [this]
  grind
def ssum (F : Nat → Int) : Nat → Int
  | 0 => 0
  | n + 1 => ssum F n + F n
theorem ssum_shift (F : Nat → Int) : ∀ n, ssum F (n + 1) = F 0 + ssum (fun k => F (k + 1)) n
  | 0 => by show 0 + F 0 = F 0 + 0; omega
  | n + 1 => by
    show ssum F (n + 1) + F (n + 1) = F 0 + (ssum (fun k => F (k + 1)) n + F (n + 1))
    rw [ssum_shift F n]
    omega
theorem ssum_add (F G : Nat → Int) : ∀ n, ssum (fun k => F k + G k) n = ssum F n + ssum G n
  | 0 => rfl
  | n + 1 => by
    show ssum (fun k => F k + G k) n + (F n + G n) = ssum F n + F n + (ssum G n + G n)
    rw [ssum_add F G n]
    omega
theorem ssum_mul (c : Int) (F : Nat → Int) : ∀ n, ssum (fun k => c * F k) n = c * ssum F n
  | 0 => by show (0 : Int) = c * 0; omega
  | n + 1 => by
    show ssum (fun k => c * F k) n + c * F n = c * (ssum F n + F n)
    rw [ssum_mul c F n, Int.mul_add]
theorem ssum_congr {F G : Nat → Int} : ∀ n, (∀ k, k < n → F k = G k) → ssum F n = ssum G n
  | 0, _ => rfl
  | n + 1, h => by
    show ssum F n + F n = ssum G n + G n
    rw [ssum_congr n fun k hk => h k (by omega), h n (by omega)]
/-- a power is a sum of falling products -/
theorem pow_st (x : Int) : ∀ (m n : Nat), m < n → ssum (fun k => st m k * ffall x k) n = x ^ m
  | 0, 0, h => absurd h (Nat.lt_irrefl _)
  | 0, n + 1, _ => by
    rw [ssum_shift]
    have : ssum (fun k => st 0 (k + 1) * ffall x (k + 1)) n = ssum (fun k => 0 * (0 : Int)) n := ssum_congr n fun k _ => by show 0 * _ = _; simp
    rw [this, ssum_mul]
    show 1 * 1 + 0 * _ = x ^ 0
    simp
  | m + 1, 0, h => absurd h (Nat.not_lt_zero _)
  | m + 1, n + 1, h => by
    have e : (fun k : Nat => st (m + 1) k * ffall x k) = fun k : Nat => (k : Int) * st m k * ffall x k + (if 0 < k then st m (k - 1) else 0) * ffall x k := by
      funext k
      rw [st_step, Int.add_mul]
    rw [e, ssum_add]
    have e2 : ssum (fun k => (if 0 < k then st m (k - 1) else 0) * ffall x k) (n + 1) = ssum (fun k => st m k * ffall x (k + 1)) n := by
      rw [ssum_shift]
      have : ssum (fun k => (if 0 < k + 1 then st m (k + 1 - 1) else 0) * ffall x (k + 1)) n = ssum (fun k => st m k * ffall x (k + 1)) n := ssum_congr n fun k _ => by
        rw [if_pos (by omega)]
        rfl
      rw [this, if_neg (by omega)]
      omega
    have e3 : ssum (fun k : Nat => (k : Int) * st m k * ffall x k) (n + 1) = ssum (fun k : Nat => (k : Int) * st m k * ffall x k) n := by
      show _ + ((n : Nat) : Int) * st m n * ffall x n = _
      rw [st_high m n (by omega)]
      simp
    rw [e2, e3, ← ssum_add]
    have e4 : (fun k : Nat => (k : Int) * st m k * ffall x k + st m k * ffall x (k + 1)) = fun k => x * (st m k * ffall x k) := by
      funext k
      show (k : Int) * st m k * ffall x k + st m k * (ffall x k * (x - k)) = _
      grind
    rw [e4, ssum_mul, pow_st x m n (by omega), Int.pow_succ]
    exact Int.mul_comm _ _
end Po
namespace Po
open PySem PySem.Spec L2 Lo PyProof.Rows
abbrev sPowerSum : Stmt := top 12
abbrev sPartitions : Stmt := top 13
abbrev sSummed : Stmt := top 14
def row (m : Nat) : List V := (List.range (m + 1)).map fun k => V.int (st m k)
theorem row_wide (m : Nat) : row m ++ [V.int 0] = (List.range (m + 2)).map fun k => V.int (st m k) := by
  unfold row
  rw [List.range_succ (n := m + 1), List.map_append]
  show _ = _ ++ [V.int (st m (m + 1))]
  rw [st_high m (m + 1) (by omega)]
section
variable {P : Program} {w : World} {K : PySem.W.Frag} {mg : Str → Option Value} {base : Heap}
/-! ### _partitions -/
def spParts : Sp := fun vs H Q _ => ∃ m : Nat, vs = [.int m] ∧ m ≤ 20 ∧ ∀ H' l, Same H H' → H l = none → H' l = some (.lst (row m)) → Q (.ref l) H'
abbrev nPartitions : List Str := ["many", "found", "_", "wider", "size"]
theorem scPartitions : FnScope nPartitions ["many"] (defScope sPartitions) := ⟨rfl, rfl, rfl, by decide +kernel, rfl, by decide +kernel, by decide +kernel⟩
theorem ok_parts {f : Addr} {fd : FuncData} (F : Fun K "_partitions" "_partitions" sPartitions f fd) (T : Blt mg) : FnOk P w K mg base CX0 1 f fd ["many"] spParts := by
  refine F.ok scPartitions (fun vs H Q E h => ?_) (fun cdv Ar outer s H vs Q E hr h => ?_)
  · obtain ⟨m, rfl, _⟩ := h
    rfl
  · obtain ⟨m, rfl, m20, q⟩ := h
    have nd := scPartitions.nd
    refine ⟨_, pss_cons (ps_set (i := 1) nd rfl (.inl rfl) (pe_lst (pa_cons pe_int pa_nil)))
      (pss_cons (ps_for PassesOwn.never rfl (pi_range1 (by rfl) T.range (pa_cons (pv 0) pa_nil)) (pg_name (i := 2) nd rfl (.inl rfl))
        (pss_cons (ps_set (i := 3) nd rfl (.inr rfl) (pe_lst (StX.pa_star (pv 1) (pa_cons pe_int pa_nil))))
        (pss_one (ps_setLc (i := 1) (own := [("size", 4)]) (g := gName 4) (tt := tYes) rfl nd rfl rfl (sw_true rfl rfl rfl (by decide +kernel)) (pi_range1 (by rfl) T.range (pa_cons (pe_callB call_len_seq (by rfl) T.len PySem.boot_len (pa_cons (pv 3) pa_nil)) pa_nil)) (blkOk_by (N := nPartitions) (sc := defScope sPartitions) (by decide +kernel))
          (fun _ _ _ _ _ => pg_name (i := 4) nd rfl (.inl rfl)) (fun _ _ _ _ _ => pts_nil)
          (fun _ _ _ _ _ => pe_op op_add (pe_op op_mul (pv 4) (pe_ix (r := rIxL K) ix_list (pv 3) (pv 4) (fun _ _ => rfl))) (pe_ifExp (pt_cmpR op_gt (pv 4) pe_int (nomark _)) (pe_ix (r := rIxL K) ix_list (pv 3) (pe_op op_sub (pv 4) pe_int) (fun _ _ => rfl)) pe_int))))))
      (pss_one (ps_ret (pv 1)))), ?_⟩
    refine ⟨by show 1 ≤ sizeLine; decide, fun l0 hl0 => ?_⟩
    refine ⟨.int m, rfl, m, rfl, by omega, by omega, for_range (lo := 0) (fun i σ H' => ∃ (l : Addr) (y2 y3 : Option V), σ = [some (.int m), some (.ref l), y2, y3, none] ∧ Same H H' ∧ H l = none ∧ H' l = some (.lst (row i))) ⟨l0, none, none, rfl, same_upd hl0, hl0, upd_same⟩ ?_ ?_⟩
    · rintro i σ H1 hi ⟨l, y2, y3, rfl, s1, hln, hl⟩
      have i20 : i < 20 := by omega
      refine ⟨.ref l, rfl, l, row i, rfl, .inr (SqL.of hl), ?_, fun lw hlw => ?_⟩
      · show (row i ++ [V.int 0]).length ≤ sizeLine
        rw [row_wide, List.length_map, List.length_range]
        exact Nat.le_of_lt (small4000 (by omega))
      rw [row_wide]
      have sw := same_upd (o := HO.lst ((List.range (i + 2)).map fun k => V.int (st i k))) hlw
      have ew := upd_same (H := H1) (a := lw) (o := HO.lst ((List.range (i + 2)).map fun k => V.int (st i k)))
      generalize upd H1 lw (.lst ((List.range (i + 2)).map fun k => V.int (st i k))) = H2 at sw ew ⊢
      have s2 := s1.trans sw
      have len2 : ((List.range (i + 2)).map fun k => V.int (st i k)).length = i + 2 := by rw [List.length_map, List.length_range]
      refine ⟨.ref lw, rfl, lw, _, rfl, .inl (SqL.of ew), _, rfl, ?_, ?_, fun D hD => ?_⟩
      · omega
      · rw [len2]
        omega
      have en : ((((List.range (i + 2)).map fun k => V.int (st i k)).length : Nat) : Int).toNat = i + 2 := by rw [len2]; omega
      rw [en]
      have at_ : ∀ k, k < i + 2 → atI ((List.range (i + 2)).map fun k => V.int (st i k)) ((k : Nat) : Int) = some (.int (st i k)) := fun k hk => atI_nat (by rw [List.getElem?_map, List.getElem?_range hk]; rfl)
      refine lc_it walk_range (fun j H' => Same H2 H' ∧ H' D = some (.lst ((List.range j).map fun k => V.int (st (i + 1) k)))) ⟨same_upd hD, upd_same⟩ (fun _ _ _ _ => trivial) ?_ ?_
      · rintro j x H3 H4 hj ⟨s3, hb⟩ ⟨rfl, rfl⟩
        have e0 : (0 : Int) + ((j : Nat) : Int) = ((j : Nat) : Int) := by omega
        refine ⟨rfl, ?_⟩
        unfold tYes
        have fin : ∀ c : Int, c = st (i + 1) j → ∃ acc, H4 D = some (.lst acc) ∧ acc.length < sizeLine ∧ Same H2 (upd H4 D (.lst (acc ++ [V.int c]))) ∧ upd H4 D (.lst (acc ++ [V.int c])) D = some (.lst ((List.range (j + 1)).map fun k => V.int (st (i + 1) k))) := fun c hc => by
          refine ⟨_, hb, ?_, same_lay hD s3 hb, ?_⟩
          · rw [List.length_map, List.length_range]
            exact small4000 (by omega)
          · rw [upd_same, List.range_succ, List.map_append, hc]
            rfl
        refine iteT ⟨.int (0 + ((j : Nat) : Int)), rfl, .ref lw, rfl, .int (0 + ((j : Nat) : Int)), rfl, lw, _, _, _, rfl, rfl, SqL.of (s3 _ _ ew), by rw [e0]; exact at_ j hj, _, _, rfl, rfl, .inl ⟨by omega, by omega⟩, .int (0 + ((j : Nat) : Int)), rfl, _, _, rfl, rfl, _, rfl, ite2 (fun z => ?_) (fun z => ?_)⟩
        · have z' : 0 < j := by
            have := of_decide_eq_true z
            omega
          have e1 : 0 + ((j : Nat) : Int) - 1 = ((j - 1 : Nat) : Int) := by omega
          refine ⟨.ref lw, rfl, .int (0 + ((j : Nat) : Int)), rfl, _, _, rfl, rfl, lw, _, _, _, rfl, rfl, SqL.of (s3 _ _ ew), by rw [e1]; exact at_ (j - 1) (by omega), _, _, rfl, rfl, fin _ ?_⟩
          rw [st_step, if_pos z', e0]
        · have z' : ¬ 0 < j := fun h => z (decide_eq_true (by omega))
          refine ⟨_, _, rfl, rfl, fin _ ?_⟩
          rw [st_step, if_neg z', e0]
      · rintro H3 ⟨s3, hb⟩
        exact ⟨D, some (.int (0 + (i : Nat))), some (.ref lw), rfl, s2.trans s3, s2.free hD, hb⟩
    · rintro σ H1 ⟨l, y2, y3, rfl, s1, hln, hl⟩
      have em : ((m : Nat) : Int).toNat = m := by omega
      rw [em] at hl
      exact ⟨_, rfl, q _ l s1 hln hl⟩
end
end Po
namespace Po
open PySem PySem.Spec L2 Lo
/-! how many monomials there are of one name, of two -/
theorem pigeon : ∀ (N : Nat) (l : List Nat), l.Nodup → (∀ v ∈ l, v < N) → l.length ≤ N
  | 0, l, _, h => by
    cases l with
    | nil => exact Nat.le_refl _
    | cons a l => exact absurd (h a List.mem_cons_self) (Nat.not_lt_zero _)
  | N + 1, l, nd, h => by
    by_cases c : N ∈ l
    · have e := List.length_erase_of_mem c
      have := pigeon N (l.erase N) (nd.erase N) fun v hv => by
        have h1 := (nd.mem_erase_iff).mp hv
        have h2 := h v h1.2
        have : v ≠ N := h1.1
        omega
      omega
    · have := pigeon N l nd fun v hv => by
        have h2 := h v hv
        have : v ≠ N := fun e => c (e ▸ hv)
        omega
      omega
theorem lo_nil {x : Str} {m : Mo} (h : ∀ p ∈ m, p.1 = x) : lo x m = [] := by
  unfold lo
  rw [List.filter_eq_nil_iff]
  intro p hp
  simp [h p hp]
theorem Fits.len1 {x : Str} {n b D : Nat} {A : Pol} (f : Fits [x] n b D A) : A.T.length ≤ D + 1 := by
  have nd := f.can.nodup mlt_ord
  have hx : ∀ t ∈ A.T, ∀ p ∈ t.1, p.1 = x := fun t ht p hp => List.mem_singleton.mp ((f.mon t ht).2 p hp)
  have h := pigeon (D + 1) (A.T.map fun t => (expo x t.1).toNat) ?_ ?_
  · rw [List.length_map] at h
    exact h
  · rw [List.Nodup, List.pairwise_map] at nd ⊢
    refine (List.Pairwise.and_mem.mp nd).imp fun {s t} ⟨hs, ht, ne⟩ e => ne ?_
    have g1 := f.can.good s hs
    have g2 := f.can.good t ht
    have e1 := expo_nonneg (x := x) g1
    have e2 := expo_nonneg (x := x) g2
    exact lo_inj (x := x) g1 g2 (by omega) (by rw [lo_nil (hx s hs), lo_nil (hx t ht)])
  · intro v hv
    obtain ⟨t, ht, rfl⟩ := List.mem_map.mp hv
    have h1 := expo_deg (x := x) (f.can.good t ht)
    have h2 := (f.mon t ht).1
    omega
/-- with the smaller number of terms -/
theorem Fits.tight {x : Str} {n b D : Nat} {A : Pol} (f : Fits [x] n b D A) : Fits [x] (D + 1) b D A := { f with len := f.len1 }
/-- two names -/
theorem Fits.len2 {x y : Str} {n b D : Nat} {A : Pol} (f : Fits [x, y] n b D A) : A.T.length ≤ (D + 1) * (D + 1) := by
  have nd := f.can.nodup mlt_ord
  have small : ∀ (z : Str), ∀ t ∈ A.T, (expo z t.1).toNat ≤ D := fun z t ht => by
    have h1 := expo_deg (x := z) (f.can.good t ht)
    have h2 := (f.mon t ht).1
    omega
  have h := pigeon ((D + 1) * (D + 1)) (A.T.map fun t => (expo x t.1).toNat * (D + 1) + (expo y t.1).toNat) ?_ ?_
  · rw [List.length_map] at h
    exact h
  · rw [List.Nodup, List.pairwise_map] at nd ⊢
    refine (List.Pairwise.and_mem.mp nd).imp fun {s t} ⟨hs, ht, ne⟩ e => ne ?_
    have g1 := f.can.good s hs
    have g2 := f.can.good t ht
    have s1 := small y s hs
    have s2 := small y t ht
    have c1 := expo_nonneg (x := x) g1
    have c2 := expo_nonneg (x := x) g2
    have c3 := expo_nonneg (x := y) g1
    have c4 := expo_nonneg (x := y) g2
    have ex : (expo x s.1).toNat = (expo x t.1).toNat := by
      have h1 : ((expo x s.1).toNat * (D + 1) + (expo y s.1).toNat) / (D + 1) = ((expo x t.1).toNat * (D + 1) + (expo y t.1).toNat) / (D + 1) := congrArg (fun v => v / (D + 1)) e
      rw [Nat.mul_comm, Nat.mul_add_div (by omega), Nat.mul_comm, Nat.mul_add_div (by omega), Nat.div_eq_of_lt (show (expo y s.1).toNat < D + 1 by omega), Nat.div_eq_of_lt (show (expo y t.1).toNat < D + 1 by omega)] at h1
      omega
    have ey : (expo y s.1).toNat = (expo y t.1).toNat := by
      rw [ex] at e
      omega
    refine lo_inj (x := x) g1 g2 (by omega) (lo_inj (x := y) g1.lo g2.lo ?_ ?_)
    · by_cases xy : y = x
      · subst xy
        rw [expo_none fun p hp => (mem_lo.mp hp).2, expo_none fun p hp => (mem_lo.mp hp).2]
      · have key : ∀ {m : Mo}, expo y (lo x m) = expo y m := by
          intro m
          induction m with
          | nil => rfl
          | cons p m ih =>
            unfold lo
            rw [List.filter_cons]
            by_cases c : p.1 = x
            · rw [if_neg (by simpa using c)]
              conv => rhs; unfold expo; rw [if_neg (fun e => xy (e.symm.trans c))]
              exact ih
            · rw [if_pos (by simpa using c)]
              conv => lhs; unfold expo
              conv => rhs; unfold expo
              by_cases c2 : p.1 = y
              · rw [if_pos c2, if_pos c2]
              · rw [if_neg c2, if_neg c2]
                exact ih
        rw [key, key]
        omega
    · have none : ∀ u ∈ A.T, lo y (lo x u.1) = [] := fun u hu => lo_nil fun p hp => by
        obtain ⟨h1, h2⟩ := mem_lo.mp hp
        rcases List.mem_cons.mp ((f.mon u hu).2 p h1) with e | e
        · exact absurd e h2
        · exact List.mem_singleton.mp e
      rw [none s hs, none t ht]
  · intro v hv
    obtain ⟨t, ht, rfl⟩ := List.mem_map.mp hv
    have h1 := small x t ht
    have h2 := small y t ht
    have h3 := Nat.mul_le_mul_right (D + 1) h1
    rw [Nat.add_mul D 1]
    omega
end Po
namespace Po
open PySem PySem.Spec L2 Lo PyProof.Rows
/-- the power sum's value, term by term -/
def pwS (m : Nat) (z : Int) : Nat → Rat
  | 0 => 0
  | n + 1 => pwS m z n + (ffall (z + 1) (n + 1) : Rat) * ((st m n : Rat) / (((n : Nat) : Int) + 1 : Int))
theorem st_small : ∀ m, m < 7 → ∀ i, i < 7 → (st m i).natAbs < 2 ^ 7 := by decide +kernel
section
variable {P : Program} {w : World} {K : PySem.W.Frag} {mg : Str → Option Value} {base : Heap}
/-! ### power_sum -/
def spPow (P : Program) (w : World) (C : Addr) : Sp := fun vs H Q _ => ∃ (m : Nat) (x : Str), vs = [.int m, .str x] ∧ m ≤ 6 ∧ x ≠ "0" ∧
  ∀ H' r R, Same H H' → FrP H H' r → PolyAt P w C H' r R → Fits [x] (m + 2) (2 + 160 * (m + 1)) (m + 1) R → (∀ u, val u R = pwS m (u x) (m + 1)) → Q (.ref r) H'
abbrev nPowerSum : List Str := ["many", "name", "found", "factorial_sum", "size", "ways"]
theorem scPowerSum : FnScope nPowerSum ["many", "name"] (defScope sPowerSum) := ⟨rfl, rfl, rfl, by decide +kernel, rfl, by decide +kernel, by decide +kernel⟩
theorem ok_pow {f C fI a ra sa rs m rm mpC gC mpO gO fP : Addr} {mc : Value} {fd fdI fdP : FuncData} (F : Fun K "power_sum" "power_sum" sPowerSum f fd) (T : Blt mg) (X : PTxt K mg C fI) (Y : PCms K C mc mpC gC mpO gO) (O : POps P w K mg base C a ra sa rs m rm)
    (GI : FnOk P w K mg base CX0 1 fI fdI ["self", "terms", "below"] (spPInit P w C)) (bI : Binds K fdI ["self", "terms", "below"] [])
    (GC2 : FnR P w K mg base CX0 3 gC (spConst P w C)) (GO2 : FnR P w K mg base CX0 3 gO (spOf P w C))
    (mP : mg "_partitions" = some (.ref fP)) (kP : PySem.W.keepIn K (.ref fP) = true) (bP : Binds K fdP ["many"] []) (GP : FnOk P w K mg base CX0 1 fP fdP ["many"] spParts) : FnOk P w K mg base CX0 6 f fd ["many", "name"] (spPow P w C) := by
  refine F.ok scPowerSum (fun vs H Q E h => ?_) (fun cdv Ar outer s H vs Q E hr h => ?_)
  · obtain ⟨m, x, rfl, _⟩ := h
    rfl
  · obtain ⟨m, x, rfl, m6, x0, q⟩ := h
    have nd := scPowerSum.nd
    have r3 := hr.mono (show 3 ≤ 5 by decide)
    refine ⟨_, pss_cons (ps_set (i := 2) nd rfl (.inl rfl) (pe_make X.make GI (hr.mono (by decide)) (by rfl) X.mg bI .nil pass0 (pa_cons (pe_nnewP (P := P) (w := w) rfl rfl) (pa_cons pe_int pa_nil))))
      (pss_cons (ps_set (i := 3) nd rfl (.inl rfl) (ClX.pe_cmeth (pe_glob (v := .ref C) (by rfl) X.mg rfl) Y.rd Y.of GO2 r3 pass0 (pa_cons (pv 1) (pa_cons pe_int pa_nil))))
      (pss_cons (ps_for PassesOwn.never rfl (pi_enum (by rfl) T.enum (pa_cons (pe_call GP (hr.mono (by decide)) (by rfl) mP kP bP .nil pass0 (pa_cons (pv 0) pa_nil)) pa_nil)) (pg_tup rfl (pgs_cons (pg_name (i := 4) nd rfl (.inl rfl)) (pgs_cons (pg_name (i := 5) nd rfl (.inl rfl)) pgs_nil)))
        (pss_cons (ps_set (i := 2) nd rfl (.inl rfl) (pe_op (op_poly rfl is_add O.cA O.gA hr pass0) (pv 2) (pe_op (op_poly rfl is_mul O.cM O.gM hr pass0) (pv 3) (ClX.pe_cmeth (pe_glob (v := .ref C) (by rfl) X.mg rfl) Y.rd Y.con GC2 r3 pass0 (pa_cons (pv 5) (pa_cons (pe_op op_add (pv 4) pe_int) pa_nil))))))
        (pss_one (ps_set (i := 3) nd rfl (.inl rfl) (pe_op (op_poly rfl is_mul O.cM O.gM hr pass0) (pv 3) (ClX.pe_cmeth (pe_glob (v := .ref C) (by rfl) X.mg rfl) Y.rd Y.of GO2 r3 pass0 (pa_cons (pv 1) (pa_cons (pe_un un_neg (pv 4)) pa_nil))))))))
      (pss_one (ps_ret (pv 2))))), ?_⟩
    intro t ht
    have s0 := same_upd (o := NdO P w t []) ht
    have n0 : NDW P w (upd H t (NdO P w t [])) t [] := ⟨[], upd_same, (fun e h => nomatch h), rfl⟩
    refine make_polyA (d := 1) (b := 2) n0 List.nodup_nil (fun s h => nomatch h) (by decide) (by decide) (by decide) (by decide) (Nat.zero_le _) fun H1 r0 R0 s1 fr0 hR0 hN0 => ?_
    have s01 := s0.trans s1
    have f0 : Fits [x] 0 2 0 R0 := hN0.fits (Nat.zero_le _) (fun s h => nomatch h) (by decide) (by decide) (fun s h => nomatch h)
    have v0 : ∀ u, val u R0 = 0 := fun u => by
      rw [hN0.val (by decide) u]
      show ((0 : Int) : Rat) / ((1 : Int) : Rat) = 0
      rw [show ((0 : Int) : Rat) = 0 from rfl, show ((1 : Int) : Rat) = 1 from rfl]
      grind
    refine ⟨rfl, .str x, rfl, x, 1, 2, rfl, by decide, by decide, by decide, fun H2 g0 G0 s2 _ hG0 fG0 _ vG0 => ?_⟩
    have s02 := s01.trans s2
    refine ⟨.int m, rfl, m, rfl, by omega, fun H3 l s3 _ hl => ⟨l, row m, rfl, SqL.of hl, ?_⟩⟩
    have s03 := s02.trans s3
    refine for_it walk_enum (fun i σ H' => ∃ (r : Addr) (R : Pol) (g : Addr) (G : Pol) (y4 y5 : Option V), σ = [some (.int m), some (.str x), some (.ref r), some (.ref g), y4, y5] ∧ Same H3 H' ∧ FrP H H' r ∧ PolyAt P w C H' r R ∧ PolyAt P w C H' g G ∧ Fits [x] (m + 2) (2 + 160 * i) (m + 1) R ∧ Fits [x] (i + 2) (2 + 18 * i) (i + 1) G ∧ (∀ u, val u R = pwS m (u x) i) ∧ ∀ u, val u G = (ffall (u x + 1) (i + 1) : Rat))
      ⟨r0, R0, g0, G0, none, none, rfl, Same.refl _, (fr0.back s0).on (s2.trans s3) hR0, hR0.same (s2.trans s3), hG0.same s3, f0.mono (by omega) (by omega) (by omega), (fG0 [x] List.mem_cons_self).tight, v0, fun u => ?_⟩ (fun i σ H' _ ⟨_, _, _, _, _, _, _, sm, _⟩ => SqL.of (sm _ _ hl)) ?_ ?_
    · rw [vG0 u, if_neg x0]
      show ((u x + 1 : Int) : Rat) = ((1 * (u x + 1 - ((0 : Nat) : Int)) : Int) : Rat)
      congr 1
      omega
    · rintro i v σ H4 H5 hi ⟨r, R, g, G, y4, y5, rfl, s4, fr, hR, hG, fR, fG, vR, vG⟩ ⟨tp, x1, x2, rfl, ntp, rfl, e1, e2⟩
      have hi' : i < m + 1 := by
        have : i < (row m).length := hi
        unfold row at this
        rw [List.length_map, List.length_range] at this
        exact this
      dsimp only at e1 e2
      obtain rfl := Option.some.inj e1
      unfold row at e2
      rw [List.getElem?_map, List.getElem?_range hi'] at e2
      obtain rfl := Option.some.inj e2
      have sT := same_upd (o := HO.tup [V.int (i : Nat), V.int (st m i)]) ntp
      refine ⟨tp, _, rfl, SqT.of upd_same, rfl, _, _, rfl, _, _, rfl, rfl, ?_⟩
      have hR5 := hR.same sT
      have hG5 := hG.same sT
      have fr5 := fr.on sT hR
      have s5 := s4.trans sT
      generalize upd H4 tp (.tup [V.int (i : Nat), V.int (st m i)]) = H5 at hR5 hG5 fr5 s5 ⊢
      have bs := st_small m (by omega) i (by omega)
      refine ⟨_, rfl, _, rfl, rfl, _, rfl, _, rfl, _, _, rfl, rfl, st m i, ((i : Nat) : Int) + 1, 7, rfl, by omega, bs, by show (((i : Nat) : Int) + 1).natAbs < 128; omega, by decide, by decide, fun H6 c Cc s6 fc hC fC vC => ?_⟩
      have hG6 := hG5.same s6
      refine rPO_of hG6 (Late.poly hC (fC [x])) ⟨g, .ref c, G, [x], i + 2, 2 + 18 * i, i + 1, 1, 7, 0, _, rfl, hG6, fG, Late.poly hC (fC [x]), (fun q e => by cases e; exact (fc.apart s6 hG5).symm), by omega, by omega, by omega, fun H7 p Pp s7 _ hP fP vP => ⟨p, rfl, ?_⟩⟩
      have hR7 := hR5.same (s6.trans s7)
      have fP' := fP.mono (Nat.le_refl _) (Nat.le_refl _) (show i + 1 + 0 ≤ m + 1 by omega)
      refine rPO_of hR7 (Late.poly hP fP') ⟨r, .ref p, R, [x], m + 2, 2 + 160 * i, _, _, m + 1, _, rfl, hR7, fR, Late.poly hP fP', by omega, by omega, by omega, by omega, fun H8 r2 R2 s8 fr2 hR2 fR2 vR2 => ⟨r2, rfl, ?_⟩⟩
      have s58 := s6.trans (s7.trans s8)
      have hG8 := hG5.same s58
      refine ⟨_, rfl, rfl, .str x, rfl, _, rfl, _, rfl, x, -((i : Nat) : Int), 4, rfl, by show (-((i : Nat) : Int)).natAbs < 16; omega, by decide, by decide, fun H9 z Z s9 fz hZ fZ _ vZ => ?_⟩
      have hG9 := hG8.same s9
      have fZ' := (fZ [x] List.mem_cons_self).mono (show (if -((i : Nat) : Int) = 0 then 1 else 2) ≤ 2 by split <;> decide) (Nat.le_refl _) (Nat.le_refl _)
      refine rPO_of hG9 (Late.poly hZ fZ') ⟨g, .ref z, G, [x], i + 2, 2 + 18 * i, i + 1, 2, 4, 1, _, rfl, hG9, fG, Late.poly hZ fZ', (fun q e => by cases e; exact (fz.apart s9 hG8).symm), by omega, by omega, by omega, fun Ha g2 G2 sa _ hG2 fG2 vG2 => ⟨g2, rfl, ?_⟩⟩
      have s8a := s9.trans sa
      refine ⟨r2, R2, g2, G2, some (.int (i : Nat)), some (.int (st m i)), rfl, s5.trans (s58.trans s8a), (fr2.back (s03.trans (s5.trans (s6.trans s7)))).on s8a hR2, hR2.same s8a, hG2, (fR2.mono (Nat.le_refl _) (by omega) (Nat.le_refl _)).tight, (fG2.mono (Nat.le_refl _) (by omega) (Nat.le_refl _)).tight, fun u => ?_, fun u => ?_⟩
      · rw [vR2 u, vR u, vP u, vG u, vC u]
        rfl
      · rw [vG2 u, vG u, vZ u, if_neg x0, ← Rat.intCast_mul]
        show ((ffall (u x + 1) (i + 1) * (u x + -((i : Nat) : Int)) : Int) : Rat) = ((ffall (u x + 1) (i + 1) * (u x + 1 - ((i + 1 : Nat) : Int)) : Int) : Rat)
        congr 2
        omega
    · rintro σ H4 ⟨r, R, g, G, y4, y5, rfl, s4, fr, hR, hG, fR, fG, vR, vG⟩
      have el : (row m).length = m + 1 := by
        unfold row
        rw [List.length_map, List.length_range]
      rw [el] at fR vR
      exact ⟨_, rfl, q _ r R (s03.trans s4) fr hR fR vR⟩
end
end Po
namespace Po
theorem pwS_step (m : Nat) (z : Int) : ∀ n, pwS m z n - pwS m (z - 1) n = ((ssum (fun k => st m k * ffall z k) n : Int) : Rat)
  | 0 => by
    show (0 : Rat) - 0 = ((0 : Int) : Rat)
    rw [show ((0 : Int) : Rat) = 0 from rfl]
    exact Rat.sub_self
  | n + 1 => by
    have ih := pwS_step m z n
    have e1 : z - 1 + 1 = z := by omega
    have e2 := ffall_step z n
    have e3 : ((n + 1 : Nat) : Int) = (n : Int) + 1 := by omega
    rw [e3] at e2
    have e4 : (ffall (z + 1) (n + 1) : Rat) - (ffall z (n + 1) : Rat) = (((n : Int) + 1 : Int) : Rat) * (ffall z n : Rat) := by
      rw [← Rat.intCast_sub, e2, Rat.intCast_mul]
    have nz : (((n : Int) + 1 : Int) : Rat) ≠ 0 := rat_ne (by omega)
    show pwS m z n + (ffall (z + 1) (n + 1) : Rat) * ((st m n : Rat) / (((n : Nat) : Int) + 1 : Int)) - (pwS m (z - 1) n + (ffall (z - 1 + 1) (n + 1) : Rat) * ((st m n : Rat) / (((n : Nat) : Int) + 1 : Int))) = ((ssum (fun k => st m k * ffall z k) n + st m n * ffall z n : Int) : Rat)
    rw [e1, Rat.intCast_add (ssum (fun k => st m k * ffall z k) n) (st m n * ffall z n), ← ih, Rat.intCast_mul (st m n) (ffall z n)]
    generalize (ffall (z + 1) (n + 1) : Rat) = a at *
    generalize (ffall z (n + 1) : Rat) = b at *
    generalize (ffall z n : Rat) = c at *
    generalize (((n : Int) + 1 : Int) : Rat) = d at *
    generalize (st m n : Rat) = e at *
    generalize pwS m z n = g at *
    generalize pwS m (z - 1) n = h at *
    grind
/-- the power sum steps by the power -/
theorem pwS_pow {m n : Nat} (z : Int) (h : m < n) : pwS m z n - pwS m (z - 1) n = ((z ^ m : Int) : Rat) := by
  rw [pwS_step, pow_st z m n h]
theorem ffall_zero : ∀ k, ffall 0 (k + 1) = 0
  | 0 => rfl
  | k + 1 => by
    show ffall 0 (k + 1) * (0 - ((k + 1 : Nat) : Int)) = 0
    rw [ffall_zero k, Int.zero_mul]
theorem pwS_neg1 (m : Nat) : ∀ n, pwS m (-1) n = 0
  | 0 => rfl
  | n + 1 => by
    show pwS m (-1) n + (ffall (-1 + 1) (n + 1) : Rat) * _ = 0
    rw [pwS_neg1 m n, show (-1 + 1 : Int) = 0 from rfl, ffall_zero, show ((0 : Int) : Rat) = 0 from rfl, Rat.zero_mul, Rat.zero_add]
end Po
namespace Po
open PySem PySem.Spec L2 Lo PyProof.Rows
section
variable {X : Cx} {CX : CXT} {n : Nat} {g C : Addr} {sp : Sp} {E : XK} {e : Expr} {t : TE}
/-- an instance of the class at C as a test -/
def tTruO (C : Addr) (sp : Sp) (E : XK) (t : TE) : TT := fun σ H Q => t σ H fun x H1 => ∃ a dx fs, x = .ref a ∧ H1 a = some (.ins C dx fs) ∧ sp [.ref a] H1 (fun z H' => ∃ b : Bool, z = .bl b ∧ Q b H') E
theorem pt_own (hs : PySem.W.findIn X.K (.ref C) "__bool__" = some (some (.ref g))) (hf : PySem.W.isFn X.K (.ref g) = true) (F : FnR X.prog X.w X.K X.mg X.base CX n g sp) (hr : Room n X.A) (hx : Passes CX X E) (h : PE X e t)
    (he : ∀ whole, isTrue e X.env whole = (do let v ← whole; standAt e.pos; holding [v] (truthy v)) := by intro _; rfl) : PT X e (tTruO C sp E t) := by
  refine ⟨fun pins s σ H Q I hw => ?_⟩
  refine isTrue_plain (thn (h.run pins s σ H _ I hw) fun v s1 ⟨x, H1, I1, r1, q1⟩ => ?_) (he _)
  obtain ⟨a, dx, fs, rfl, ha, q⟩ := q1
  obtain rfl : v = Value.ref a := r1
  obtain ⟨mA, O, _⟩ := ins_get I1.hok ha
  obtain ⟨od, J, _⟩ := O.look
  unfold truthy
  refine wpAny_bind (m := callSpecial? (.ref a) "__bool__") (PySem.W.special_fn I1.kIn J hs (beq_iff_eq.mp hf) (wpAny_mono (wpAny_call (SlX.run_at (us := [.ref a]) (ws := [.ref a]) F hr I1.env0 hx I1 (.cons rfl .nil) q)) (fun v t ht => ?_) fun _ _ z => z))
  obtain ⟨z, H', J', rz, b, rfl, qz⟩ := ht
  cases (show v = Value.bool b from rz)
  exact wpAny_pure ⟨H', J', qz⟩
end
end Po
namespace Po
open PySem PySem.Spec L2 Lo PyProof.Rows
section
variable {X : Cx} {CX : CXT} {n : Nat} {f g C : Addr} {sp : Sp} {E : XK}
/-- low - 1: an int, or a polynomial -/
def rSubL (C : Addr) (sp : Sp) (E : XK) : R2 := fun x y H Q => rPO C sp E x y H Q ∨ ∃ i j, x = .int i ∧ y = .int j ∧ Q (.int (i - j)) H
theorem op_subL (N : NumCls X.K C "sub" f g) (F : FnR X.prog X.w X.K X.mg X.base CX n f sp) (hr : Room n X.A) (hx : Passes CX X E) : OpR X (binaryOp .Sub) (rSubL C sp E) := by
  intro pins s σ H x y v u Q I rx ry h
  rcases h with h | h
  · exact op_poly (op := .Sub) rfl is_sub N F hr hx pins s σ H x y v u Q I rx ry h
  · exact op_sub pins s σ H x y v u Q I rx ry h
end
section
variable {P : Program} {w : World} {K : PySem.W.Frag} {mg : Str → Option Value} {base : Heap}
abbrev nSummed : List Str := ["poly", "name", "low", "high", "found", "many", "factor", "rising"]
theorem scSummed : FnScope nSummed ["poly", "name", "low", "high"] (defScope sSummed) := ⟨rfl, rfl, rfl, by decide +kernel, rfl, by decide +kernel, by decide +kernel⟩
theorem summed_tree {C fI a ra sa rs m rm fP gDe gCo gPu gB : Addr} {fdI fdP dDe dCo dPu : FuncData} (T : Blt mg) (X : PTxt K mg C fI) (O : POps P w K mg base C a ra sa rs m rm)
    (GI : FnOk P w K mg base CX0 1 fI fdI ["self", "terms", "below"] (spPInit P w C)) (bI : Binds K fdI ["self", "terms", "below"] [])
    (mP : mg "power_sum" = some (.ref fP)) (kP : PySem.W.keepIn K (.ref fP) = true) (bP : Binds K fdP ["many", "name"] []) (GP : FnOk P w K mg base CX0 6 fP fdP ["many", "name"] (spPow P w C))
    (b1 : PySem.W.findIn K (.ref C) "__bool__" = some (some (.ref gB))) (b2 : PySem.W.isFn K (.ref gB) = true) (b3 : FnR P w K mg base CX0 1 gB (spPBool P w C))
    (mD : Meth K C "degree" gDe) (bD : Binds K dDe ["self", "name"] []) (GD : FnOk P w K mg base CX0 2 gDe dDe ["self", "name"] (spDeg P w C))
    (mC : Meth K C "coefficient" gCo) (bC : Binds K dCo ["self", "name", "many"] []) (GC : FnOk P w K mg base CX0 3 gCo dCo ["self", "name", "many"] (spCoef P w C))
    (mU : Meth K C "put" gPu) (bU : Binds K dPu ["self", "name", "other"] []) (GU : FnOk P w K mg base CX0 6 gPu dPu ["self", "name", "other"] (spPut P w C))
    (f : Addr) (cdv : Value) (Ar : Around) (outer : List Env) (s : Shared) (H : Hp) (E : XK) (hr : Room 6 (Ar.deeper (envOfC "summed" (defScope sSummed) s.heap.objs.size f cdv))) :
    ∃ t, PSs (cxOf CX0 P w K mg base nSummed "summed" (defScope sSummed) f cdv Ar outer s H E).nox (defBody sSummed) t := by
  have nd := scSummed.nd
  have r5 := hr.mono (show 5 ≤ 6 by decide)
  have r3 := hr.mono (show 3 ≤ 6 by decide)
  have r2 := hr.mono (show 2 ≤ 6 by decide)
  have r1 := hr.mono (show 1 ≤ 6 by decide)
  exact ⟨_, pss_cons (ps_set (i := 4) nd rfl (.inl rfl) (pe_make X.make GI r2 (by rfl) X.mg bI .nil pass0 (pa_cons (pe_nnewP (P := P) (w := w) rfl rfl) (pa_cons pe_int pa_nil))))
    (pss_cons (ps_for PassesOwn.never rfl (pi_range1 (by rfl) T.range (pa_cons (pe_op op_add (pe_meth (pv 0) X.cl mD GD r2 bD .nil pass0 (pa_cons (pv 1) pa_nil)) pe_int) pa_nil)) (pg_name (i := 5) nd rfl (.inl rfl))
      (pss_cons (ps_set (i := 6) nd rfl (.inl rfl) (pe_meth (pv 0) X.cl mC GC r3 bC .nil pass0 (pa_cons (pv 1) (pa_cons (pv 5) pa_nil))))
      (pss_one (ps_if (pt_own b1 b2 b3 r1 pass0 (pv 6))
        (pss_cons (ps_set (i := 7) nd rfl (.inl rfl) (pe_call GP hr (by rfl) mP kP bP .nil pass0 (pa_cons (pv 5) (pa_cons (pv 1) pa_nil))))
        (pss_one (ps_set (i := 4) nd rfl (.inl rfl) (pe_op (op_poly rfl is_add O.cA O.gA r5 pass0) (pv 4) (pe_op (op_poly rfl is_mul O.cM O.gM r5 pass0) (pv 6) (pe_op (op_poly rfl is_sub O.cS O.gS r5 pass0)
          (pe_meth (pv 7) X.cl mU GU hr bU .nil pass0 (pa_cons (pv 1) (pa_cons (pv 3) pa_nil)))
          (pe_meth (pv 7) X.cl mU GU hr bU .nil pass0 (pa_cons (pv 1) (pa_cons (pe_op (op_subL O.cS O.gS r5 pass0) (pv 2) pe_int) pa_nil)))))))))
        pss_nil))))
    (pss_one (ps_ret (pv 4))))⟩
end
end Po
namespace Po
open PySem PySem.Spec L2 Lo
/-! what a value's making tells of a polynomial: names, degree, sizes -/
theorem rat_over1 (i : Int) : (i : Rat) / ((1 : Int) : Rat) = (i : Rat) := by
  rw [show ((1 : Int) : Rat) = 1 from rfl]
  generalize (i : Rat) = r
  grind
theorem slt_tri (x y : Str) (h1 : ¬ slt x y) (h2 : ¬ slt y x) : x = y := by
  obtain ⟨⟨a⟩⟩ := x
  obtain ⟨⟨b⟩⟩ := y
  have : a = b := List.le_antisymm (as := a) (bs := b) (fun z => h2 z) (fun z => h1 z)
  rw [this]
instance slt_dec (x y : Str) : Decidable (slt x y) := inferInstanceAs (Decidable (x.cps.toList < y.cps.toList))
/-- one power more in a monomial -/
def insM (x : Str) (k : Int) : List (Str × Int) → List (Str × Int)
  | [] => [(x, k)]
  | q :: m => if q.1 = x then (x, q.2 + k) :: m else if slt x q.1 then (x, k) :: q :: m else q :: insM x k m
theorem insM_mem {x : Str} {k : Int} : ∀ {m : Mo} {p : Str × Int}, p ∈ insM x k m → p.1 = x ∨ p ∈ m
  | [], p, h => by rw [List.mem_singleton.mp h]; exact .inl rfl
  | q :: m, p, h => by
    unfold insM at h
    split at h
    · rcases List.mem_cons.mp h with e | e
      · rw [e]; exact .inl rfl
      · exact .inr (List.mem_cons_of_mem _ e)
    · split at h
      · rcases List.mem_cons.mp h with e | e
        · rw [e]; exact .inl rfl
        · exact .inr e
      · rcases List.mem_cons.mp h with e | e
        · rw [e]; exact .inr List.mem_cons_self
        · rcases insM_mem e with z | z
          · exact .inl z
          · exact .inr (List.mem_cons_of_mem _ z)
theorem insM_good {x : Str} {k : Int} (hk : 1 ≤ k) : ∀ {m : Mo}, Good m → Good (insM x k m)
  | [], _ => Good.one hk
  | q :: m, g => by
    have gq := g.pos q List.mem_cons_self
    obtain ⟨s1, s2⟩ := List.pairwise_cons.mp g.srt
    unfold insM
    split
    · rename_i e
      refine ⟨List.pairwise_cons.mpr ⟨fun r hr => ?_, s2⟩, fun r hr => ?_⟩
      · rw [← e]
        exact s1 r hr
      · rcases List.mem_cons.mp hr with z | z
        · rw [z]
          show 1 ≤ q.2 + k
          omega
        · exact g.pos r (List.mem_cons_of_mem _ z)
    · rename_i ne
      split
      · rename_i lt
        have lt' : slt x q.1 := lt
        refine ⟨List.pairwise_cons.mpr ⟨fun r hr => ?_, g.srt⟩, fun r hr => ?_⟩
        · rcases List.mem_cons.mp hr with z | z
          · rw [z]
            exact lt'
          · exact slt_trans lt' (s1 r z)
        · rcases List.mem_cons.mp hr with z | z
          · rw [z]
            exact hk
          · exact g.pos r z
      · rename_i nlt
        have lt' : slt q.1 x := Classical.byContradiction fun z => ne (slt_tri _ _ z nlt)
        have ih := insM_good (x := x) hk g.tail
        refine ⟨List.pairwise_cons.mpr ⟨fun r hr => ?_, ih.srt⟩, fun r hr => ?_⟩
        · rcases insM_mem hr with z | z
          · rw [z]
            exact lt'
          · exact s1 r z
        · rcases List.mem_cons.mp hr with z | z
          · rw [z]
            exact gq
          · exact ih.pos r z
theorem insM_worth (u : Str → Int) {x : Str} {k : Int} (hk : 0 ≤ k) : ∀ {m : Mo}, Good m → worth u (insM x k m) = u x ^ k.toNat * worth u m
  | [], _ => rfl
  | q :: m, g => by
    have gq := g.pos q List.mem_cons_self
    unfold insM
    split
    · rename_i e
      show u x ^ (q.2 + k).toNat * worth u m = u x ^ k.toNat * (u q.1 ^ q.2.toNat * worth u m)
      rw [e, show (q.2 + k).toNat = k.toNat + q.2.toNat by omega, Int.pow_add, Int.mul_assoc]
    · split
      · rfl
      · show u q.1 ^ q.2.toNat * worth u (insM x k m) = u x ^ k.toNat * (u q.1 ^ q.2.toNat * worth u m)
        rw [insM_worth u hk g.tail]
        grind
theorem insM_deg {x : Str} {k : Int} (hk : 0 ≤ k) : ∀ {m : Mo}, Good m → degM (insM x k m) = k.toNat + degM m
  | [], _ => rfl
  | q :: m, g => by
    have gq := g.pos q List.mem_cons_self
    unfold insM
    split
    · show (q.2 + k).toNat + degM m = k.toNat + (q.2.toNat + degM m)
      omega
    · split
      · rfl
      · show q.2.toNat + degM (insM x k m) = k.toNat + (q.2.toNat + degM m)
        rw [insM_deg hk g.tail]
        omega
/-- a monomial put in order -/
def normM : Mo → Mo
  | [] => []
  | p :: m => if p.2 = 0 then normM m else insM p.1 p.2 (normM m)
theorem normM_all : ∀ {m : Mo}, (∀ p ∈ m, 0 ≤ p.2) → Good (normM m) ∧ (∀ u, worth u (normM m) = worth u m) ∧ degM (normM m) = degM m ∧ ∀ p ∈ normM m, ∃ q ∈ m, q.1 = p.1
  | [], _ => ⟨Good.nil, fun _ => rfl, rfl, fun p h => nomatch h⟩
  | p :: m, h => by
    obtain ⟨h1, h2, h3, h4⟩ := normM_all fun q hq => h q (List.mem_cons_of_mem _ hq)
    have hp := h p List.mem_cons_self
    unfold normM
    split
    · rename_i e
      refine ⟨h1, fun u => ?_, ?_, fun q hq => ?_⟩
      · show worth u (normM m) = u p.1 ^ p.2.toNat * worth u m
        rw [e, h2 u]
        show worth u m = u p.1 ^ 0 * worth u m
        rw [Int.pow_zero, Int.one_mul]
      · show degM (normM m) = p.2.toNat + degM m
        omega
      · obtain ⟨r, hr, e⟩ := h4 q hq
        exact ⟨r, List.mem_cons_of_mem _ hr, e⟩
    · refine ⟨insM_good (by omega) h1, fun u => ?_, ?_, fun q hq => ?_⟩
      · rw [insM_worth u hp h1, h2 u]
        rfl
      · rw [insM_deg hp h1, h3]
        rfl
      · rcases insM_mem hq with z | z
        · exact ⟨p, List.mem_cons_self, z.symm⟩
        · obtain ⟨r, hr, e⟩ := h4 q z
          exact ⟨r, List.mem_cons_of_mem _ hr, e⟩
def n1 : List (Mo × Int) → Nat
  | [] => 0
  | t :: T => t.2.natAbs + n1 T
theorem n1_app (S T : List (Mo × Int)) : n1 (S ++ T) = n1 S + n1 T := by
  induction S with
  | nil => show n1 T = 0 + n1 T; omega
  | cons s S ih =>
    show s.2.natAbs + n1 (S ++ T) = s.2.natAbs + n1 S + n1 T
    omega
theorem n1_scale (c : Int) (T : List (Mo × Int)) : n1 (T.map fun t => (t.1, t.2 * c)) = n1 T * c.natAbs := by
  induction T with
  | nil => show 0 = 0 * c.natAbs; omega
  | cons t T ih =>
    show (t.2 * c).natAbs + n1 (T.map fun t => (t.1, t.2 * c)) = (t.2.natAbs + n1 T) * c.natAbs
    rw [ih, Int.natAbs_mul, Nat.add_mul]
theorem co_n1 (m : Mo) (T : List (Mo × Int)) : (co m T).natAbs ≤ n1 T := by
  induction T with
  | nil => exact Nat.zero_le _
  | cons t T ih =>
    have e : co m (t :: T) = (if t.1 = m then t.2 else 0) + co m T := rfl
    rw [e]
    show _ ≤ t.2.natAbs + n1 T
    split <;> omega
theorem n1_norm (T : List (Mo × Int)) : n1 (T.map fun t => (normM t.1, t.2)) = n1 T := by
  induction T with
  | nil => rfl
  | cons t T ih =>
    show t.2.natAbs + n1 (T.map fun t => (normM t.1, t.2)) = t.2.natAbs + n1 T
    rw [ih]
/-- terms in some names, of a degree -/
def RepT (ns : List Str) (d : Nat) (T : List (Mo × Int)) : Prop := ∀ t ∈ T, (∀ p ∈ t.1, 0 ≤ p.2 ∧ p.1 ∈ ns) ∧ degM t.1 ≤ d
def Rep (ns : List Str) (d b : Nat) (F : (Str → Int) → Rat) : Prop := ∃ T e, RepT ns d T ∧ 0 < e ∧ e.natAbs ≤ 2 ^ b ∧ n1 T ≤ 2 ^ b ∧ ∀ u, F u = (ev u T : Rat) / ((e : Int) : Rat)
theorem ev_norm {ns : List Str} {d : Nat} (u : Str → Int) : ∀ {T : List (Mo × Int)}, RepT ns d T → ev u (T.map fun t => (normM t.1, t.2)) = ev u T
  | [], _ => rfl
  | t :: T, h => by
    show t.2 * worth u (normM t.1) + ev u (T.map fun t => (normM t.1, t.2)) = t.2 * worth u t.1 + ev u T
    rw [ev_norm u fun s hs => h s (List.mem_cons_of_mem _ hs), (normM_all fun p hp => ((h t List.mem_cons_self).1 p hp).1).2.1 u]
theorem rep_fits {ns : List Str} {d b : Nat} {A : Pol} {F : (Str → Int) → Rat} (c : Can mlt A.T A.d) (h : ∀ u, val u A = F u) (r : Rep ns d b F) : Fits ns A.T.length (b + 1) d A := by
  obtain ⟨T, e, hT, he, eb, nb, hF⟩ := r
  have hd := c.pos
  have nA := c.nodup mlt_ord
  have cross : ∀ u, ev u A.T * e = ev u T * A.d := fun u => (rat_cross hd he).mp ((h u).trans (hF u))
  have key : ∀ m, co m A.T * e = co m (T.map fun t => (normM t.1, t.2)) * A.d := fun m => by
    have z := ev_none ((A.T ++ T.map fun t => (normM t.1, t.2)).flatMap fun t => t.1.map (·.1)) (T := A.T.map (fun t => (t.1, t.2 * e)) ++ (T.map fun t => (normM t.1, t.2)).map (fun t => (t.1, t.2 * -A.d))) (fun t ht => by
      have q : ∃ s ∈ A.T ++ T.map fun t => (normM t.1, t.2), s.1 = t.1 := by
        rcases List.mem_append.mp ht with k | k
        · obtain ⟨s, hs, rfl⟩ := List.mem_map.mp k
          exact ⟨s, List.mem_append_left _ hs, rfl⟩
        · obtain ⟨s, hs, rfl⟩ := List.mem_map.mp k
          exact ⟨s, List.mem_append_right _ hs, rfl⟩
      obtain ⟨s, hs, es⟩ := q
      rw [← es]
      refine ⟨?_, fun p hp => List.mem_flatMap.mpr ⟨s, hs, List.mem_map.mpr ⟨p, hp, rfl⟩⟩⟩
      rcases List.mem_append.mp hs with k | k
      · exact c.good s k
      · obtain ⟨t', ht', rfl⟩ := List.mem_map.mp k
        exact (normM_all fun p hp => ((hT t' ht').1 p hp).1).1) (fun u => by
      rw [ev_app, ev_scale, ev_scale, ev_norm u hT, cross u]
      grind) m
    rw [co_app, co_scale, co_scale] at z
    grind
  have each : ∀ t ∈ A.T, t.2 * e = co t.1 (T.map fun t => (normM t.1, t.2)) * A.d := fun t ht => by
    have := key t.1
    rwa [co_mem (c := t.2) nA ht] at this
  -- the denominator divides
  have dv : A.d ∣ e := by
    obtain ⟨g, hg⟩ : ∃ g : Nat, Int.gcd A.d e = g := ⟨_, rfl⟩
    have gp : 0 < g := by rw [← hg]; exact Int.gcd_pos_of_ne_zero_left e (by omega)
    obtain ⟨a, ea⟩ : (g : Int) ∣ A.d := hg ▸ Int.gcd_dvd_left ..
    obtain ⟨b', eb'⟩ : (g : Int) ∣ e := hg ▸ Int.gcd_dvd_right ..
    have ap : 0 < a := by
      rcases Int.lt_or_le 0 a with k | k
      · exact k
      · have := Int.mul_nonpos_of_nonneg_of_nonpos (a := (g : Int)) (b := a) (by omega) k
        omega
    have gab : Int.gcd a b' = 1 := by
      rw [ea, eb', Int.gcd_mul_left] at hg
      simp only [Int.natAbs_natCast] at hg
      exact Nat.eq_of_mul_eq_mul_left gp (by rw [hg, Nat.mul_one])
    have a1 : a = 1 := c.cop a ap ⟨g, by rw [ea, Int.mul_comm]⟩ fun t ht => by
      have q := each t ht
      rw [ea, eb'] at q
      have : (g : Int) * (t.2 * b') = g * (co t.1 (T.map fun t => (normM t.1, t.2)) * a) := by grind
      exact cross_dvd (g := 0) ap gab (Int.eq_of_mul_eq_mul_left (by omega) this)
    rw [a1, Int.mul_one] at ea
    rw [ea]
    exact ⟨b', eb'⟩
  have dle : A.d ≤ e := Int.le_of_dvd he dv
  have two : 2 ^ b < 2 ^ (b + 1) := Nat.pow_lt_pow_right (by decide) (by omega)
  refine ⟨c, Nat.le_refl _, fun t ht => ?_, by omega, fun t ht => ?_⟩
  · have q := each t ht
    have cn := co_n1 t.1 (T.map fun t => (normM t.1, t.2))
    rw [n1_norm] at cn
    have h1 : t.2.natAbs * e.natAbs = (co t.1 (T.map fun t => (normM t.1, t.2))).natAbs * A.d.natAbs := by rw [← Int.natAbs_mul, q, Int.natAbs_mul]
    have h2 : (co t.1 (T.map fun t => (normM t.1, t.2))).natAbs * A.d.natAbs ≤ n1 T * e.natAbs := Nat.mul_le_mul cn (by omega)
    have h3 : t.2.natAbs ≤ n1 T := Nat.le_of_mul_le_mul_right (by rw [h1]; exact h2) (by omega)
    omega
  · have q := each t ht
    have nz : co t.1 (T.map fun t => (normM t.1, t.2)) ≠ 0 := fun z => by
      rw [z, Int.zero_mul] at q
      rcases Int.mul_eq_zero.mp q with k | k
      · exact c.nz t ht k
      · omega
    have hm : t.1 ∈ (T.map fun t => (normM t.1, t.2)).map (·.1) := Classical.byContradiction fun z => nz (co_eq_none z)
    obtain ⟨s, hs, es⟩ := List.mem_map.mp hm
    obtain ⟨t', ht', rfl⟩ := List.mem_map.mp hs
    obtain ⟨h1, h2⟩ := hT t' ht'
    obtain ⟨_, _, g3, g4⟩ := normM_all fun p hp => (h1 p hp).1
    have es' : normM t'.1 = t.1 := es
    rw [← es']
    refine ⟨by rw [g3]; exact h2, fun p hp => ?_⟩
    obtain ⟨r, hr, er⟩ := g4 p hp
    rw [← er]
    exact (h1 r hr).2
/-! ### how values are made -/
section
variable {ns ns' : List Str} {d d' b b' : Nat} {F G : (Str → Int) → Rat}
theorem Rep.mono (r : Rep ns d b F) (h0 : ∀ x ∈ ns, x ∈ ns') (h1 : d ≤ d') (h2 : b ≤ b') : Rep ns' d' b' F := by
  obtain ⟨T, e, hT, he, eb, nb, hF⟩ := r
  have := Nat.pow_le_pow_right (n := 2) (by decide) h2
  exact ⟨T, e, fun t ht => ⟨fun p hp => ⟨((hT t ht).1 p hp).1, h0 _ ((hT t ht).1 p hp).2⟩, Nat.le_trans (hT t ht).2 h1⟩, he, Nat.le_trans eb this, Nat.le_trans nb this, hF⟩
theorem Rep.congr (r : Rep ns d b F) (h : ∀ u, G u = F u) : Rep ns d b G := by
  obtain ⟨T, e, hT, he, eb, nb, hF⟩ := r
  exact ⟨T, e, hT, he, eb, nb, fun u => (h u).trans (hF u)⟩
theorem rep_zero : Rep ns d b fun _ => 0 := ⟨[], 1, fun t h => (nomatch h), by decide, Nat.one_le_two_pow, Nat.zero_le _, fun u => by
  show (0 : Rat) = ((0 : Int) : Rat) / ((1 : Int) : Rat)
  rw [show ((0 : Int) : Rat) = 0 from rfl, show ((1 : Int) : Rat) = 1 from rfl]
  grind⟩
theorem rep_frac {c e : Int} (he : 0 < e) (hc : c.natAbs ≤ 2 ^ b) (hb : e.natAbs ≤ 2 ^ b) : Rep ns d b fun _ => (c : Rat) / ((e : Int) : Rat) := ⟨[([], c)], e, fun t h => by
  rw [List.mem_singleton.mp h]
  exact ⟨fun p h => (nomatch h), Nat.zero_le _⟩, he, hb, by show c.natAbs + 0 ≤ _; omega, fun u => by
  have : ev u [([], c)] = c := by show c * 1 + 0 = c; omega
  rw [this]⟩
theorem rep_lin {x : Str} {c : Int} (hx : x ∈ ns) (hc : 1 + c.natAbs ≤ 2 ^ b) (hd : 1 ≤ d) : Rep ns d b fun u => ((u x + c : Int) : Rat) := ⟨[([(x, 1)], 1), ([], c)], 1, fun t h => by
  rcases List.mem_cons.mp h with z | z
  · rw [z]
    exact ⟨fun p hp => by rw [List.mem_singleton.mp hp]; exact ⟨by show (0 : Int) ≤ 1; decide, hx⟩, hd⟩
  · rw [List.mem_singleton.mp z]
    exact ⟨fun p h => (nomatch h), Nat.zero_le _⟩, by decide, Nat.one_le_two_pow, by show 1 + (c.natAbs + 0) ≤ _; omega, fun u => by
  have : ev u [([(x, 1)], 1), ([], c)] = u x + c := by
    show 1 * (u x ^ 1 * 1) + (c * 1 + 0) = u x + c
    rw [Int.pow_succ, Int.pow_zero]
    omega
  rw [this]
  exact (rat_over1 (u x + c)).symm⟩
theorem rep_int {c : Int} (hc : c.natAbs ≤ 2 ^ b) : Rep ns d b fun _ => (c : Rat) := (rep_frac (e := 1) (by decide) hc Nat.one_le_two_pow).congr fun u => by
  exact (rat_over1 c).symm
theorem RepT.scale {T : List (Mo × Int)} (h : RepT ns d T) (c : Int) : RepT ns d (T.map fun t => (t.1, t.2 * c)) := fun t ht => by
  obtain ⟨s, hs, rfl⟩ := List.mem_map.mp ht
  exact h s hs
theorem rep_add (r : Rep ns d b F) (s : Rep ns d b' G) : Rep ns d (b + b' + 1) fun u => F u + G u := by
  obtain ⟨T, e, hT, he, eb, nb, hF⟩ := r
  obtain ⟨S, e', hS, he', eb', nb', hG⟩ := s
  have p1 : 2 ^ (b + b' + 1) = 2 * (2 ^ b * 2 ^ b') := by rw [Nat.pow_succ, Nat.pow_add]; omega
  refine ⟨(T.map fun t => (t.1, t.2 * e')) ++ S.map fun t => (t.1, t.2 * e), e * e', fun t ht => ?_, Int.mul_pos he he', ?_, ?_, fun u => ?_⟩
  · rcases List.mem_append.mp ht with z | z
    · exact hT.scale e' t z
    · exact hS.scale e t z
  · rw [Int.natAbs_mul, p1]
    have := Nat.mul_le_mul eb eb'
    omega
  · rw [n1_app, n1_scale, n1_scale, p1]
    have h1 := Nat.mul_le_mul nb eb'
    have h2 := Nat.mul_le_mul nb' eb
    rw [Nat.mul_comm (2 ^ b') (2 ^ b)] at h2
    omega
  · show F u + G u = _
    rw [hF u, hG u, ev_app, ev_scale, ev_scale, Rat.intCast_add, Rat.intCast_mul, Rat.intCast_mul, Rat.intCast_mul]
    have n1 := rat_ne he
    have n2 := rat_ne he'
    generalize (ev u T : Rat) = x1
    generalize (ev u S : Rat) = x2
    generalize (e : Rat) = x3 at *
    generalize (e' : Rat) = x4 at *
    grind
def mulT (S T : List (Mo × Int)) : List (Mo × Int) := S.flatMap fun s => T.map fun t => (s.1 ++ t.1, s.2 * t.2)
theorem ev_mulT (u : Str → Int) (S T : List (Mo × Int)) : ev u (mulT S T) = ev u S * ev u T := by
  have one : ∀ (s : Mo × Int) (T : List (Mo × Int)), ev u (T.map fun t => (s.1 ++ t.1, s.2 * t.2)) = s.2 * worth u s.1 * ev u T := by
    intro s T
    induction T with
    | nil => show (0 : Int) = _ * 0; omega
    | cons t T ih =>
      show s.2 * t.2 * worth u (s.1 ++ t.1) + ev u (T.map fun t => (s.1 ++ t.1, s.2 * t.2)) = s.2 * worth u s.1 * (t.2 * worth u t.1 + ev u T)
      rw [ih, worth_app]
      grind
  induction S with
  | nil => show (0 : Int) = 0 * ev u T; omega
  | cons s S ih =>
    show ev u ((T.map fun t => (s.1 ++ t.1, s.2 * t.2)) ++ mulT S T) = (s.2 * worth u s.1 + ev u S) * ev u T
    rw [ev_app, one, ih, Int.add_mul]
theorem n1_mulT (S T : List (Mo × Int)) : n1 (mulT S T) = n1 S * n1 T := by
  have one : ∀ (s : Mo × Int) (T : List (Mo × Int)), n1 (T.map fun t => (s.1 ++ t.1, s.2 * t.2)) = s.2.natAbs * n1 T := by
    intro s T
    induction T with
    | nil => rfl
    | cons t T ih =>
      show (s.2 * t.2).natAbs + n1 (T.map fun t => (s.1 ++ t.1, s.2 * t.2)) = s.2.natAbs * (t.2.natAbs + n1 T)
      rw [ih, Int.natAbs_mul, Nat.mul_add]
  induction S with
  | nil => show 0 = 0 * n1 T; omega
  | cons s S ih =>
    show n1 ((T.map fun t => (s.1 ++ t.1, s.2 * t.2)) ++ mulT S T) = (s.2.natAbs + n1 S) * n1 T
    rw [n1_app, one, ih, Nat.add_mul]
theorem rep_mul (r : Rep ns d b F) (s : Rep ns d' b' G) : Rep ns (d + d') (b + b') fun u => F u * G u := by
  obtain ⟨T, e, hT, he, eb, nb, hF⟩ := r
  obtain ⟨S, e', hS, he', eb', nb', hG⟩ := s
  refine ⟨mulT T S, e * e', fun t ht => ?_, Int.mul_pos he he', ?_, ?_, fun u => ?_⟩
  · obtain ⟨t1, h1, h2⟩ := List.mem_flatMap.mp ht
    obtain ⟨t2, h3, rfl⟩ := List.mem_map.mp h2
    obtain ⟨a1, a2⟩ := hT t1 h1
    obtain ⟨b1, b2⟩ := hS t2 h3
    refine ⟨fun p hp => ?_, ?_⟩
    · rcases List.mem_append.mp hp with z | z
      · exact a1 p z
      · exact b1 p z
    · show degM (t1.1 ++ t2.1) ≤ _
      rw [degM_app]
      omega
  · rw [Int.natAbs_mul, Nat.pow_add]
    exact Nat.mul_le_mul eb eb'
  · rw [n1_mulT, Nat.pow_add]
    exact Nat.mul_le_mul nb nb'
  · show F u * G u = _
    rw [hF u, hG u, ev_mulT, Rat.intCast_mul, Rat.intCast_mul]
    have n1 := rat_ne he
    have n2 := rat_ne he'
    generalize (ev u T : Rat) = x1
    generalize (ev u S : Rat) = x2
    generalize (e : Rat) = x3 at *
    generalize (e' : Rat) = x4 at *
    grind
theorem rep_neg (r : Rep ns d b F) : Rep ns d b fun u => - F u := by
  obtain ⟨T, e, hT, he, eb, nb, hF⟩ := r
  refine ⟨T.map fun t => (t.1, t.2 * -1), e, hT.scale _, he, eb, ?_, fun u => ?_⟩
  · rw [n1_scale, show (-1 : Int).natAbs = 1 from rfl]
    omega
  · show - F u = _
    rw [hF u, ev_scale, Rat.intCast_mul, show ((-1 : Int) : Rat) = -1 from rfl]
    generalize (ev u T : Rat) = x1
    generalize (e : Rat) = x3
    grind
theorem rep_sub (r : Rep ns d b F) (s : Rep ns d b' G) : Rep ns d (b + b' + 1) fun u => F u - G u := (rep_add r (rep_neg s)).congr fun u => by
  show F u - G u = F u + - G u
  exact Rat.sub_eq_add_neg ..
end
end Po
namespace Po
open PySem PySem.Spec L2 Lo
/-! ### a linear value in one name, or a number -/
def Lz (ns : List Str) (z : (Str → Int) → Int) : Prop := (∃ s, s ∈ ns ∧ ∃ c : Int, c.natAbs ≤ 15 ∧ ∀ u, z u = u s + c) ∨ ∃ c : Int, c.natAbs ≤ 15 ∧ ∀ u, z u = c
theorem lz_rep {ns : List Str} {z : (Str → Int) → Int} (h : Lz ns z) {k : Int} (hk : k.natAbs ≤ 10) : Rep ns 1 5 fun u => ((z u + k : Int) : Rat) := by
  rcases h with ⟨s, hs, c, hc, hz⟩ | ⟨c, hc, hz⟩
  · exact (rep_lin (c := c + k) hs (by omega) (Nat.le_refl _)).congr fun u => by rw [hz u, Int.add_assoc]
  · exact (rep_int (c := c + k) (by omega)).congr fun u => by rw [hz u]
theorem rep_ffall {ns : List Str} {z : (Str → Int) → Int} (h : Lz ns z) : ∀ n, n ≤ 8 → Rep ns n (5 * n) fun u => (ffall (z u + 1) n : Rat)
  | 0, _ => (rep_int (c := 1) (by decide))
  | n + 1, hn => (rep_mul (rep_ffall h n (by omega)) (lz_rep h (k := 1 - (n : Int)) (by omega))).congr fun u => by
    show ((ffall (z u + 1) n * (z u + 1 - (n : Int)) : Int) : Rat) = (ffall (z u + 1) n : Rat) * ((z u + (1 - (n : Int)) : Int) : Rat)
    rw [Rat.intCast_mul, show z u + 1 - (n : Int) = z u + (1 - (n : Int)) by omega]
theorem rep_pwS {ns : List Str} {z : (Str → Int) → Int} (h : Lz ns z) {m : Nat} (hm : m < 7) : ∀ n, n ≤ 7 → Rep ns n (43 * n) fun u => pwS m (z u) n
  | 0, _ => rep_zero
  | n + 1, hn => by
    have ih := rep_pwS h hm n (by omega)
    have s1 := st_small m hm n (by omega)
    have r1 : Rep ns 0 7 fun _ => (st m n : Rat) / (((n : Nat) : Int) + 1 : Int) := rep_frac (by omega) (Nat.le_of_lt s1) (by omega)
    have r2 := rep_add (ih.mono (ns' := ns) (fun x hx => hx) (Nat.le_succ n) (Nat.le_refl _)) ((rep_mul (rep_ffall h (n + 1) (by omega)) r1).mono (ns' := ns) (fun x hx => hx) (show n + 1 + 0 ≤ n + 1 by omega) (Nat.le_refl _))
    exact (r2.mono (fun x hx => hx) (Nat.le_refl _) (by omega)).congr fun u => rfl
/-! ### sums of powers -/
def psumI (m : Nat) : Nat → Int
  | 0 => 0
  | n + 1 => psumI m n + (n : Int) ^ m
theorem pwS_sum (m : Nat) : ∀ n : Nat, pwS m ((n : Int) - 1) (m + 1) = (psumI m n : Rat)
  | 0 => by
    show pwS m (((0 : Nat) : Int) - 1) (m + 1) = ((0 : Int) : Rat)
    rw [show ((0 : Nat) : Int) - 1 = -1 by omega, pwS_neg1]
    rfl
  | n + 1 => by
    have h := pwS_pow (m := m) (n := m + 1) (n : Int) (by omega)
    rw [pwS_sum m n] at h
    rw [show ((n + 1 : Nat) : Int) - 1 = (n : Int) by omega]
    show _ = ((psumI m n + (n : Int) ^ m : Int) : Rat)
    rw [Rat.intCast_add]
    generalize pwS m (n : Int) (m + 1) = a at *
    generalize (psumI m n : Rat) = b at *
    generalize (((n : Int) ^ m : Int) : Rat) = c at *
    grind
/-! ### the degree of a power sum -/
theorem hor_pad (z : Int) : ∀ (K : Nat) (G : Nat → Int), hor z K G = hor z (K + 1) fun k => if k < K then G k else 0
  | 0, G => by
    show (0 : Int) = (if 0 < 0 then G 0 else 0) + z * 0
    rw [if_neg (by omega)]
    omega
  | K + 1, G => by
    show G 0 + z * hor z K (fun k => G (k + 1)) = (if 0 < K + 1 then G 0 else 0) + z * hor z (K + 1) (fun k => if k + 1 < K + 1 then G (k + 1) else 0)
    rw [hor_pad z K, if_pos (by omega)]
    simp only [Nat.add_lt_add_iff_right]
theorem hor_diff : ∀ (K : Nat) (F : Nat → Int), ∃ G : Nat → Int, ∀ z, hor z (K + 1) F - hor (z - 1) (K + 1) F = hor z K G
  | 0, F => ⟨fun _ => 0, fun z => by
    show F 0 + z * 0 - (F 0 + (z - 1) * 0) = 0
    omega⟩
  | K + 1, F => by
    obtain ⟨G, hG⟩ := hor_diff K fun k => F (k + 1)
    refine ⟨fun k => (match k with | 0 => 0 | j + 1 => G j) + (F (k + 1) + (if k < K then G k else 0) * -1), fun z => ?_⟩
    rw [hor_add, hor_add, hor_scale, ← hor_pad]
    have h := hG z
    have e1 : hor z (K + 1) (fun k => match k with | 0 => 0 | j + 1 => G j) = z * hor z K G := by
      show (0 : Int) + z * hor z K (fun k => G k) = _
      rw [Int.zero_add]
    rw [e1]
    show F 0 + z * hor z (K + 1) (fun k => F (k + 1)) - (F 0 + (z - 1) * hor (z - 1) (K + 1) (fun k => F (k + 1))) = _
    generalize hor z (K + 1) (fun k => F (k + 1)) = a at *
    generalize hor (z - 1) (K + 1) (fun k => F (k + 1)) = b at *
    generalize hor z K G = c at *
    grind
theorem ev_at {u : Str → Int} {x : Str} {B : Int} {K : Nat} {T : List (Mo × Int)} (h : ∀ t ∈ T, Good t.1 ∧ expo x t.1 < K) : ev (with_ u x B) T = hor B K fun k => ev u (part x k T) := by
  have e1 := ev_part (with_ u x B) x K h
  rw [with_same] at e1
  rw [e1]
  congr 1
  funext k
  exact ev_with part_no
theorem pw_deg {A : Pol} {x : Str} {m : Nat} (c : Can mlt A.T A.d) (h : ∀ u, val u A = pwS m (u x) (m + 1)) : m + 1 ≤ degOf x A.T := by
  refine Classical.byContradiction fun hn => ?_
  have hd := c.pos
  have low : ∀ t ∈ A.T, Good t.1 ∧ expo x t.1 < ((m + 1 : Nat) : Int) := fun t ht => ⟨c.good t ht, by have := le_degOf (x := x) ht; omega⟩
  have hv : ∀ B : Int, ((hor B (m + 1) (fun k => ev (fun _ => 0) (part x k A.T)) : Int) : Rat) / ((A.d : Int) : Rat) = pwS m B (m + 1) := fun B => by
    have := h (with_ (fun _ => 0) x B)
    rw [with_same] at this
    rw [← this, ← ev_at low]
    rfl
  generalize (fun k : Nat => ev (fun _ => 0) (part x (k : Int) A.T)) = F at hv
  obtain ⟨G, hG⟩ := hor_diff m F
  have hpow : ∀ B : Int, hor B m G = B ^ m * A.d := fun B => by
    have h1 := pwS_pow (m := m) (n := m + 1) B (by omega)
    rw [← hv, ← hv] at h1
    have nd := rat_ne hd
    have h2 : ((hor B (m + 1) F - hor (B - 1) (m + 1) F : Int) : Rat) = ((B ^ m * A.d : Int) : Rat) := by
      rw [Rat.intCast_sub, Rat.intCast_mul, ← h1]
      generalize ((hor B (m + 1) F : Int) : Rat) = a at *
      generalize ((hor (B - 1) (m + 1) F : Int) : Rat) = b at *
      generalize (A.d : Rat) = e at *
      grind
    rw [← hG B]
    exact Rat.intCast_inj.mp h2
  have z := hor_none (m + 1) (fun k => (if k = m then A.d else 0) + (if k < m then G k else 0) * -1) (fun B _ => by
    rw [hor_add, hor_scale, ← hor_pad, hor_one B A.d (m + 1) m (by omega), hpow B]
    omega) m (by omega)
  rw [if_pos rfl, if_neg (by omega)] at z
  omega
/-! ### putting a value in the place of a name -/
theorem cf_with {u : Str → Int} {x y : Str} {B : Int} {A : Pol} {k : Nat} (h : ∀ t ∈ A.T, ∀ p ∈ t.1, p.1 ≠ x → p.1 ≠ y) : cf (with_ u y B) x A k = cf u x A k := by
  unfold cf
  rw [ev_with fun s hs p hp => ?_]
  obtain ⟨t, ht, _, rfl⟩ := mem_part hs
  obtain ⟨h1, h2⟩ := mem_lo.mp hp
  exact h t ht p h1 h2
theorem val_put (u : Str → Int) (x : Str) (z : Int) {A : Pol} (good : ∀ t ∈ A.T, Good t.1) : horR (z : Rat) (degOf x A.T + 1) (cf u x A) = val (with_ u x z) A := by
  rw [val_cf (with_ u x z) x good, with_same]
  refine (horR_congr fun k _ => ?_).symm
  exact cf_with fun t _ p _ h => h
/-! ### summed -/
def powR (B : Rat) : Nat → Rat
  | 0 => 1
  | k + 1 => powR B k * B
def psum (B : Rat) (F : Nat → Rat) : Nat → Rat
  | 0 => 0
  | j + 1 => psum B F j + F j * powR B j
theorem powR_succ (B : Rat) : ∀ k, powR B (k + 1) = B * powR B k
  | 0 => by show 1 * B = B * 1; grind
  | k + 1 => by
    show powR B (k + 1) * B = B * (powR B k * B)
    rw [powR_succ B k]
    grind
theorem psum_succ (B : Rat) (F : Nat → Rat) : ∀ K, psum B F (K + 1) = F 0 + B * psum B (fun k => F (k + 1)) K
  | 0 => by show 0 + F 0 * 1 = F 0 + B * 0; grind
  | K + 1 => by
    show psum B F (K + 1) + F (K + 1) * powR B (K + 1) = F 0 + B * (psum B (fun k => F (k + 1)) K + F (K + 1) * powR B K)
    rw [psum_succ B F K, powR_succ]
    grind
theorem horR_psum (B : Rat) : ∀ (K : Nat) (F : Nat → Rat), horR B K F = psum B F K
  | 0, _ => rfl
  | K + 1, F => by
    rw [psum_succ]
    show F 0 + B * horR B K (fun k => F (k + 1)) = _
    rw [horR_psum B K]
def psS (F : Nat → Rat) : Nat → Rat
  | 0 => 0
  | k + 1 => psS F k + F k
def SS (u : Str → Int) (x : Str) (A : Pol) (a b : Int) (K : Nat) : Rat := psS (fun k => cf u x A k * (pwS k b (k + 1) - pwS k a (k + 1))) K
theorem powR_int (z : Int) : ∀ k, ((z ^ k : Int) : Rat) = powR (z : Rat) k
  | 0 => by rw [Int.pow_zero]; rfl
  | k + 1 => by
    rw [Int.pow_succ, Rat.intCast_mul, powR_int z k]
    rfl
theorem SS_high (u : Str → Int) (x : Str) (A : Pol) (a b : Int) : ∀ K, SS u x A a b K - SS u x A a (b - 1) K = horR (b : Rat) K (cf u x A) := fun K => by
  rw [horR_psum]
  induction K with
  | zero => show (0 : Rat) - 0 = 0; exact Rat.sub_self
  | succ K ih =>
    have h := pwS_pow (m := K) (n := K + 1) b (by omega)
    rw [powR_int] at h
    unfold SS at ih ⊢
    show psS _ K + cf u x A K * (pwS K b (K + 1) - pwS K a (K + 1)) - (psS _ K + cf u x A K * (pwS K (b - 1) (K + 1) - pwS K a (K + 1))) = psum (b : Rat) (cf u x A) K + cf u x A K * powR (b : Rat) K
    rw [← ih, ← h]
    generalize psS (fun k => cf u x A k * (pwS k b (k + 1) - pwS k a (k + 1))) K = s1
    generalize psS (fun k => cf u x A k * (pwS k (b - 1) (k + 1) - pwS k a (k + 1))) K = s2
    generalize pwS K b (K + 1) = s3
    generalize pwS K a (K + 1) = s4
    generalize pwS K (b - 1) (K + 1) = s5
    generalize cf u x A K = s6
    grind
theorem SS_neg (u : Str → Int) (x : Str) (A : Pol) (a b : Int) : ∀ K, SS u x A a b K = - SS u x A b a K := fun K => by
  induction K with
  | zero => rfl
  | succ K ih =>
    unfold SS at ih ⊢
    show psS _ K + cf u x A K * (pwS K b (K + 1) - pwS K a (K + 1)) = - (psS _ K + cf u x A K * (pwS K a (K + 1) - pwS K b (K + 1)))
    rw [ih]
    generalize psS (fun k => cf u x A k * (pwS k a (k + 1) - pwS k b (k + 1))) K = s2
    generalize pwS K b (K + 1) = s3
    generalize pwS K a (K + 1) = s4
    generalize cf u x A K = s6
    grind
theorem SS_low (u : Str → Int) (x : Str) (A : Pol) (a b : Int) (K : Nat) : SS u x A (a - 1) b K - SS u x A a b K = horR (a : Rat) K (cf u x A) := by
  rw [SS_neg u x A (a - 1), SS_neg u x A a, ← SS_high u x A b a]
  generalize SS u x A b (a - 1) K = s1
  generalize SS u x A b a K = s2
  grind
theorem SS_same (u : Str → Int) (x : Str) (A : Pol) (a : Int) : ∀ K, SS u x A a a K = 0 := fun K => by
  have := SS_neg u x A a a K
  generalize SS u x A a a K = s at *
  grind
theorem SS_with {u : Str → Int} {x y : Str} {B : Int} {A : Pol} {a b : Int} (h : ∀ t ∈ A.T, ∀ p ∈ t.1, p.1 ≠ x → p.1 ≠ y) : ∀ K, SS (with_ u y B) x A a b K = SS u x A a b K := fun K => by
  unfold SS
  congr 1
  funext k
  rw [cf_with h]
theorem degM_split {x : Str} : ∀ {m : Mo}, Good m → degM m = (expo x m).toNat + degM (lo x m)
  | [], _ => rfl
  | p :: m, g => by
    have ih := degM_split (x := x) g.tail
    by_cases c : p.1 = x
    · have e1 : expo x (p :: m) = p.2 := by unfold expo; rw [if_pos c]
      have e2 : lo x (p :: m) = m := by
        have : lo x (p :: m) = lo x m := by
          unfold lo
          rw [List.filter_cons, if_neg (by simpa using c)]
        rw [this]
        exact lo_none fun q hq => by rw [← c]; exact head_not g q hq
      rw [e1, e2]
      rfl
    · have e1 : expo x (p :: m) = expo x m := by conv => lhs; unfold expo; rw [if_neg c]
      have e2 : lo x (p :: m) = p :: lo x m := by
        unfold lo
        rw [List.filter_cons, if_pos (by simpa using c)]
      rw [e1, e2]
      show p.2.toNat + degM m = _ + (p.2.toNat + degM (lo x m))
      omega
theorem n1_le {N : Nat} : ∀ {T : List (Mo × Int)}, (∀ t ∈ T, t.2.natAbs ≤ N) → n1 T ≤ T.length * N
  | [], _ => Nat.zero_le _
  | t :: T, h => by
    have h1 := h t List.mem_cons_self
    have h2 := n1_le fun s hs => h s (List.mem_cons_of_mem _ hs)
    show t.2.natAbs + n1 T ≤ (T.length + 1) * N
    rw [Nat.add_mul]
    omega
theorem rep_cf {x y : Str} {A : Pol} (f : Fits [x, y] 4 9 4 A) (k : Nat) : Rep [y] (4 - k) 11 fun u => cf u x A k := by
  refine ⟨part x (k : Int) A.T, A.d, fun s hs => ?_, f.can.pos, ?_, ?_, fun u => rfl⟩
  · obtain ⟨t, ht, hk, rfl⟩ := mem_part hs
    have g := f.can.good t ht
    refine ⟨fun p hp => ?_, ?_⟩
    · obtain ⟨h1, h2⟩ := mem_lo.mp hp
      refine ⟨Int.le_trans (by decide) (g.pos p h1), ?_⟩
      rcases List.mem_cons.mp ((f.mon t ht).2 p h1) with z | z
      · exact absurd z h2
      · exact z
    · have := degM_split (x := x) g
      have := (f.mon t ht).1
      show degM (lo x t.1) ≤ 4 - k
      omega
  · exact Nat.le_trans (Nat.le_of_lt f.den) (by decide)
  · refine Nat.le_trans (n1_le (N := 2 ^ 9) fun s hs => ?_) ?_
    · obtain ⟨t, ht, hk, rfl⟩ := mem_part hs
      exact Nat.le_of_lt (f.cof t ht)
    · have := Nat.le_trans (len_part x (k : Int) A.T) f.len
      exact Nat.le_trans (Nat.mul_le_mul_right _ this) (by decide)
theorem rep_SS {x y n : Str} {A : Pol} (f : Fits [x, y] 4 9 4 A) {a b : (Str → Int) → Int} (ha : Lz [y, n] a) (hb : Lz [y, n] b) : ∀ K, K ≤ 3 → Rep [y, n] 5 (271 * K) fun u => SS u x A (a u) (b u) K
  | 0, _ => rep_zero
  | K + 1, hK => by
    have ih := rep_SS f ha hb K (by omega)
    have p1 := rep_pwS hb (m := K) (by omega) (K + 1) (by omega)
    have p2 := rep_pwS ha (m := K) (by omega) (K + 1) (by omega)
    have r1 := rep_mul ((rep_cf f K).mono (ns' := [y, n]) (fun z hz => by rw [List.mem_singleton.mp hz]; exact List.mem_cons_self) (Nat.le_refl _) (Nat.le_refl _)) (rep_sub p1 p2)
    exact ((rep_add ih (r1.mono (ns' := [y, n]) (fun z hz => hz) (show 4 - K + (K + 1) ≤ 5 by omega) (Nat.le_refl _))).mono (fun z hz => hz) (Nat.le_refl _) (by omega)).congr fun u => rfl
theorem Fits.names {ns ns' : List Str} {n b D : Nat} {A : Pol} (f : Fits ns n b D A) (h : ∀ x ∈ ns, x ∈ ns') : Fits ns' n b D A := { f with mon := fun t ht => ⟨(f.mon t ht).1, fun p hp => h _ ((f.mon t ht).2 p hp)⟩ }
/-- the smaller numbers of a sum -/
theorem fits_SS {x y n : Str} {A R : Pol} (f : Fits [x, y] 4 9 4 A) {a b : (Str → Int) → Int} (ha : Lz [y, n] a) (hb : Lz [y, n] b) {K : Nat} (hK : K ≤ 3) (c : Can mlt R.T R.d) (h : ∀ u, val u R = SS u x A (a u) (b u) K) : Fits [y, n] 36 814 5 R := by
  have r := (rep_fits c h (rep_SS f ha hb K hK)).mono (Nat.le_refl _) (show 271 * K + 1 ≤ 814 by omega) (Nat.le_refl 5)
  exact { r with len := r.len2 }
theorem fits_pow {x : Str} {R : Pol} {m : Nat} (hm : m < 7) (c : Can mlt R.T R.d) (h : ∀ u, val u R = pwS m (u x) (m + 1)) : Fits [x] (m + 2) (43 * (m + 1) + 1) (m + 1) R := by
  have r := rep_fits c h ((rep_pwS (ns := [x]) (z := fun u => u x) (.inl ⟨x, List.mem_cons_self, 0, by decide, fun u => (Int.add_zero _).symm⟩) hm (m + 1) (by omega)))
  exact { r with len := r.len1 }
end Po
namespace Po
open PySem PySem.Spec L2 Lo PyProof.Rows
section
variable {P : Program} {w : World} {K : PySem.W.Frag} {mg : Str → Option Value} {base : Heap}
/-! ### summed -/
theorem subL_late {C : Addr} {H : Hp} {low : V} {ns : List Str} {zl : (Str → Int) → Int} {Q : VK} {E : XK} (hl : Late P w C H low ns 3 30 1 fun u => (zl u : Rat))
    (q : ∀ H' y, Same H H' → Late P w C H' y ns 4 45 1 (fun u => ((zl u - 1 : Int) : Rat)) → Q y H') : rSubL C (spLin P w C fun a b => a - b) E low (.int 1) H Q := by
  have one : ∀ H' : Hp, Late P w C H' (.int 1) ns 1 2 1 fun _ => ((1 : Int) : Rat) := fun H' => .inr ⟨1, rfl, by decide, by decide, by decide, by decide, fun _ => rfl⟩
  rcases hl with ⟨p, B, rfl, hB, fB, vB⟩ | ⟨i, rfl, hi, _, _, _, vi⟩
  · refine .inl (rPO_of hB (one H) ⟨p, .int 1, B, ns, 3, 30, 1, 2, 1, _, rfl, hB, fB, one H, by decide, by decide, by decide, by decide, fun H' r R s fr hR fR vR => ⟨r, rfl, q H' (.ref r) s (.inl ⟨r, R, rfl, hR, fR, fun u => ?_⟩)⟩⟩)
    rw [vR u, vB u]
    exact (Rat.intCast_sub (zl u) 1).symm
  · refine .inr ⟨i, 1, rfl, rfl, q H _ (Same.refl _) (.inr ⟨i - 1, rfl, ?_, by decide, by decide, by decide, fun u => ?_⟩)⟩
    · have : (2 : Nat) ^ 45 = 2 ^ 30 * 2 ^ 15 := by decide
      have : i.natAbs < 2 ^ 30 := hi
      omega
    · have e : zl u = i := Rat.intCast_inj.mp (vi u)
      show ((zl u - 1 : Int) : Rat) = _
      rw [e]
def spSummed (P : Program) (w : World) (C : Addr) : Sp := fun vs H Q _ => ∃ (p : Addr) (low high : V) (A : Pol) (x y n : Str) (zl zh : (Str → Int) → Int), vs = [.ref p, .str x, low, high] ∧ PolyAt P w C H p A ∧ Fits [x, y] 4 9 4 A ∧ (∀ t ∈ A.T, expo x t.1 ≤ 2) ∧ x ≠ "0" ∧
  Late P w C H low [x, y, n] 3 30 1 (fun u => (zl u : Rat)) ∧ Late P w C H high [x, y, n] 3 30 1 (fun u => (zh u : Rat)) ∧ Lz [y, n] (fun u => zl u - 1) ∧ Lz [y, n] zh ∧
  ∀ H' r R, Same H H' → PolyAt P w C H' r R → Fits [y, n] 36 814 5 R → (∀ u, val u R = SS u x A (zl u - 1) (zh u) (degOf x A.T + 1)) → Q (.ref r) H'
theorem ok_summed {C fI a ra sa rs m rm fP gDe gCo gPu gB f : Addr} {fd fdI fdP dDe dCo dPu : FuncData} (F : Fun K "summed" "summed" sSummed f fd) (T : Blt mg) (X : PTxt K mg C fI) (O : POps P w K mg base C a ra sa rs m rm)
    (GI : FnOk P w K mg base CX0 1 fI fdI ["self", "terms", "below"] (spPInit P w C)) (bI : Binds K fdI ["self", "terms", "below"] [])
    (mP : mg "power_sum" = some (.ref fP)) (kP : PySem.W.keepIn K (.ref fP) = true) (bP : Binds K fdP ["many", "name"] []) (GP : FnOk P w K mg base CX0 6 fP fdP ["many", "name"] (spPow P w C))
    (b1 : PySem.W.findIn K (.ref C) "__bool__" = some (some (.ref gB))) (b2 : PySem.W.isFn K (.ref gB) = true) (b3 : FnR P w K mg base CX0 1 gB (spPBool P w C))
    (mD : Meth K C "degree" gDe) (bD : Binds K dDe ["self", "name"] []) (GD : FnOk P w K mg base CX0 2 gDe dDe ["self", "name"] (spDeg P w C))
    (mC : Meth K C "coefficient" gCo) (bC : Binds K dCo ["self", "name", "many"] []) (GC : FnOk P w K mg base CX0 3 gCo dCo ["self", "name", "many"] (spCoef P w C))
    (mU : Meth K C "put" gPu) (bU : Binds K dPu ["self", "name", "other"] []) (GU : FnOk P w K mg base CX0 6 gPu dPu ["self", "name", "other"] (spPut P w C)) : FnOk P w K mg base CX0 7 f fd ["poly", "name", "low", "high"] (spSummed P w C) := by
  refine F.ok scSummed (fun vs H Q E h => ?_) (fun cdv Ar outer s H vs Q E hr h => ?_)
  · obtain ⟨p, low, high, A, x, y, n, zl, zh, rfl, _⟩ := h
    rfl
  · obtain ⟨p, low, high, A, x, y, n, zl, zh, rfl, hA, fA, e2, x0, hl, hh, zl1, zh1, qq⟩ := h
    have nd := scSummed.nd
    have r5 := hr.mono (show 5 ≤ 6 by decide)
    have r3 := hr.mono (show 3 ≤ 6 by decide)
    have r2 := hr.mono (show 2 ≤ 6 by decide)
    have r1 := hr.mono (show 1 ≤ 6 by decide)
    refine ⟨_, pss_cons (ps_set (i := 4) nd rfl (.inl rfl) (pe_make X.make GI r2 (by rfl) X.mg bI .nil pass0 (pa_cons (pe_nnewP (P := P) (w := w) rfl rfl) (pa_cons pe_int pa_nil))))
      (pss_cons (ps_for PassesOwn.never rfl (pi_range1 (by rfl) T.range (pa_cons (pe_op op_add (pe_meth (pv 0) X.cl mD GD r2 bD .nil pass0 (pa_cons (pv 1) pa_nil)) pe_int) pa_nil)) (pg_name (i := 5) nd rfl (.inl rfl))
        (pss_cons (ps_set (i := 6) nd rfl (.inl rfl) (pe_meth (pv 0) X.cl mC GC r3 bC .nil pass0 (pa_cons (pv 1) (pa_cons (pv 5) pa_nil))))
        (pss_one (ps_if (pt_own b1 b2 b3 r1 pass0 (pv 6))
          (pss_cons (ps_set (i := 7) nd rfl (.inl rfl) (pe_call GP hr (by rfl) mP kP bP .nil pass0 (pa_cons (pv 5) (pa_cons (pv 1) pa_nil))))
          (pss_one (ps_set (i := 4) nd rfl (.inl rfl) (pe_op (op_poly rfl is_add O.cA O.gA r5 pass0) (pv 4) (pe_op (op_poly rfl is_mul O.cM O.gM r5 pass0) (pv 6) (pe_op (op_poly rfl is_sub O.cS O.gS r5 pass0)
            (pe_meth (pv 7) X.cl mU GU hr bU .nil pass0 (pa_cons (pv 1) (pa_cons (pv 3) pa_nil)))
            (pe_meth (pv 7) X.cl mU GU hr bU .nil pass0 (pa_cons (pv 1) (pa_cons (pe_op (op_subL O.cS O.gS r5 pass0) (pv 2) pe_int) pa_nil)))))))))
          pss_nil))))
      (pss_one (ps_ret (pv 4)))), ?_⟩
    obtain ⟨dp, tp, hp, _⟩ := id hA
    have hdeg : degOf x A.T ≤ 2 := degOf_le fun t ht => e2 t ht
    -- Poly({}, 1)
    intro t ht
    have s0 := same_upd (o := NdO P w t []) ht
    have n0 : NDW P w (upd H t (NdO P w t [])) t [] := ⟨[], upd_same, (fun e h => nomatch h), rfl⟩
    refine make_polyA (d := 1) (b := 2) n0 List.nodup_nil (fun s h => nomatch h) (by decide) (by decide) (by decide) (by decide) (Nat.zero_le _) fun H1 r0 R0 s1 fr0 hR0 hN0 => ?_
    have s01 := s0.trans s1
    have f0 : Fits [y, n] 0 2 0 R0 := hN0.fits (Nat.zero_le _) (fun s h => nomatch h) (by decide) (by decide) (fun s h => nomatch h)
    have v0 : ∀ u, val u R0 = 0 := fun u => by
      rw [hN0.val (by decide) u]
      show ((0 : Int) : Rat) / ((1 : Int) : Rat) = 0
      rw [show ((0 : Int) : Rat) = 0 from rfl, show ((1 : Int) : Rat) = 1 from rfl]
      grind
    -- the degree
    refine ⟨.ref p, rfl, p, dp, _, rfl, s01 _ _ hp, pflds_no _ _ (by decide +kernel) (by decide +kernel), .str x, rfl, p, A, x, rfl, hA.same s01, by have := fA.len; omega, fA.can.good, fun H2 s2 => ?_⟩
    have s02 := s01.trans s2
    generalize hdd : degOf x A.T = dg at *
    refine ⟨_, _, rfl, rfl, _, rfl, ?_, ?_, ?_⟩
    · show -(2 ^ 62) ≤ ((dg : Nat) : Int) + 1
      omega
    · show ((dg : Nat) : Int) + 1 < 2 ^ 62
      omega
    have edg : (((dg : Nat) : Int) + 1).toNat = dg + 1 := by omega
    show ∃ W, _
    rw [edg]
    refine for_range (lo := 0) (fun i σ H' => ∃ r R y5 y6 y7, σ = [some (.ref p), some (.str x), some low, some high, some (.ref r), y5, y6, y7] ∧ Same H H' ∧ PolyAt P w C H' r R ∧ Fits [y, n] 36 814 5 R ∧ ∀ u, val u R = SS u x A (zl u - 1) (zh u) i)
      ⟨r0, R0, none, none, none, rfl, s02, hR0.same s2, f0.mono (by decide) (by decide) (by decide), v0⟩ ?_ ?_
    · rintro i σ H3 hi ⟨r, R, y5, y6, y7, rfl, s3, hR, fR, vR⟩
      rw [show (0 : Int) + (i : Nat) = (i : Nat) from Int.zero_add _]
      have hi2 : i ≤ 2 := by omega
      refine ⟨.ref p, rfl, p, dp, _, rfl, s3 _ _ hp, pflds_no _ _ (by decide +kernel) (by decide +kernel), .str x, rfl, _, rfl, p, A, x, ((i : Nat) : Int), [x, y], 4, 9, 4, rfl, hA.same s3, fA, by decide, by decide, by decide, by decide, fun H4 rc Rc s4 frc hRc fRc vRc noX none => ?_⟩
      have vRc' : ∀ u, val u Rc = cf u x A i := vRc
      obtain ⟨dxc, tpc, hpc, _⟩ := id hRc
      refine ⟨.ref rc, rfl, rc, dxc, _, rfl, hpc, rc, Rc, rfl, hRc, _, rfl, ?_⟩
      have s04 := s3.trans s4
      refine ite2 (fun _ => ?_) (fun z => ?_)
      · refine ⟨_, rfl, .str x, rfl, i, x, rfl, by omega, x0, fun H5 rd Rd s5 frd hRd fRd0 vRd => ?_⟩
        have ns3 : ∀ z ∈ [x], z ∈ [x, y, n] := fun z hz => by rw [List.mem_singleton.mp hz]; exact List.mem_cons_self
        have ns2 : ∀ z ∈ [x, y], z ∈ [x, y, n] := fun z hz => by
          rcases List.mem_cons.mp hz with e | e
          · rw [e]; exact List.mem_cons_self
          · rw [List.mem_singleton.mp e]; exact List.mem_cons_of_mem _ List.mem_cons_self
        have fRd := ((fits_pow (by omega) fRd0.can vRd).mono (show i + 2 ≤ 4 by omega) (show 43 * (i + 1) + 1 ≤ 130 by omega) (show i + 1 ≤ 3 by omega)).names ns3
        have hx3 : ∀ t ∈ Rd.T, expo x t.1 ≤ ((3 : Nat) : Int) := fun t ht => by
          have h1 := expo_deg (x := x) (fRd.can.good t ht)
          have h2 := (fRd.mon t ht).1
          omega
        have vput : ∀ (u : Str → Int) (z : Int), horR (z : Rat) (degOf x Rd.T + 1) (cf u x Rd) = pwS i z (i + 1) := fun u z => by
          rw [val_put u x z fRd.can.good, vRd, with_same]
        obtain ⟨dxd, tpd, hpd, _⟩ := id hRd
        have s05 := s04.trans s5
        -- high
        refine ⟨.ref r, rfl, .ref rc, rfl, .ref rd, rfl, rd, dxd, _, rfl, hpd, pflds_no _ _ (by decide +kernel) (by decide +kernel), .str x, rfl, high, rfl, rd, high, Rd, x, [x, y, n], 4, 130, 3, 3, 30, 1, 3, _, rfl, hRd, fRd, hh.same s05, hx3, by decide, by decide, by decide, by decide, by decide, by decide, by decide, fun H6 p1 P1 s6 fr1 hP1 fP1 vP1 => ?_⟩
        -- low - 1
        refine ⟨.ref rd, rfl, rd, dxd, _, rfl, s6 _ _ hpd, pflds_no _ _ (by decide +kernel) (by decide +kernel), .str x, rfl, low, rfl, subL_late (hl.same (s05.trans s6)) fun H7 lw s7 hlw => ?_⟩
        have s67 := s6.trans s7
        refine ⟨rd, lw, Rd, x, [x, y, n], 4, 130, 3, 4, 45, 1, 3, _, rfl, hRd.same s67, fRd, hlw, hx3, by decide, by decide, by decide, by decide, by decide, by decide, by decide, fun H8 p2 P2 s8 fr2 hP2 fP2 vP2 => ?_⟩
        have hP18 := hP1.same (s7.trans s8)
        refine rPO_of hP18 (Late.poly hP2 fP2) ⟨p1, .ref p2, P1, [x, y, n], _, _, _, _, _, _, rfl, hP18, fP1, Late.poly hP2 fP2, by decide, by decide, by decide, by decide, fun H9 q1 Q1 s9 frq hQ1 fQ1 vQ1 => ⟨q1, rfl, ?_⟩⟩
        have s49 := s5.trans (s67.trans (s8.trans s9))
        have hRc9 := hRc.same s49
        refine rPO_of hRc9 (Late.poly hQ1 fQ1) ⟨rc, .ref q1, Rc, [x, y, n], 4, 9, 4, _, _, _, _, rfl, hRc9, fRc.names ns2, Late.poly hQ1 fQ1, (fun q e => by cases e; exact (frq.apart s9 (hRc.same (s5.trans (s67.trans s8)))).symm), by decide, by decide, by decide, fun Ha q2 Q2 sa frm hQ2 fQ2 vQ2 => ⟨q2, rfl, ?_⟩⟩
        have s3a := s4.trans (s49.trans sa)
        have hRa := hR.same s3a
        have fR' := (fR.names (ns' := [x, y, n]) (fun z hz => List.mem_cons_of_mem _ hz)).mono (Nat.le_refl _) (Nat.le_refl _) (show 5 ≤ 20 by decide)
        have fQ2' : Fits [x, y, n] 2000 1587 20 Q2 := fQ2.mono (by decide) (by decide) (by decide)
        refine rPO_of hRa (Late.poly hQ2 fQ2') ⟨r, .ref q2, R, [x, y, n], 36, 814, 2000, 1587, 20, _, rfl, hRa, fR', Late.poly hQ2 fQ2', by decide, by decide, by decide, by decide, fun Hb r2 R2 sb _ hR2 fR2 vR2 => ⟨r2, rfl, ?_⟩⟩
        have vN : ∀ u, val u R2 = SS u x A (zl u - 1) (zh u) (i + 1) := fun u => by
          rw [vR2 u, vQ2 u, vQ1 u, vP1 u, vP2 u, vput, vput, vR u, vRc' u]
          rfl
        exact ⟨r2, R2, _, _, _, rfl, s3.trans (s3a.trans sb), hR2, fits_SS fA zl1 zh1 (show i + 1 ≤ 3 by omega) fR2.can vN, vN⟩
      · have z0 : Rc.T = [] := by
          cases hc : Rc.T with
          | nil => rfl
          | cons t l => rw [hc] at z; simp at z
        have c0 : ∀ u, cf u x A i = 0 := fun u => by
          rw [← vRc' u]
          unfold val
          rw [z0]
          show ((0 : Int) : Rat) / _ = 0
          rw [show ((0 : Int) : Rat) = 0 from rfl]
          generalize ((Rc.d : Int) : Rat) = d
          grind
        refine ⟨r, R, _, _, _, rfl, s04, hR.same s4, fR, fun u => ?_⟩
        show val u R = SS u x A (zl u - 1) (zh u) i + cf u x A i * _
        rw [c0 u, vR u, Rat.zero_mul, Rat.add_zero]
    · rintro σ H3 ⟨r, R, y5, y6, y7, rfl, s3, hR, fR, vR⟩
      exact ⟨_, rfl, qq _ r R s3 hR fR vR⟩
end
end Po
set_option exponentiation.threshold 6000
set_option maxHeartbeats 8000000
namespace Po
open PySem PySem.Spec L2 Lo PyProof.Rows
abbrev sLaw : Stmt := top 21
theorem two_vals {x y : Str} (h : y ≠ x) (a b : V) : valV (mergeK [] [(Sum.inr x, a), (Sum.inr y, b)]) (Sum.inr x) = some a ∧ valV (mergeK [] [(Sum.inr x, a), (Sum.inr y, b)]) (Sum.inr y) = some b := by
  have h1 : ¬ ((Sum.inr x : L2.Key) = Sum.inr y) := fun z => h (Sum.inr.inj z).symm
  have h2 : ¬ ((Sum.inr y : L2.Key) = Sum.inr x) := fun z => h (Sum.inr.inj z)
  constructor <;> simp [mergeK, putK, valV, h1, h2]
theorem can_zero : Can mlt ([] : List (Mo × Int)) 1 := ⟨(fun t h => nomatch h), (fun t h => nomatch h), .nil, by decide, fun k h0 h1 _ => Int.le_antisymm (Int.le_of_dvd (by decide) h1) h0⟩
theorem zero_pol {R : Pol} (c : Can mlt R.T R.d) (h : ∀ u, val u R = 0) : R.T = [] := by
  have e : R = ⟨[], 1⟩ := pol_one c can_zero fun u => by
    rw [h u]
    show (0 : Rat) = ((0 : Int) : Rat) / ((1 : Int) : Rat)
    rw [show ((0 : Int) : Rat) = 0 from rfl, show ((1 : Int) : Rat) = 1 from rfl]
    grind
  rw [e]
theorem lit_bits {i : Int} {b : Nat} (h : i.natAbs < 2 ^ b) {c : Nat} (hc : b ≤ c) : i.natAbs < 2 ^ c := Nat.lt_of_lt_of_le h (Nat.pow_le_pow_right (by decide) hc)
/-! ### the drawn polynomial, smaller -/
theorem rep_ts {x y : Str} : ∀ {ts : List Tm}, ts.length ≤ 3 → (∀ t ∈ ts, TmOk [x, y] t) → Rep [x, y] 4 8 fun u => (tsVal u ts : Rat) / ((12 : Int) : Rat) := by
  intro ts hl ok
  have e : ∀ (u : Str → Int) (ts : List Tm), tsVal u ts = ev u (ts.map fun t => (t.m, t.a * (12 / t.b))) := by
    intro u ts
    induction ts with
    | nil => rfl
    | cons t ts ih =>
      show t.a * (12 / t.b) * worth u t.m + tsVal u ts = t.a * (12 / t.b) * worth u t.m + ev u (ts.map fun t => (t.m, t.a * (12 / t.b)))
      rw [ih]
  refine ⟨ts.map fun t => (t.m, t.a * (12 / t.b)), 12, fun s hs => ?_, by decide, by decide, ?_, fun u => ?_⟩
  · obtain ⟨t, ht, rfl⟩ := List.mem_map.mp hs
    have o := ok t ht
    refine ⟨fun p hp => ⟨(o.exp p hp).1, ?_⟩, o.deg (Nat.le_refl 2)⟩
    rw [← o.names]
    exact List.mem_map.mpr ⟨p, hp, rfl⟩
  · refine Nat.le_trans (n1_le (N := 72) fun s hs => ?_) ?_
    · obtain ⟨t, ht, rfl⟩ := List.mem_map.mp hs
      have o := ok t ht
      obtain ⟨_, h1, h2⟩ := o.twelve
      show (t.a * (12 / t.b)).natAbs ≤ 72
      rw [Int.natAbs_mul]
      have a1 : t.a.natAbs ≤ 6 := by have := o.a1; have := o.a6; omega
      have a2 : (12 / t.b).natAbs ≤ 12 := by omega
      exact Nat.mul_le_mul a1 a2
    · rw [List.length_map]
      exact Nat.le_trans (Nat.mul_le_mul_right _ hl) (by decide)
  · show (tsVal u ts : Rat) / ((12 : Int) : Rat) = _
    rw [e]
theorem add_back {a b h : Rat} (e : a - b = h) : b + h = a := by grind
theorem SS_sum {u : Str → Int} {x : Str} {A : Pol} {ts : List Tm} (good : ∀ t ∈ A.T, Good t.1) (v : ∀ u, val u A = (tsVal u ts : Rat) / ((12 : Int) : Rat)) (a : Int) : ∀ n : Nat, SS u x A (a - 1) (a + n - 1) (degOf x A.T + 1) = ((ssum (fun j => tsVal (with_ u x (a + (j : Nat))) ts) n : Int) : Rat) / ((12 : Int) : Rat)
  | 0 => by
    rw [show a + ((0 : Nat) : Int) - 1 = a - 1 by omega, SS_same]
    show (0 : Rat) = ((0 : Int) : Rat) / _
    rw [show ((0 : Int) : Rat) = 0 from rfl]
    generalize ((12 : Int) : Rat) = d
    grind
  | n + 1 => by
    have h := SS_high u x A (a - 1) (a + (n : Nat)) (degOf x A.T + 1)
    rw [SS_sum good v a n, val_put u x _ good, v] at h
    rw [show a + ((n + 1 : Nat) : Int) - 1 = a + (n : Nat) by omega, ← add_back h]
    show _ = ((ssum (fun j => tsVal (with_ u x (a + (j : Nat))) ts) n + tsVal (with_ u x (a + (n : Nat))) ts : Int) : Rat) / _
    rw [Rat.intCast_add]
    generalize ((ssum (fun j => tsVal (with_ u x (a + (j : Nat))) ts) n : Int) : Rat) = s1
    generalize (tsVal (with_ u x (a + (n : Nat))) ts : Rat) = s2
    generalize ((12 : Int) : Rat) = d
    grind
theorem of_late {P : Program} {w : World} {C p : Addr} {H : Hp} {A : Pol} {x : Str} {k : Int} {b : Nat} {ns : List Str} (h : PolyAt P w C H p A) (f : ∀ ns, x ∈ ns → Fits ns (if k = 0 then 1 else 2) b 1 A) (v : ∀ u, val u A = ((if x = "0" then k else u x + k : Int) : Rat)) (x0 : x ≠ "0") (hx : x ∈ ns) (hb : b ≤ 30) : Late P w C H (.ref p) ns 3 30 1 fun u => ((u x + k : Int) : Rat) := by
  refine .inl ⟨p, A, rfl, h, (f ns hx).mono ?_ hb (Nat.le_refl _), fun u => ?_⟩
  · split <;> decide
  · rw [v u, if_neg x0]
section
variable {P : Program} {w : World} {K : PySem.W.Frag} {mg : Str → Option Value} {base : Heap}
abbrev nLaw : List Str := ["script", "many", "whole", "power", "step", "worth", "total", "value", "part", "poly", "terms", "low", "high", "found", "start", "point", "above"]
theorem scLaw : FnScope nLaw ["script"] (defScope sLaw) := ⟨rfl, rfl, rfl, by decide +kernel, rfl, by decide +kernel, by decide +kernel⟩
def spLaw (K : PySem.W.Frag) : Sp := fun vs H Q _ => ∃ s : Addr, vs = [.ref s] ∧ Scr K H s ∧ ∀ H', Same H H' → Q (.bl true) H'
/-- a def of the module, as it is called -/
structure Fn0 (P : Program) (w : World) (K : PySem.W.Frag) (mg : Str → Option Value) (base : Heap) (nm : Str) (lv : Nat) (f : Addr) (fd : FuncData) (ps : List Str) (sp : Sp) : Prop where
  m : mg nm = some (.ref f)
  k : PySem.W.keepIn K (.ref f) = true
  b : Binds K fd ps []
  F : FnOk P w K mg base CX0 lv f fd ps sp
/-- a method of the class -/
structure Mt0 (P : Program) (w : World) (K : PySem.W.Frag) (mg : Str → Option Value) (base : Heap) (C : Addr) (nm : Str) (lv : Nat) (f : Addr) (fd : FuncData) (ps : List Str) (sp : Sp) : Prop where
  m : Meth K C nm f
  b : Binds K fd ps []
  F : FnOk P w K mg base CX0 lv f fd ps sp
structure LawAll (P : Program) (w : World) (K : PySem.W.Frag) (mg : Str → Option Value) (base : Heap) (C fP fV fE fS fW fU gB gCall gFr gDe gPu : Addr) (dP dV dE dS dW dU dFr dDe dPu : FuncData) : Prop where
  P_ : Fn0 P w K mg base "_law_poly" 6 fP dP ["script", "at", "names", "most"] (spLPoly P w K C)
  V_ : Fn0 P w K mg base "_law_value" 1 fV dV ["terms", "names", "point"] (spValue K)
  E_ : Fn0 P w K mg base "_law_equal" 1 fE dE ["pair", "above", "below"] spEqual
  S_ : Fn0 P w K mg base "_law_same" 1 fS dS ["one", "other"] (spSame P w C)
  W_ : Fn0 P w K mg base "power_sum" 6 fW dW ["many", "name"] (spPow P w C)
  U_ : Fn0 P w K mg base "summed" 7 fU dU ["poly", "name", "low", "high"] (spSummed P w C)
  b1 : PySem.W.findIn K (.ref C) "__bool__" = some (some (.ref gB))
  b2 : PySem.W.isFn K (.ref gB) = true
  b3 : FnR P w K mg base CX0 1 gB (spPBool P w C)
  c1 : StX.CallO K C gCall
  c2 : FnR P w K mg base CX0 3 gCall (spPCall P w C)
  fr : Mt0 P w K mg base C "fraction" 2 gFr dFr ["self", "point"] (spFrac P w C)
  de : Mt0 P w K mg base C "degree" 2 gDe dDe ["self", "name"] (spDeg P w C)
  pu : Mt0 P w K mg base C "put" 6 gPu dPu ["self", "name", "other"] (spPut P w C)
theorem ok_law {f C fI a ra sa rs m rm mpC gC mpO gO fD fP fV fE fS fW fU gB gCall gFr gDe gPu : Addr} {mc : Value} {fd fdD dP dV dE dS dW dU dFr dDe dPu : FuncData} (F : Fun K "law" "law" sLaw f fd) (T : Blt mg) (U : BltP mg) (X : PTxt K mg C fI) (Y : PCms K C mc mpC gC mpO gO) (O : POps P w K mg base C a ra sa rs m rm)
    (L : LawIn P w K mg base C gC gO fD fdD) (A : LawAll P w K mg base C fP fV fE fS fW fU gB gCall gFr gDe gPu dP dV dE dS dW dU dFr dDe dPu) : FnOk P w K mg base CX0 8 f fd ["script"] (spLaw K) := by
  refine F.ok scLaw (fun vs H Q E h => ?_) (fun cdv Ar outer s H vs Q E hr h => ?_)
  · obtain ⟨s0, rfl, _⟩ := h
    rfl
  · obtain ⟨s0, rfl, hs, qfin⟩ := h
    have nd := scLaw.nd
    have hu := hu_of hr
    have r6 := hr.mono (show 6 ≤ 7 by decide)
    have r5 := hr.mono (show 5 ≤ 7 by decide)
    have r3 := hr.mono (show 3 ≤ 7 by decide)
    have r2 := hr.mono (show 2 ≤ 7 by decide)
    have r1 := hr.mono (show 1 ≤ 7 by decide)
    refine ⟨_, (pss_cons (ps_for PassesOwn.never rfl (pi_tup (pe_tup (pa_cons (pe_call L.GD r1 (by rfl) L.mD L.kD L.bD .nil pass0 (pa_cons (pv 0) (pa_cons pe_int (pa_cons pe_int pa_nil)))) (pa_cons (pe_call L.GD r1 (by rfl) L.mD L.kD L.bD .nil pass0 (pa_cons (pv 0) (pa_cons pe_int (pa_cons pe_int pa_nil)))) pa_nil)))) (pg_name (i := 1) nd rfl (.inl rfl)) (pss_cons (ps_par (i := 2) (j := 3) rfl nd rfl rfl (by decide) rfl rfl (pa_cons (pe_call A.W_.F r6 (by rfl) A.W_.m A.W_.k A.W_.b .nil pass0 (pa_cons (pv 1) (pa_cons pe_str pa_nil))) (pa_cons (ClX.pe_cmeth (pe_glob (v := .ref C) (by rfl) X.mg rfl) Y.rd Y.con L.GC1 r3 pass0 (pa_cons pe_int pa_nil)) pa_nil)) (by rfl))
      (pss_cons (ps_for PassesOwn.never rfl (pi_range1 (by rfl) T.range (pa_cons (pv 1) pa_nil)) (pg_name (i := 4) nd rfl (.inl rfl)) (pss_one (ps_set (i := 3) nd rfl (.inl rfl) (pe_op (op_poly rfl is_mul O.cM O.gM r5 pass0) (pv 3) (ClX.pe_cmeth (pe_glob (v := .ref C) (by rfl) X.mg rfl) Y.rd Y.of L.GO1 r3 pass0 (pa_cons pe_str pa_nil))))))
      (pss_cons (ps_if (PW.pt (pw_or (pt_not (pt_val (pe_call A.S_.F r1 (by rfl) A.S_.m A.S_.k A.S_.b .nil pass0 (pa_cons (pe_op (op_poly rfl is_sub O.cS O.gS r5 pass0) (pv 2) (pe_meth (pv 2) X.cl A.pu.m A.pu.F r6 A.pu.b .nil pass0 (pa_cons pe_str (pa_cons (ClX.pe_cmeth (pe_glob (v := .ref C) (by rfl) X.mg rfl) Y.rd Y.of L.GO2 r3 pass0 (pa_cons pe_str (pa_cons (pe_un un_neg pe_int) pa_nil))) pa_nil)))) (pa_cons (pv 3) pa_nil))))) (pw_or1 (pt_val (pe_callTy (call_boolO A.b1 A.b2 A.b3 (hr.mono (by decide)) pass0) (by rfl) T.bool PyProof.Rows.boot_bool (pa_cons (pe_meth (pv 2) X.cl A.pu.m A.pu.F r6 A.pu.b .nil pass0 (pa_cons pe_str (pa_cons (pe_un un_neg pe_int) pa_nil))) pa_nil)))))) (pss_one (ps_ret pe_bl)) pss_nil)
      (pss_cons (ps_set (i := 5) nd rfl (.inl rfl) (pe_call L.GD r1 (by rfl) L.mD L.kD L.bD .nil pass0 (pa_cons (pv 0) (pa_cons pe_int (pa_cons pe_int pa_nil)))))
      (pss_cons (ps_set (i := 6) nd rfl (.inl rfl) pe_int)
      (pss_cons (ps_for PassesOwn.never rfl (pi_range1 (by rfl) T.range (pa_cons (pe_op op_add (pv 5) pe_int) pa_nil)) (pg_name (i := 7) nd rfl (.inl rfl)) (pss_cons (ps_set (i := 8) nd rfl (.inl rfl) pe_int)
      (pss_cons (ps_for PassesOwn.never rfl (pi_range1 (by rfl) T.range (pa_cons (pv 1) pa_nil)) (pg_name (i := 4) nd rfl (.inl rfl)) (pss_one (ps_set (i := 8) nd rfl (.inl rfl) (pe_op op_mulW (pv 8) (pv 7)))))
      (pss_one (ps_set (i := 6) nd rfl (.inl rfl) (pe_op op_add (pv 6) (pv 8)))))))
      (pss_one (ps_if (PW.pt (pw_or (pt_cmpR op_ne (StX.pe_callO (pv 2) A.c1 A.c2 r3 pass0 (pa_cons (pe_disp (pps_cons pe_str (pv 5) pps_nil) rfl rfl (by simp) (by decide)) pa_nil)) (pv 6) (nomark _)) (pw_or1 (pt_cmpR op_ne (pe_meth (pv 2) X.cl A.de.m A.de.F r2 A.de.b .nil pass0 (pa_cons pe_str pa_nil)) (pe_op op_add (pv 1) pe_int) (nomark _))))) (pss_one (ps_ret pe_bl)) pss_nil)))))))))
      (pss_cons (ps_asg (pe_call A.P_.F r6 (by rfl) A.P_.m A.P_.k A.P_.b .nil pass0 (pa_cons (pv 0) (pa_cons pe_int (pa_cons (pe_tup (pa_cons pe_str (pa_cons pe_str pa_nil))) (pa_cons pe_int pa_nil))))) (pg_tup rfl (pgs_cons (pg_name (i := 9) nd rfl (.inl rfl)) (pgs_cons (pg_name (i := 10) nd rfl (.inl rfl)) pgs_nil))))
      (pss_cons (ps_par (i := 11) (j := 12) rfl nd rfl rfl (by decide) rfl rfl (pa_cons (ClX.pe_cmeth (pe_glob (v := .ref C) (by rfl) X.mg rfl) Y.rd Y.of L.GO2 r3 pass0 (pa_cons pe_str (pa_cons (pe_op op_sub (pe_call L.GD r1 (by rfl) L.mD L.kD L.bD .nil pass0 (pa_cons (pv 0) (pa_cons pe_int (pa_cons pe_int pa_nil)))) pe_int) pa_nil))) (pa_cons (ClX.pe_cmeth (pe_glob (v := .ref C) (by rfl) X.mg rfl) Y.rd Y.of L.GO2 r3 pass0 (pa_cons pe_str (pa_cons (pe_op op_sub (pe_call L.GD r1 (by rfl) L.mD L.kD L.bD .nil pass0 (pa_cons (pv 0) (pa_cons pe_int (pa_cons pe_int pa_nil)))) pe_int) pa_nil))) pa_nil)) (by rfl))
      (pss_cons (ps_set (i := 13) nd rfl (.inl rfl) (pe_call A.U_.F hr (by rfl) A.U_.m A.U_.k A.U_.b .nil pass0 (pa_cons (pv 9) (pa_cons pe_str (pa_cons (pv 11) (pa_cons (pv 12) pa_nil))))))
      (pss_cons (ps_if (pt_not (pt_val (pe_call A.S_.F r1 (by rfl) A.S_.m A.S_.k A.S_.b .nil pass0 (pa_cons (pe_op (op_poly rfl is_add O.cA O.gA r5 pass0) (pe_meth (pv 13) X.cl A.pu.m A.pu.F r6 A.pu.b .nil pass0 (pa_cons pe_str (pa_cons (ClX.pe_cmeth (pe_glob (v := .ref C) (by rfl) X.mg rfl) Y.rd Y.of L.GO2 r3 pass0 (pa_cons pe_str (pa_cons pe_int pa_nil))) pa_nil))) (pe_meth (pv 9) X.cl A.pu.m A.pu.F r6 A.pu.b .nil pass0 (pa_cons pe_str (pa_cons (pv 11) pa_nil)))) (pa_cons (pv 13) pa_nil))))) (pss_one (ps_ret pe_bl)) pss_nil)
      (pss_cons (ps_if (pt_not (pt_val (pe_call A.S_.F r1 (by rfl) A.S_.m A.S_.k A.S_.b .nil pass0 (pa_cons (pe_op (op_poly rfl is_add O.cA O.gA r5 pass0) (pe_call A.U_.F hr (by rfl) A.U_.m A.U_.k A.U_.b .nil pass0 (pa_cons (pv 9) (pa_cons pe_str (pa_cons (pv 11) (pa_cons (pe_op (op_poly rfl is_sub O.cS O.gS r5 pass0) (pv 12) pe_int) pa_nil))))) (pe_meth (pv 9) X.cl A.pu.m A.pu.F r6 A.pu.b .nil pass0 (pa_cons pe_str (pa_cons (pv 12) pa_nil)))) (pa_cons (pv 13) pa_nil))))) (pss_one (ps_ret pe_bl)) pss_nil)
      (pss_cons (ps_if (PW.pt (pw_or (pt_val (pe_callTy (call_boolO A.b1 A.b2 A.b3 (hr.mono (by decide)) pass0) (by rfl) T.bool PyProof.Rows.boot_bool (pa_cons (pe_call A.U_.F hr (by rfl) A.U_.m A.U_.k A.U_.b .nil pass0 (pa_cons (pv 9) (pa_cons pe_str (pa_cons (pv 11) (pa_cons (pe_op (op_poly rfl is_sub O.cS O.gS r5 pass0) (pv 11) pe_int) pa_nil))))) pa_nil))) (pw_or1 (pt_not (pt_val (pe_call A.S_.F r1 (by rfl) A.S_.m A.S_.k A.S_.b .nil pass0 (pa_cons (pe_call A.U_.F hr (by rfl) A.U_.m A.U_.k A.U_.b .nil pass0 (pa_cons (pv 9) (pa_cons pe_str (pa_cons (pv 12) (pa_cons (pv 12) pa_nil))))) (pa_cons (pe_meth (pv 9) X.cl A.pu.m A.pu.F r6 A.pu.b .nil pass0 (pa_cons pe_str (pa_cons (pv 12) pa_nil))) pa_nil)))))))) (pss_one (ps_ret pe_bl)) pss_nil)
      (pss_cons (ps_par (i := 14) (j := 1) rfl nd rfl rfl (by decide) rfl rfl (pa_cons (pe_op op_sub (pe_call L.GD r1 (by rfl) L.mD L.kD L.bD .nil pass0 (pa_cons (pv 0) (pa_cons pe_int (pa_cons pe_int pa_nil)))) pe_int) (pa_cons (pe_call L.GD r1 (by rfl) L.mD L.kD L.bD .nil pass0 (pa_cons (pv 0) (pa_cons pe_int (pa_cons pe_int pa_nil)))) pa_nil)) (by rfl))
      (pss_cons (ps_set (i := 15) nd rfl (.inl rfl) (pe_disp (pps_cons pe_str (pe_op op_sub (pe_call L.GD r1 (by rfl) L.mD L.kD L.bD .nil pass0 (pa_cons (pv 0) (pa_cons pe_int (pa_cons pe_int pa_nil)))) pe_int) pps_nil) rfl rfl (by simp) (by decide)))
      (pss_cons (ps_set (i := 16) nd rfl (.inl rfl) pe_int)
      (pss_cons (ps_for PassesOwn.never rfl (pi_range2 (by rfl) T.range (pa_cons (pv 14) (pa_cons (pe_op op_add (pv 14) (pv 1)) pa_nil))) (pg_name (i := 5) nd rfl (.inl rfl)) (pss_one (ps_set (i := 16) nd rfl (.inl rfl) (pe_op op_add (pv 16) (pe_ix ix_tup (pe_call A.V_.F r1 (by rfl) A.V_.m A.V_.k A.V_.b .nil pass0 (pa_cons (pv 10) (pa_cons (pe_tup (pa_cons pe_str (pa_cons pe_str pa_nil))) (pa_cons (pe_disp (pps_cons pe_str (pv 5) (pps_cons pe_str (pe_dget hu (pv 15) pe_str (fun _ _ => rfl)) pps_nil)) rfl rfl (by simp) (by decide)) pa_nil)))) pe_int (fun _ _ => rfl))))))
      (pss_one (ps_ret (pe_call A.E_.F r1 (by rfl) A.E_.m A.E_.k A.E_.b .nil pass0 (pa_cons (pe_meth (pe_call A.U_.F hr (by rfl) A.U_.m A.U_.k A.U_.b .nil pass0 (pa_cons (pv 9) (pa_cons pe_str (pa_cons (pv 14) (pa_cons (pe_op op_sub (pe_op op_add (pv 14) (pv 1)) pe_int) pa_nil))))) X.cl A.fr.m A.fr.F r2 A.fr.b .nil pass0 (pa_cons (pv 15) pa_nil)) (pa_cons (pv 16) (pa_cons pe_int pa_nil))))))))))))))))), ?_⟩
    have x0 : ("x" : Str) ≠ "0" := by decide +kernel
    have y0 : ("y" : Str) ≠ "0" := by decide +kernel
    have n0 : ("n" : Str) ≠ "0" := by decide +kernel
    have yx : ("y" : Str) ≠ "x" := by decide +kernel
    have yn : ("y" : Str) ≠ "n" := by decide +kernel
    -- the powers
    refine ⟨.ref s0, rfl, s0, 0, 7, rfl, hs, by decide, fun H1 k1 s1 k10 k11 => ⟨.ref s0, rfl, s0, 1, 4, rfl, hs.same s1, by decide, fun H2 k2 s2 k20 k21 => ⟨by show 2 ≤ sizeLine; decide, fun tt htt => ?_⟩⟩⟩
    have s12 := s1.trans s2
    have stt := same_upd (o := HO.tup [V.int k1, V.int k2]) htt
    have ett := upd_same (H := H2) (a := tt) (o := HO.tup [V.int k1, V.int k2])
    generalize upd H2 tt (.tup [V.int k1, V.int k2]) = H3 at stt ett ⊢
    have s03 := s12.trans stt
    refine ⟨tt, rfl, ⟨_, SqT.of ett⟩, for_tup (K := K) (a := tt) (xs := [V.int k1, V.int k2]) (fun i σ H' => ∃ y1 y2 y3 y4 y5 y6 y7 y8, σ = [some (.ref s0), y1, y2, y3, y4, y5, y6, y7, y8, none, none, none, none, none, none, none, none] ∧ Same H3 H') ⟨none, none, none, none, none, none, none, none, rfl, Same.refl _⟩ (fun i σ H' _ ⟨_, _, _, _, _, _, _, _, _, sm⟩ => SqT.of (sm _ _ ett)) ?_ ?_⟩
    · rintro i v σ H4 hv ⟨y1, y2, y3, y4, y5, y6, y7, y8, rfl, s34⟩
      obtain ⟨m, rfl, m7⟩ : ∃ m : Nat, v = .int m ∧ m < 7 := by
        match i, hv with
        | 0, hv => cases hv; exact ⟨k1.toNat, by rw [Int.toNat_of_nonneg k10], by omega⟩
        | 1, hv => cases hv; exact ⟨k2.toNat, by rw [Int.toNat_of_nonneg k20], by omega⟩
        | i + 2, hv => exact nomatch hv
      have hs4 := hs.same (s03.trans s34)
      -- whole, power
      refine ⟨_, rfl, m, "x", rfl, by omega, x0, fun H5 pw W s5 frw hW fW0 vW => ?_⟩
      refine ⟨rfl, 1, 1, 2, rfl, by decide, by decide, by decide, by decide, by decide, fun H6 pc Pc s6 frc hPc fPc vPc => ⟨_, _, rfl, ?_⟩⟩
      have fW := (fits_pow m7 fW0.can vW).mono (show m + 2 ≤ 8 by omega) (show 43 * (m + 1) + 1 ≤ 302 by omega) (show m + 1 ≤ 7 by omega)
      obtain ⟨dxw, tpw, hpw, _⟩ := id hW
      have hdegW : ∀ t ∈ W.T, expo "x" t.1 ≤ ((7 : Nat) : Int) := fun t ht => by
        have h1 := expo_deg (x := "x") (fW.can.good t ht)
        have h2 := (fW.mon t ht).1
        omega
      have vput : ∀ (u : Str → Int) (z : Int), horR (z : Rat) (degOf "x" W.T + 1) (cf u "x" W) = pwS m z (m + 1) := fun u z => by
        rw [val_put u "x" z fW.can.good, vW, with_same]
      -- the power
      refine ⟨.int m, rfl, m, rfl, by omega, by omega, for_range (lo := 0) (fun r σ H' => ∃ (pp : Addr) (Pp : Pol) (y4 : Option V), σ = [some (.ref s0), some (.int m), some (.ref pw), some (.ref pp), y4, y5, y6, y7, y8, none, none, none, none, none, none, none, none] ∧ Same H6 H' ∧ PolyAt P w C H' pp Pp ∧ r ≤ m ∧ Fits ["x"] 1 (2 + 15 * r) r Pp ∧ ∀ u, val u Pp = ((u "x" ^ r : Int) : Rat)) ⟨pc, Pc, y4, rfl, Same.refl _, hPc, Nat.zero_le _, fPc _, fun u => ?_⟩ ?_ ?_⟩
      · rw [vPc u, Int.pow_zero]
        exact rat_over1 1
      · rintro r σ H7 hr' ⟨pp, Pp, y4', rfl, s67, hPp, _, fPp, vPp⟩
        refine ⟨.ref pp, rfl, rfl, "x", 0, 2, rfl, by decide, by decide, by decide, fun H8 z Z s8 fz hZ fZ _ vZ => ?_⟩
        have fZ' := fZ ["x"] List.mem_cons_self
        rw [if_pos rfl] at fZ'
        have hPp8 := hPp.same s8
        have hm7 : r < m := hr'
        refine rPO_of hPp8 (Late.poly hZ fZ') ⟨pp, .ref z, Pp, ["x"], 1, _, _, 1, 2, 1, _, rfl, hPp8, fPp, Late.poly hZ fZ', (fun q e => by cases e; exact (fz.apart s8 hPp).symm), by decide, by omega, by omega, fun H9 p2 P2 s9 _ hP2 fP2 vP2 => ⟨p2, rfl, ?_⟩⟩
        refine ⟨p2, P2, some (.int (0 + (r : Nat))), rfl, s67.trans (s8.trans s9), hP2, hm7, fP2.mono (by decide) (by omega) (by omega), fun u => ?_⟩
        rw [vP2 u, vPp u, vZ u, if_neg x0, Int.add_zero, Int.pow_succ, Rat.intCast_mul]
      rintro σ H7 ⟨pp, Pp, y4', rfl, s67, hPp, _, fPp, vPp⟩
      replace fPp : Fits ["x"] 1 (2 + 15 * m) m Pp := fPp
      replace vPp : ∀ u, val u Pp = ((u "x" ^ m : Int) : Rat) := vPp
      have s57 := s6.trans s67
      -- whole - whole.put
      refine ⟨.ref pw, rfl, .ref pw, rfl, pw, dxw, _, rfl, s57 _ _ hpw, pflds_no _ _ (by decide +kernel) (by decide +kernel), rfl, _, rfl, "x", -1, 2, rfl, by decide, by decide, by decide, fun H8 z Z s8 fz hZ fZ _ vZ => ?_⟩
      have fZ' := (fZ ["x"] List.mem_cons_self).mono (show (if (-1 : Int) = 0 then 1 else 2) ≤ 2 by decide) (Nat.le_refl _) (Nat.le_refl _)
      have hW8 := (hW.same s57).same s8
      refine ⟨pw, .ref z, W, "x", ["x"], 8, 302, 7, 2, 2, 1, 7, _, rfl, hW8, fW, Late.poly hZ fZ', hdegW, by decide, by decide, by decide, by decide, by decide, by decide, by decide, fun H9 q Qp s9 frq hQ fQ vQ => ?_⟩
      have hW9 := hW8.same s9
      refine rPO_of hW9 (Late.poly hQ fQ) ⟨pw, .ref q, W, ["x"], 8, 302, _, _, _, _, rfl, hW9, fW.mono (Nat.le_refl _) (Nat.le_refl _) (by decide), Late.poly hQ fQ, by decide, by decide, by decide, by decide, fun Ha d D sa frd hD fD vD => ⟨d, rfl, ?_⟩⟩
      have s7a := s8.trans (s9.trans sa)
      refine ⟨.ref pp, rfl, d, pp, D, Pp, rfl, hD, hPp.same s7a, pol_one fD.can fPp.can (fun u => ?_), true, rfl, iteF ?_⟩
      · have hz : val u Z = ((u "x" - 1 : Int) : Rat) := by
          rw [vZ u, if_neg x0]
          rfl
        rw [vD u]
        show val u W - val u Qp = _
        rw [vQ u]
        show val u W - horR (val u Z) _ _ = _
        rw [hz, vput, vW u, vPp u]
        exact pwS_pow (u "x") (by omega)
      have s5a := s57.trans s7a
      have hWa := hW.same s5a
      have lm1 : ∀ H' : Hp, Late P w C H' (.int (-1)) ["x"] 1 2 0 fun _ => ((-1 : Int) : Rat) := fun H' => .inr ⟨-1, rfl, by decide, by decide, by decide, by decide, fun _ => rfl⟩
      refine ⟨.ref pw, rfl, pw, dxw, _, rfl, s5a _ _ hpw, pflds_no _ _ (by decide +kernel) (by decide +kernel), _, rfl, pw, .int (-1), W, "x", ["x"], 8, 302, 7, 1, 2, 0, 7, _, rfl, hWa, fW, lm1 Ha, hdegW, by decide, by decide, by decide, by decide, by decide, by decide, by decide, fun Hb r R sb _ hR fR vR => ?_⟩
      have z0 : R.T = [] := zero_pol fR.can fun u => by
        rw [vR u, vput, pwS_neg1]
      obtain ⟨dxr, tpr, hpr, _⟩ := id hR
      refine ⟨r, dxr, _, rfl, hpr, r, R, rfl, hR, _, rfl, _, rfl, ?_⟩
      rw [z0]
      refine iteF ?_
      clear hQ fQ vQ hD fD vD hZ fZ fZ' vZ hR fR vR hpr z0
      have s5b := s5a.trans sb
      -- worth
      refine ⟨.ref s0, rfl, s0, 2, 20, rfl, (hs4.same s5).same s5b, by decide, fun Hc wk sc w0 w1 => ?_⟩
      obtain ⟨wn, rfl⟩ : ∃ wn : Nat, wk = wn := ⟨wk.toNat, by omega⟩
      have s5c := s5b.trans sc
      refine ⟨_, rfl, _, _, rfl, rfl, _, rfl, ?_, ?_, ?_⟩
      · show -(2 ^ 62) ≤ (wn : Int) + 1
        omega
      · show (wn : Int) + 1 < 2 ^ 62
        omega
      have ewn : ((wn : Int) + 1).toNat = wn + 1 := by omega
      show ∃ W, _
      rw [ewn]
      refine for_range (lo := 0) (fun j σ H' => ∃ (y4 y7 y8 : Option V), σ = [some (.ref s0), some (.int m), some (.ref pw), some (.ref pp), y4, some (.int wn), some (.int (psumI m j)), y7, y8, none, none, none, none, none, none, none, none] ∧ H' = Hc) ⟨y4', y7, y8, rfl, rfl⟩ ?_ ?_
      · rintro j σ H' hj ⟨y4, y7, y8, rfl, rfl⟩
        rw [show (0 : Int) + (j : Nat) = (j : Nat) from Int.zero_add _]
        refine ⟨.int m, rfl, m, rfl, by omega, by omega, for_range (lo := 0) (fun r σ H'' => ∃ (y4 : Option V), σ = [some (.ref s0), some (.int m), some (.ref pw), some (.ref pp), y4, some (.int wn), some (.int (psumI m j)), some (.int (j : Nat)), some (.int ((j : Int) ^ r)), none, none, none, none, none, none, none, none] ∧ H'' = H') ⟨y4, by rw [Int.pow_zero]; rfl, rfl⟩ ?_ ?_⟩
        · rintro r σ H'' hr' ⟨y4, rfl, rfl⟩
          have hm7 : r < m := hr'
          refine ⟨_, rfl, _, rfl, _, _, rfl, rfl, wide_mul (a := 31) (b := 6) ?_ (show ((j : Nat) : Int).natAbs < 2 ^ 6 by omega) (by decide) (by decide) (by decide), some (.int (0 + (r : Nat))), ?_, rfl⟩
          · have h1 := pow_bits (a := ((j : Nat) : Int)) (c := 5) (k := r) (by omega)
            exact Nat.lt_of_le_of_lt h1 (Nat.pow_lt_pow_right (by decide) (by omega))
          · rw [Int.pow_succ]
            rfl
        · rintro σ H'' ⟨y4, rfl, rfl⟩
          exact ⟨_, rfl, _, rfl, _, _, rfl, rfl, y4, _, _, rfl, rfl⟩
      rintro σ H' ⟨y4, y7', y8', rfl, rfl⟩
      -- whole at worth
      refine ⟨.ref pw, rfl, pw, rfl, fun pt hpt => ?_⟩
      have spt := same_upd (o := HO.dK []) hpt
      refine ⟨.int wn, rfl, upd_same, [(Sum.inr "x", .int wn)], rfl, by show 1 ≤ 15; decide, ?_⟩
      have sd : Same H' (upd (upd H' pt (.dK [])) pt (.dK (mergeK [] [(Sum.inr "x", .int wn)]))) := same_lay hpt spt upd_same
      have hu1 : PtK (upd (upd H' pt (.dK [])) pt (.dK (mergeK [] [(Sum.inr "x", .int wn)]))) pt (fun _ => (wn : Int)) ["x"] := ⟨_, .inl upd_same, fun z hz => by
        rw [List.mem_singleton.mp hz]
        rfl⟩
      generalize upd (upd H' pt (.dK [])) pt (.dK (mergeK [] [(Sum.inr "x", .int wn)])) = Hd at sd hu1 ⊢
      have s5d := s5c.trans sd
      refine ⟨.inr ⟨dxw, _, s5d _ _ hpw⟩, pw, pt, W, ["x"], 8, 302, 7, 5, fun _ => (wn : Int), rfl, hW.same s5d, fW, hu1, (fun z _ => by show ((wn : Nat) : Int).natAbs ≤ 2 ^ 5; omega), by decide, by decide, by decide, by decide, by decide, fun He a e se he hv => ?_⟩
      refine ⟨_, rfl, rfl, _, rfl, ?_⟩
      have hae : a / e = psumI m (wn + 1) := by
        rw [vW] at hv
        have h2 := pwS_sum m (wn + 1)
        rw [show ((wn + 1 : Nat) : Int) - 1 = (wn : Int) by omega] at h2
        rw [h2, ← rat_over1 (psumI m (wn + 1))] at hv
        have h3 := (rat_cross (by decide) he).mp hv
        rw [Int.mul_one] at h3
        rw [← h3]
        exact Int.mul_ediv_cancel _ (by omega)
      refine ite2 (fun z => absurd (show (!decide (V.int (a / e) = V.int (psumI m (wn + 1)))) = true from z) (by rw [hae]; simp)) (fun _ => ?_)
      have s5e := s5d.trans se
      refine ⟨.ref pw, rfl, pw, dxw, _, rfl, s5e _ _ hpw, pflds_no _ _ (by decide +kernel) (by decide +kernel), pw, W, "x", rfl, hW.same s5e, by have := fW.len; omega, fW.can.good, fun Hf sf => ⟨_, rfl, _, _, rfl, rfl, rfl, _, rfl, ?_⟩⟩
      have hdeg : ((degOf "x" W.T : Nat) : Int) = (m : Int) + 1 := by
        have h1 := pw_deg fW.can vW
        have h2 : degOf "x" W.T ≤ m + 1 := degOf_le fun t ht => by
          have h1 := expo_deg (x := "x") (fW.can.good t ht)
          have h2 := ((fits_pow m7 fW0.can vW).mon t ht).1
          omega
        omega
      refine ite2 (fun z => absurd (show (!decide (V.int ((degOf "x" W.T : Nat) : Int) = V.int ((m : Int) + 1))) = true from z) (by rw [hdeg]; simp)) (fun _ => ?_)
      exact ⟨_, _, _, _, _, _, _, _, rfl, s34.trans (s5.trans (s5e.trans sf))⟩
    rintro σ H4 ⟨y1, y2, y3, y4, y5, y6, y7, y8, rfl, s34⟩
    have hs4 := hs.same (s03.trans s34)
    -- poly
    refine ⟨.ref s0, rfl, by show 2 ≤ sizeLine; decide, fun nm hnm => ?_⟩
    have snm := same_upd (o := HO.tup [V.str "x", V.str "y"]) hnm
    have xy0 : ∀ z ∈ [("x" : Str), "y"], z ≠ "0" := fun z hz => by
      rcases List.mem_cons.mp hz with e | e
      · rw [e]; exact x0
      · rw [List.mem_singleton.mp e]; exact y0
    refine ⟨s0, nm, 10, 3, ["x", "y"], rfl, hs4.same snm, SqT.of upd_same, rfl, xy0, by decide, fun H5 rA p1 l1 A1 ts1 s5 hrA hA1 _ fA0 hts1 lts ok1 v1 => ?_⟩
    have s45 := snm.trans s5
    have hs5 := hs4.same s45
    have s05 := s03.trans (s34.trans s45)
    refine ⟨rA, _, rfl, SqT.of hrA, rfl, _, _, rfl, _, _, rfl, rfl, ?_⟩
    have e2 := deg2 fA0 yx ok1 v1
    have fA : Fits ["x", "y"] 4 9 4 A1 := { rep_fits fA0.can v1 (rep_ts lts ok1) with len := fA0.len }
    have goodA := fA.can.good
    obtain ⟨dx1, tp1, hp1, _⟩ := id hA1
    have only : ∀ t ∈ A1.T, ∀ p ∈ t.1, p.1 ≠ "x" → p.1 ≠ "n" := fun t ht p hp h1 => by
      rcases List.mem_cons.mp ((fA.mon t ht).2 p hp) with e | e
      · exact absurd e h1
      · rw [List.mem_singleton.mp e]
        exact yn
    have vA : ∀ (u : Str → Int) (z : Int), horR (z : Rat) (degOf "x" A1.T + 1) (cf u "x" A1) = val (with_ u "x" z) A1 := fun u z => val_put u "x" z goodA
    clear hnm snm hrA
    have i2 : ∀ z ∈ [("x" : Str), "y"], z ∈ [("x" : Str), "y", "n"] := fun z hz => by
      rcases List.mem_cons.mp hz with e | e
      · rw [e]; exact List.mem_cons_self
      · rw [List.mem_singleton.mp e]; exact List.mem_cons_of_mem _ List.mem_cons_self
    have i3 : ∀ z ∈ [("y" : Str), "n"], z ∈ [("x" : Str), "y", "n"] := fun z hz => List.mem_cons_of_mem _ hz
    have fA3 := fA.names i2
    -- low, high
    refine ⟨rfl, .ref s0, rfl, s0, 3, 7, rfl, hs5, by decide, fun H6 ka s6 ka0 ka1 => ⟨_, _, rfl, rfl, "n", ka - 3, 4, rfl, by show (ka - 3).natAbs < 16; omega, by decide, by decide, fun H7 pl Lo s7 _ hLo fLo _ vLo => ?_⟩⟩
    have s57 := s6.trans s7
    refine ⟨rfl, .ref s0, rfl, s0, 4, 7, rfl, hs5.same s57, by decide, fun H8 kb s8 kb0 kb1 => ⟨_, _, rfl, rfl, "y", kb - 3, 4, rfl, by show (kb - 3).natAbs < 16; omega, by decide, by decide, fun H9 ph Hi s9 _ hHi fHi _ vHi => ⟨_, _, rfl, ?_⟩⟩⟩
    have s89 := s8.trans s9
    have s59 := s57.trans s89
    replace hLo := hLo.same s89
    have lLo : Late P w C H9 (.ref pl) ["x", "y", "n"] 3 30 1 fun u => ((u "n" + (ka - 3) : Int) : Rat) := of_late hLo fLo vLo n0 (by simp) (by decide)
    have lHi : Late P w C H9 (.ref ph) ["x", "y", "n"] 3 30 1 fun u => ((u "y" + (kb - 3) : Int) : Rat) := of_late hHi fHi vHi y0 (by simp) (by decide)
    obtain ⟨zl, ezl⟩ : ∃ zl : (Str → Int) → Int, zl = fun u => u "n" + (ka - 3) := ⟨_, rfl⟩
    obtain ⟨zh, ezh⟩ : ∃ zh : (Str → Int) → Int, zh = fun u => u "y" + (kb - 3) := ⟨_, rfl⟩
    replace lLo : Late P w C H9 (.ref pl) ["x", "y", "n"] 3 30 1 fun u => (zl u : Rat) := by rw [ezl]; exact lLo
    replace lHi : Late P w C H9 (.ref ph) ["x", "y", "n"] 3 30 1 fun u => (zh u : Rat) := by rw [ezh]; exact lHi
    have fLo3 : Fits ["x", "y", "n"] 2 15 1 Lo := (fLo _ (by simp)).mono (by split <;> decide) (by decide) (Nat.le_refl _)
    have fHi3 : Fits ["x", "y", "n"] 2 15 1 Hi := (fHi _ (by simp)).mono (by split <;> decide) (by decide) (Nat.le_refl _)
    have vLo3 : ∀ u, val u Lo = (zl u : Rat) := fun u => by rw [vLo u, if_neg n0, ezl]
    have vHi3 : ∀ u, val u Hi = (zh u : Rat) := fun u => by rw [vHi u, if_neg y0, ezh]
    have zL1 : Lz ["y", "n"] fun u => zl u - 1 := .inl ⟨"n", by simp, ka - 4, by omega, fun u => by rw [ezl]; show u "n" + (ka - 3) - 1 = _; omega⟩
    have zH : Lz ["y", "n"] zh := .inl ⟨"y", by simp, kb - 3, by omega, fun u => by rw [ezh]⟩
    have zH1 : Lz ["y", "n"] fun u => zh u - 1 := .inl ⟨"y", by simp, kb - 4, by omega, fun u => by rw [ezh]; show u "y" + (kb - 3) - 1 = _; omega⟩
    have znext : ∀ u, zl (with_ u "n" (u "n" + 1)) = zl u + 1 := fun u => by
      rw [ezl]
      show with_ u "n" (u "n" + 1) "n" + (ka - 3) = u "n" + (ka - 3) + 1
      rw [with_same]
      omega
    have zkeep : ∀ u, zh (with_ u "n" (u "n" + 1)) = zh u := fun u => by
      rw [ezh]
      show with_ u "n" (u "n" + 1) "y" + (kb - 3) = u "y" + (kb - 3)
      rw [with_ne yn]
    replace hA1 := hA1.same s59
    replace hp1 := s59 _ _ hp1
    replace hts1 := hts1.same s59
    replace hs5 := hs5.same s59
    have s09 := s05.trans s59
    clear fLo vLo fHi vHi s6 s7 s57 s8 s9 s89 s59 hs4 s34 s45 s5 s05 ezl ezh
    -- found
    refine ⟨.ref p1, rfl, .ref pl, rfl, .ref ph, rfl, p1, .ref pl, .ref ph, A1, "x", "y", "n", zl, zh, rfl, hA1, fA, e2, x0, lLo, lHi, zL1, zH, fun Ha f0 R0 sa hF fF vF => ?_⟩
    obtain ⟨dxf, tpf, hpf, _⟩ := id hF
    -- one more at the low end
    refine ⟨.ref f0, rfl, f0, dxf, _, rfl, hpf, pflds_no _ _ (by decide +kernel) (by decide +kernel), rfl, "n", 1, 2, rfl, by decide, by decide, by decide, fun Hb z Z sb _ hZ fZ _ vZ => ?_⟩
    have hdegF : ∀ t ∈ R0.T, expo "n" t.1 ≤ ((5 : Nat) : Int) := fun t ht => by
      have h1 := expo_deg (x := "n") (fF.can.good t ht)
      have h2 := (fF.mon t ht).1
      omega
    have fZ' := (fZ ["y", "n"] (by simp)).mono (show (if (1 : Int) = 0 then 1 else 2) ≤ 2 by decide) (Nat.le_refl _) (Nat.le_refl _)
    refine ⟨f0, .ref z, R0, "n", ["y", "n"], 36, 814, 5, 2, 2, 1, 5, _, rfl, hF.same sb, fF, Late.poly hZ fZ', hdegF, by decide, by decide, by decide, by decide, by decide, by decide, by decide, fun Hc q Qp sc _ hQ fQ vQ => ?_⟩
    have sac := sb.trans sc
    have s9c := sa.trans sac
    refine ⟨.ref p1, rfl, p1, dx1, _, rfl, s9c _ _ hp1, pflds_no _ _ (by decide +kernel) (by decide +kernel), .ref pl, rfl, p1, .ref pl, A1, "x", ["x", "y", "n"], 4, 9, 4, 3, 30, 1, 2, _, rfl, hA1.same s9c, fA3, lLo.same s9c, e2, by decide, by decide, by decide, by decide, by decide, by decide, by decide, fun Hd r R sd _ hR fR vR => ?_⟩
    refine rPO_of (hQ.same sd) (Late.poly hR (fR.mono (Nat.le_refl _) (Nat.le_refl _) (show _ ≤ 36 by decide))) ⟨q, .ref r, Qp, ["x", "y", "n"], _, _, _, _, 36, _, rfl, hQ.same sd, fQ.names i3, Late.poly hR (fR.mono (Nat.le_refl _) (Nat.le_refl _) (by decide)), by decide, by decide, by decide, by decide, fun He d D se _ hD fD vD => ⟨d, rfl, ?_⟩⟩
    have sae := sac.trans (sd.trans se)
    refine ⟨.ref f0, rfl, d, f0, D, R0, rfl, hD, hF.same sae, pol_one fD.can fF.can (fun u => ?_), true, rfl, iteF ?_⟩
    · have hz : val u Z = ((u "n" + 1 : Int) : Rat) := by rw [vZ u, if_neg n0]
      rw [vD u]
      show val u Qp + val u R = _
      rw [vQ u, vR u]
      show horR (val u Z) _ _ + horR (zl u : Rat) _ _ = _
      rw [hz, val_put u "n" _ fF.can.good, vF, vF, znext, zkeep, SS_with only, show zl u + 1 - 1 = zl u by omega]
      exact add_back (SS_low u "x" A1 (zl u) (zh u) _)
    clear hQ fQ vQ hZ fZ fZ' vZ hR fR vR hD fD vD
    have s9e := sa.trans sae
    -- one more at the high end
    have one3 : ∀ H' : Hp, Late P w C H' (.int 1) ["x", "y", "n"] 1 2 1 fun _ => ((1 : Int) : Rat) := fun H' => .inr ⟨1, rfl, by decide, by decide, by decide, by decide, fun _ => rfl⟩
    have sub1 : ∀ (p : Addr) (B : Pol) (z : (Str → Int) → Int) (H0 : Hp) (Q : VK) (E : XK), PolyAt P w C H0 p B → Fits ["x", "y", "n"] 2 15 1 B → (∀ u, val u B = (z u : Rat)) → (∀ H' r, Same H0 H' → Late P w C H' (.ref r) ["x", "y", "n"] 3 30 1 (fun u => ((z u - 1 : Int) : Rat)) → Q (.ref r) H') → rPO C (spLin P w C fun a b => a - b) E (.ref p) (.int 1) H0 Q := fun p B z H0 Q E hB fB vB q => by
      refine rPO_of hB (one3 H0) ⟨p, .int 1, B, ["x", "y", "n"], 2, 15, 1, 2, 1, _, rfl, hB, fB, one3 H0, by decide, by decide, by decide, by decide, fun H' r R s fr hR fR vR => ⟨r, rfl, q H' r s (.inl ⟨r, R, rfl, hR, ?_, fun u => ?_⟩)⟩⟩
      · exact fR.mono (by decide) (by decide) (by decide)
      · rw [vR u, vB u]
        exact (Rat.intCast_sub (z u) 1).symm
    refine ⟨.ref p1, rfl, .ref pl, rfl, .ref ph, rfl, sub1 ph Hi zh He _ _ (hHi.same s9e) fHi3 vHi3 fun Hf hm sf lHm => ?_⟩
    have s9f := s9e.trans sf
    refine ⟨p1, .ref pl, .ref hm, A1, "x", "y", "n", zl, (fun u => zh u - 1), rfl, hA1.same s9f, fA, e2, x0, lLo.same s9f, lHm, zL1, zH1, fun Hg q Qp sg hQ fQ vQ => ?_⟩
    have s9g := s9f.trans sg
    refine ⟨.ref p1, rfl, p1, dx1, _, rfl, s9g _ _ hp1, pflds_no _ _ (by decide +kernel) (by decide +kernel), .ref ph, rfl, p1, .ref ph, A1, "x", ["x", "y", "n"], 4, 9, 4, 3, 30, 1, 2, _, rfl, hA1.same s9g, fA3, lHi.same s9g, e2, by decide, by decide, by decide, by decide, by decide, by decide, by decide, fun Hh r R sh _ hR fR vR => ?_⟩
    refine rPO_of (hQ.same sh) (Late.poly hR fR) ⟨q, .ref r, Qp, ["x", "y", "n"], 36, 814, _, _, _, _, rfl, hQ.same sh, (fQ.names i3).mono (Nat.le_refl _) (Nat.le_refl _) (by decide), Late.poly hR fR, by decide, by decide, by decide, by decide, fun Hi' d D si _ hD fD vD => ⟨d, rfl, ?_⟩⟩
    have seI := sf.trans (sg.trans (sh.trans si))
    have s9i := s9e.trans seI
    refine ⟨.ref f0, rfl, d, f0, D, R0, rfl, hD, hF.same (sae.trans seI), pol_one fD.can fF.can (fun u => ?_), true, rfl, iteF ?_⟩
    · rw [vD u]
      show val u Qp + val u R = _
      rw [vQ u, vR u, vF u]
      exact add_back (SS_high u "x" A1 (zl u - 1) (zh u) _)
    clear hQ fQ vQ hR fR vR hD fD vD lHm
    -- no values, one value
    refine ⟨.ref p1, rfl, .ref pl, rfl, .ref pl, rfl, sub1 pl Lo zl Hi' _ _ (hLo.same s9i) fLo3 vLo3 fun Hj lm sj lLm => ?_⟩
    have s9j := s9i.trans sj
    refine ⟨p1, .ref pl, .ref lm, A1, "x", "y", "n", zl, (fun u => zl u - 1), rfl, hA1.same s9j, fA, e2, x0, lLo.same s9j, lLm, zL1, zL1, fun Hk q Qp sk hQ fQ vQ => ?_⟩
    have z0 : Qp.T = [] := zero_pol fQ.can fun u => by
      rw [vQ u]
      exact SS_same ..
    obtain ⟨dxq, tpq, hpq, _⟩ := id hQ
    refine ⟨q, dxq, _, rfl, hpq, q, Qp, rfl, hQ, _, rfl, _, rfl, ?_⟩
    rw [z0]
    refine iteF ?_
    have s9k := s9j.trans sk
    refine ⟨.ref p1, rfl, .ref ph, rfl, .ref ph, rfl, p1, .ref ph, .ref ph, A1, "x", "y", "n", zh, zh, rfl, hA1.same s9k, fA, e2, x0, lHi.same s9k, lHi.same s9k, zH1, zH, fun Hl q2 Q2 sl hQ2 fQ2 vQ2 => ?_⟩
    have s9l := s9k.trans sl
    refine ⟨.ref p1, rfl, p1, dx1, _, rfl, s9l _ _ hp1, pflds_no _ _ (by decide +kernel) (by decide +kernel), .ref ph, rfl, p1, .ref ph, A1, "x", ["x", "y", "n"], 4, 9, 4, 3, 30, 1, 2, _, rfl, hA1.same s9l, fA3, lHi.same s9l, e2, by decide, by decide, by decide, by decide, by decide, by decide, by decide, fun Hm r R sm _ hR fR vR => ?_⟩
    refine ⟨q2, r, Q2, R, rfl, hQ2.same sm, hR, pol_one fQ2.can fR.can (fun u => ?_), true, rfl, iteF ?_⟩
    · rw [vQ2 u, vR u, ← add_back (SS_low u "x" A1 (zh u) (zh u) _), SS_same]
      exact Rat.zero_add _
    clear hQ fQ vQ hQ2 fQ2 vQ2 hR fR vR hpq z0 lLm lLo lHi zL1 zH zH1 znext zkeep hF hpf fF vF hdegF fLo3 fHi3 vLo3 vHi3 sub1 hLo hHi
    have s9m := s9l.trans sm
    replace hA1 := hA1.same s9m
    replace hp1 := s9m _ _ hp1
    replace hts1 := hts1.same s9m
    replace hs5 := hs5.same s9m
    have s0m := s09.trans s9m
    clear s9m s9l sm sl s9k sk s9j sj s9i seI si sh sg s9g sf s9f s9e sae se sd s9c sac sc sb sa s09
    -- start, many
    refine ⟨.ref s0, rfl, s0, 5, 9, rfl, hs5, by decide, fun Hn sk sn sk0 sk1 => ⟨_, _, rfl, rfl, .ref s0, rfl, s0, 6, 7, rfl, hs5.same sn, by decide, fun Ho mk so mk0 mk1 => ⟨_, _, rfl, ?_⟩⟩⟩
    obtain ⟨mn, rfl⟩ : ∃ mn : Nat, mk = mn := ⟨mk.toNat, by omega⟩
    -- the point
    intro pt hpt
    have sno := sn.trans so
    have spt := same_upd (o := HO.dK []) hpt
    refine ⟨.ref s0, rfl, s0, 7, 9, rfl, (hs5.same sno).same spt, by decide, fun Hq yk sq yk0 yk1 => ⟨_, _, rfl, rfl, sq _ _ upd_same, [(Sum.inr "y", .int (yk - 4))], rfl, by show 1 ≤ 15; decide, ?_⟩⟩
    have sPt : Same Ho (upd Hq pt (.dK (mergeK [] [(Sum.inr "y", .int (yk - 4))]))) := same_lay hpt (spt.trans sq) (sq _ _ upd_same)
    have hu0 : PtK (upd Hq pt (.dK (mergeK [] [(Sum.inr "y", .int (yk - 4))]))) pt (fun _ => yk - 4) ["y"] := ⟨_, .inl upd_same, fun z hz => by
      rw [List.mem_singleton.mp hz]
      rfl⟩
    generalize upd Hq pt (.dK (mergeK [] [(Sum.inr "y", .int (yk - 4))])) = Hp0 at sPt hu0 ⊢
    have smp := sno.trans sPt
    replace hA1 := hA1.same smp
    replace hp1 := smp _ _ hp1
    replace hts1 := hts1.same smp
    have s0p := s0m.trans smp
    clear sPt spt sq sno so sn hpt
    -- the sum
    refine ⟨_, rfl, _, rfl, _, rfl, _, _, rfl, rfl, (sk - 4), (sk - 4) + mn, rfl, ⟨by omega, by omega, by omega, by omega⟩, ?_⟩
    show ∃ W, _
    rw [show ((sk - 4) + (mn : Int) - (sk - 4)).toNat = mn by omega]
    refine for_range (lo := (sk - 4)) (fun i σ H' => ∃ (y2 y3 y4 y5 y6 y7 y8 y11 y12 y13 : Option V), σ = [some (.ref s0), some (.int mn), y2, y3, y4, y5, y6, y7, y8, some (.ref p1), some (.ref l1), y11, y12, y13, some (.int (sk - 4)), some (.ref pt), some (.int (ssum (fun j => tsVal (with_ (fun _ => yk - 4) "x" ((sk - 4) + (j : Nat))) ts1) i))] ∧ Same Hp0 H') ⟨_, _, _, _, _, _, _, _, _, _, rfl, Same.refl _⟩ ?_ ?_
    · rintro i σ H' hi ⟨y2, y3, y4, y5, y6, y7, y8, y11, y12, y13, rfl, si⟩
      refine ⟨_, rfl, .ref l1, rfl, by show 2 ≤ sizeLine; decide, fun nm2 hnm2 => fun pt2 hpt2 => ?_⟩
      have sn2 := same_upd (o := HO.tup [V.str "x", V.str "y"]) hnm2
      have en2 := upd_same (H := H') (a := nm2) (o := HO.tup [V.str "x", V.str "y"])
      generalize upd H' nm2 (.tup [V.str "x", V.str "y"]) = Ha at sn2 en2 hpt2 ⊢
      have sp2 := same_upd (o := HO.dK []) hpt2
      refine ⟨_, rfl, .ref pt, rfl, pt, _, rfl, ((hu0.same (si.trans sn2)).same sp2).get List.mem_cons_self, upd_same, [(Sum.inr "x", .int ((sk - 4) + (i : Nat))), (Sum.inr "y", .int (yk - 4))], rfl, by show 2 ≤ 15; decide, ?_⟩
      have sb : Same Ha (upd (upd Ha pt2 (.dK [])) pt2 (.dK (mergeK [] [(Sum.inr "x", .int ((sk - 4) + (i : Nat))), (Sum.inr "y", .int (yk - 4))]))) := same_lay hpt2 sp2 upd_same
      have hu2 : PtK (upd (upd Ha pt2 (.dK [])) pt2 (.dK (mergeK [] [(Sum.inr "x", .int ((sk - 4) + (i : Nat))), (Sum.inr "y", .int (yk - 4))]))) pt2 (with_ (fun _ => yk - 4) "x" ((sk - 4) + (i : Nat))) ["x", "y"] := by
        refine ⟨_, .inl upd_same, fun z hz => ?_⟩
        obtain ⟨w1, w2⟩ := two_vals yx (V.int ((sk - 4) + (i : Nat))) (V.int (yk - 4))
        rcases List.mem_cons.mp hz with e | e
        · rw [e, with_same]; exact w1
        · rw [List.mem_singleton.mp e, with_ne yx]; exact w2
      generalize upd (upd Ha pt2 (.dK [])) pt2 (.dK (mergeK [] [(Sum.inr "x", .int ((sk - 4) + (i : Nat))), (Sum.inr "y", .int (yk - 4))])) = Hb at sb hu2 ⊢
      have s2 := si.trans (sn2.trans sb)
      refine ⟨l1, nm2, pt2, ts1, ["x", "y"], ["x", "y"], with_ (fun _ => yk - 4) "x" ((sk - 4) + (i : Nat)), 5, rfl, hts1.same s2, SqT.of (sb _ _ en2), Nat.le_refl _, ok1, hu2, fun z hz => hz, (fun z hz => ?_), by decide, fun Hc rv sc hrv => ⟨rv, _, 0, _, rfl, rfl, SqT.of hrv, rfl, _, _, rfl, rfl, ?_⟩⟩
      · rcases List.mem_cons.mp hz with e | e
        · rw [e, with_same]
          omega
        · rw [List.mem_singleton.mp e, with_ne yx]
          show (yk - 4).natAbs ≤ 32
          omega
      exact ⟨y2, y3, y4, _, y6, y7, y8, y11, y12, y13, rfl, s2.trans sc⟩
    rintro σ H' ⟨y2, y3, y4, y5, y6, y7, y8, y11, y12, y13, rfl, si⟩
    -- the sum's value
    have lI : ∀ (c : Int) (H' : Hp), c.natAbs ≤ 15 → Late P w C H' (.int c) ["x", "y", "y"] 3 30 1 fun _ => (c : Rat) := fun c H' hc => .inr ⟨c, rfl, Nat.lt_of_le_of_lt hc (by decide), by decide, by decide, by decide, fun _ => rfl⟩
    refine ⟨.ref p1, rfl, _, rfl, _, rfl, _, rfl, _, _, rfl, rfl, _, _, rfl, rfl, p1, .int (sk - 4), .int ((sk - 4) + mn - 1), A1, "x", "y", "y", (fun _ => (sk - 4)), (fun _ => (sk - 4) + mn - 1), rfl, hA1.same si, fA, e2, x0, lI (sk - 4) H' (by omega), lI _ H' (by omega), .inr ⟨(sk - 4) - 1, by omega, fun _ => rfl⟩, .inr ⟨(sk - 4) + mn - 1, by omega, fun _ => rfl⟩, fun Ha r R sa hR fR vR => ?_⟩
    obtain ⟨dxr, tpr, hpr, _⟩ := id hR
    have hc4 : ∀ z ∈ [("y" : Str), "y"], ((fun _ => yk - 4 : Str → Int) z).natAbs ≤ 2 ^ 2 := fun z _ => by
      show (yk - 4).natAbs ≤ 4
      omega
    refine ⟨r, dxr, _, rfl, hpr, pflds_no _ _ (by decide +kernel) (by decide +kernel), .ref pt, rfl, r, pt, R, ["y", "y"], 36, 814, 5, 2, (fun _ => yk - 4), rfl, hR, fR, ?_, hc4, by decide, by decide, by decide, by decide, by decide, fun Hb t a e sb _ ht he hg hb ha hv => ?_⟩
    · obtain ⟨kvs, h1, h2⟩ := hu0.same (si.trans sa)
      exact ⟨kvs, h1, fun z hz => h2 z (by simpa using hz)⟩
    have hsum := SS_sum (u := fun _ => yk - 4) (x := "x") goodA v1 (sk - 4) mn
    rw [vR] at hv
    have hv2 := hsum.symm.trans hv
    have cross := (rat_cross (by decide) he).mp hv2
    have bnd : (ssum (fun j => tsVal (with_ (fun _ => yk - 4) "x" ((sk - 4) + (j : Nat))) ts1) mn).natAbs < 2 ^ 840 := by
      have h1 := ev_bits fR hc4
      have h2 : R.T.length * (2 ^ 814 * 2 ^ (2 * 5)) ≤ 36 * (2 ^ 814 * 2 ^ (2 * 5)) := Nat.mul_le_mul_right _ fR.len
      have h3 : (ssum (fun j => tsVal (with_ (fun _ => yk - 4) "x" ((sk - 4) + (j : Nat))) ts1) mn).natAbs * e.natAbs = a.natAbs * 12 := by
        rw [← Int.natAbs_mul, cross, Int.natAbs_mul]
        rfl
      have h4 := Nat.le_mul_of_pos_right (ssum (fun j => tsVal (with_ (fun _ => yk - 4) "x" ((sk - 4) + (j : Nat))) ts1) mn).natAbs (show 0 < e.natAbs by omega)
      have h5 : a.natAbs * 12 ≤ 36 * (2 ^ 814 * 2 ^ (2 * 5)) * 12 := Nat.mul_le_mul_right _ (Nat.le_trans ha (Nat.le_trans h1 h2))
      have h6 : 36 * (2 ^ 814 * 2 ^ (2 * 5)) * 12 < 2 ^ 840 := by decide
      omega
    exact ⟨_, rfl, t, a, e, _, 12, 814, 840, rfl, ht, he, hg, hb, by decide, by decide, cross.symm, bnd, by decide, by decide, by decide, by decide, qfin _ (s0p.trans (si.trans (sa.trans sb)))⟩
end
end Po
namespace Po
open PySem L2 Lo
/-- a def of the top, as it stands behind it -/
structure Df (K : PySem.W.Frag) (x : Str) (st : Stmt) (f : Addr) (fd : FuncData) : Prop where
  ns : PySem.W.nsIn K mainGlobals x = some (some (.ref f))
  fn : Fun K x x st f fd
theorem df_mk {K : PySem.W.Frag} {x : Str} {st : Stmt} {f : Addr} {oc : Value} {od an : Option Addr} {osl : Array (Option Value)} {kV doc pm cdv ct : Value} (a : PySem.W.nsIn K mainGlobals x = some (some (.ref f)))
    (l : K.lookup f = some ⟨oc, od, .func (PySem.W.fnOf x x (defArgs st) (defBody st) (defScope st) .none kV doc pm an cdv ct), osl⟩) (c : PySem.W.codeIn K cdv x = true) (k : PySem.W.keepIn K (.ref f) = true) :
    Df K x st f (PySem.W.fnOf x x (defArgs st) (defBody st) (defScope st) .none kV doc pm an cdv ct) := ⟨a, fun_mk l c k⟩
theorem num_mk {K : PySem.W.Frag} {C f g : Addr} {nm : String} {x y : Str} (e1 : PySem.dunder nm = x) (e2 : dunderR nm = y) (first : PySem.W.selfFirst K C = true) (hf : PySem.W.findIn K (.ref C) x = some (some (.ref f))) (hg : PySem.W.findIn K (.ref C) y = some (some (.ref g))) (kf : PySem.W.isFn K (.ref f) = true) (kg : PySem.W.isFn K (.ref g) = true)
    (n1 : PySem.W.subIn K (.ref C) (.type "int") = some false) (n2 : PySem.W.subIn K (.type "int") (.ref C) = some false) : NumCls K C nm f g := ⟨first, by rw [e1]; exact hf, by rw [e2]; exact hg, kf, kg, n1, n2⟩
theorem raw0 {P : Program} {w : World} {K : PySem.W.Frag} {mg : Str → Option Value} {base : Heap} {CX : CXT} {k : Nat} {f : Addr} {fd : FuncData} {ps : List Str} {sp : Sp} (F : FnOk P w K mg base CX k f fd ps sp) (b : Binds K fd ps []) : FnR P w K mg base CX k f sp :=
  (F.raw b .nil).imp fun vs H Q E h => by rw [List.append_nil]; exact h
set_option maxHeartbeats 0 in
theorem all_mk {l : PySem.W.OpenLaw} {w : World} {K : PySem.W.Frag} {h : Heap} {mg : Str → Option Value} {fa f1 f2 f3 f4 f5 f6 f7 f8 f9 f10 f11 f12 f13 f14 f15 f16 f17 C mpk mpo gi gb gn ga gr gs gt gm gu gc gf gd ge gp gk go : Addr} {mc : Value} {restk resto : List Value} (X0 : K.In h) (G : h.Ns mainGlobals mg) (hfa : mg "law" = some (.ref fa))
    {fd1 fd2 fd3 fd4 fd5 fd6 fd7 fd8 fd9 fd10 fd11 fd12 fd13 fd14 fd15 fd16 : FuncData}
    (D1 : Df K "is_whole" sWhole f1 fd1)
    (D2 : Df K "_as_poly" sAsPoly f2 fd2)
    (D3 : Df K "_sum_of" sSumOf f3 fd3)
    (D4 : Df K "_product_of" sProductOf f4 fd4)
    (D5 : Df K "_both" sBoth f5 fd5)
    (D6 : Df K "_exponent" sExponent f6 fd6)
    (D7 : Df K "_left_out" sLeftOut f7 fd7)
    (D8 : Df K "_worth" sWorth f8 fd8)
    (D9 : Df K "power_sum" sPowerSum f9 fd9)
    (D10 : Df K "_partitions" sPartitions f10 fd10)
    (D11 : Df K "summed" sSummed f11 fd11)
    (D12 : Df K "_law_draw" sDraw f12 fd12)
    (D13 : Df K "_law_poly" sLPoly f13 fd13)
    (D14 : Df K "_law_value" sLValue f14 fd14)
    (D15 : Df K "_law_equal" sLEqual f15 fd15)
    (D16 : Df K "_law_same" sLSame f16 fd16)
    {od an : Option Addr} {sl : Array (Option Value)} {oc kV dc pm cd ct : Value}
    (aL : PySem.W.nsIn K mainGlobals "law" = some (some (.ref f17))) (lL : K.lookup f17 = some ⟨oc, od, .func (PySem.W.fnOf "law" "law" (defArgs sLaw) (defBody sLaw) (defScope sLaw) .none kV dc pm an cd ct), sl⟩) (cL : PySem.W.codeIn K cd "law" = true) (kL : PySem.W.keepIn K (.ref f17) = true)
    (z_isi : PySem.W.nsIn K mainGlobals "isinstance" = some none)
    (z_int : PySem.W.nsIn K mainGlobals "int" = some none)
    (z_bool : PySem.W.nsIn K mainGlobals "bool" = some none)
    (z_str : PySem.W.nsIn K mainGlobals "str" = some none)
    (z_tuple : PySem.W.nsIn K mainGlobals "tuple" = some none)
    (z_list : PySem.W.nsIn K mainGlobals "list" = some none)
    (z_len : PySem.W.nsIn K mainGlobals "len" = some none)
    (z_enum : PySem.W.nsIn K mainGlobals "enumerate" = some none)
    (z_range : PySem.W.nsIn K mainGlobals "range" = some none)
    (z_all : PySem.W.nsIn K mainGlobals "all" = some none)
    (z_dict : PySem.W.nsIn K mainGlobals "dict" = some none)
    (z_sorted : PySem.W.nsIn K mainGlobals "sorted" = some none)
    (z_abs : PySem.W.nsIn K mainGlobals "abs" = some none)
    (z_max : PySem.W.nsIn K mainGlobals "max" = some none)
    (z_set : PySem.W.nsIn K mainGlobals "set" = some none)
    (z_zip : PySem.W.nsIn K mainGlobals "zip" = some none)
    (zg : PySem.W.nsIn K mainGlobals "gcd" = some (some (.builtin "math.gcd")))
    (cC : PySem.W.nsIn K mainGlobals "Poly" = some (some (.ref C)))
    (pg : PySem.W.plainGet K C Str.empty = true)
    (hd : PySem.W.hasDictIn K C = true)
    (po : PySem.W.plainOver K C = true)
    (sa : PySem.W.findIn K (.ref C) "__setattr__" = some (some (.builtin "object.__setattr__")))
    (mk : PySem.W.makesIn K C = true)
    (kc : PySem.W.keepIn K (.ref C) = true)
    (nT : PySem.W.findIn K (.ref C) "terms" = some none)
    (nB : PySem.W.findIn K (.ref C) "below" = some none)
    (sf : PySem.W.selfFirst K C = true)
    (ty : PySem.W.typeIn K (.ref C) = some mc)
    (rd : PySem.W.readsIn K C mc = true)
    (rg : PySem.W.specialIn K (.ref C) "__getattribute__" = some (some (.builtin "type.__getattribute__")))
    (xc : PySem.W.findIn K (.ref C) "__class__" = some (some (.builtin "object.__class__")))
    (xs : PySem.W.specialIn K (.builtin "object.__class__") "__get__" = some (some (.builtin "getset_descriptor.__get__")))
    (xt : PySem.W.takesIn K (.builtin "object.__class__") = some true)
    (xm : PySem.W.mroIn K C (.type "object") = some true)
    (ko : PySem.W.kitOne K (.ref C) (.ref C) = some true)
    (ki : PySem.W.kitOne K (.type "int") (.ref C) = some false)
    (s1 : PySem.W.subIn K (.ref C) (.type "int") = some false)
    (s2 : PySem.W.subIn K (.type "int") (.ref C) = some false)
    (wi_ : PySem.W.findIn K (.ref C) "__init__" = some (some (.ref gi)))
    (wb_ : PySem.W.findIn K (.ref C) "__bool__" = some (some (.ref gb)))
    (wn_ : PySem.W.findIn K (.ref C) "__neg__" = some (some (.ref gn)))
    (wa_ : PySem.W.findIn K (.ref C) "__add__" = some (some (.ref ga)))
    (wr_ : PySem.W.findIn K (.ref C) "__radd__" = some (some (.ref gr)))
    (ws_ : PySem.W.findIn K (.ref C) "__sub__" = some (some (.ref gs)))
    (wt_ : PySem.W.findIn K (.ref C) "__rsub__" = some (some (.ref gt)))
    (wm_ : PySem.W.findIn K (.ref C) "__mul__" = some (some (.ref gm)))
    (wu_ : PySem.W.findIn K (.ref C) "__rmul__" = some (some (.ref gu)))
    (wc_ : PySem.W.findIn K (.ref C) "__call__" = some (some (.ref gc)))
    (wf_ : PySem.W.findIn K (.ref C) "fraction" = some (some (.ref gf)))
    (wd_ : PySem.W.findIn K (.ref C) "degree" = some (some (.ref gd)))
    (we_ : PySem.W.findIn K (.ref C) "coefficient" = some (some (.ref ge)))
    (wp_ : PySem.W.findIn K (.ref C) "put" = some (some (.ref gp)))
    (wk_ : PySem.W.findCls K (.ref C) mc "constant" = some (.get (.builtin "classmethod.__get__") (.ref mpk) .none (.ref C)))
    (rck : PySem.W.recIn K mpk "classmethod" = some (.ref gk :: restk))
    (fik : PySem.W.fnIn K gk = true)
    (wo_ : PySem.W.findCls K (.ref C) mc "of" = some (.get (.builtin "classmethod.__get__") (.ref mpo) .none (.ref C)))
    (rco : PySem.W.recIn K mpo "classmethod" = some (.ref go :: resto))
    (fio : PySem.W.fnIn K go = true)
    {odi ani : Option Addr} {sli : Array (Option Value)} {oci kVi dci pmi cdi cti : Value}
    (l_i : K.lookup gi = some ⟨oci, odi, .func (PySem.W.fnOf "__init__" "Poly.__init__" (defArgs sPInit) (defBody sPInit) (defScope sPInit) .none kVi dci pmi ani cdi cti), sli⟩)
    (c_i : PySem.W.codeIn K cdi "Poly.__init__" = true)
    (k_i : PySem.W.keepIn K (.ref gi) = true)
    (i_i : PySem.W.isFn K (.ref gi) = true)
    {odb anb : Option Addr} {slb : Array (Option Value)} {ocb kVb dcb pmb cdb ctb : Value}
    (l_b : K.lookup gb = some ⟨ocb, odb, .func (PySem.W.fnOf "__bool__" "Poly.__bool__" (defArgs sPBool) (defBody sPBool) (defScope sPBool) .none kVb dcb pmb anb cdb ctb), slb⟩)
    (c_b : PySem.W.codeIn K cdb "Poly.__bool__" = true)
    (k_b : PySem.W.keepIn K (.ref gb) = true)
    (i_b : PySem.W.isFn K (.ref gb) = true)
    {odn ann : Option Addr} {sln : Array (Option Value)} {ocn kVn dcn pmn cdn ctn : Value}
    (l_n : K.lookup gn = some ⟨ocn, odn, .func (PySem.W.fnOf "__neg__" "Poly.__neg__" (defArgs sPNeg) (defBody sPNeg) (defScope sPNeg) .none kVn dcn pmn ann cdn ctn), sln⟩)
    (c_n : PySem.W.codeIn K cdn "Poly.__neg__" = true)
    (k_n : PySem.W.keepIn K (.ref gn) = true)
    (i_n : PySem.W.isFn K (.ref gn) = true)
    {oda ana : Option Addr} {sla : Array (Option Value)} {oca kVa dca pma cda cta : Value}
    (l_a : K.lookup ga = some ⟨oca, oda, .func (PySem.W.fnOf "__add__" "Poly.__add__" (defArgs sPAdd) (defBody sPAdd) (defScope sPAdd) .none kVa dca pma ana cda cta), sla⟩)
    (c_a : PySem.W.codeIn K cda "Poly.__add__" = true)
    (k_a : PySem.W.keepIn K (.ref ga) = true)
    (i_a : PySem.W.isFn K (.ref ga) = true)
    {odr anr : Option Addr} {slr : Array (Option Value)} {ocr kVr dcr pmr cdr ctr : Value}
    (l_r : K.lookup gr = some ⟨ocr, odr, .func (PySem.W.fnOf "__radd__" "Poly.__radd__" (defArgs sPRAdd) (defBody sPRAdd) (defScope sPRAdd) .none kVr dcr pmr anr cdr ctr), slr⟩)
    (c_r : PySem.W.codeIn K cdr "Poly.__radd__" = true)
    (k_r : PySem.W.keepIn K (.ref gr) = true)
    (i_r : PySem.W.isFn K (.ref gr) = true)
    {ods ans : Option Addr} {sls : Array (Option Value)} {ocs kVs dcs pms cds cts : Value}
    (l_s : K.lookup gs = some ⟨ocs, ods, .func (PySem.W.fnOf "__sub__" "Poly.__sub__" (defArgs sPSub) (defBody sPSub) (defScope sPSub) .none kVs dcs pms ans cds cts), sls⟩)
    (c_s : PySem.W.codeIn K cds "Poly.__sub__" = true)
    (k_s : PySem.W.keepIn K (.ref gs) = true)
    (i_s : PySem.W.isFn K (.ref gs) = true)
    {odt ant : Option Addr} {slt : Array (Option Value)} {oct kVt dct pmt cdt ctt : Value}
    (l_t : K.lookup gt = some ⟨oct, odt, .func (PySem.W.fnOf "__rsub__" "Poly.__rsub__" (defArgs sPRSub) (defBody sPRSub) (defScope sPRSub) .none kVt dct pmt ant cdt ctt), slt⟩)
    (c_t : PySem.W.codeIn K cdt "Poly.__rsub__" = true)
    (k_t : PySem.W.keepIn K (.ref gt) = true)
    (i_t : PySem.W.isFn K (.ref gt) = true)
    {odm anm : Option Addr} {slm : Array (Option Value)} {ocm kVm dcm pmm cdm ctm : Value}
    (l_m : K.lookup gm = some ⟨ocm, odm, .func (PySem.W.fnOf "__mul__" "Poly.__mul__" (defArgs sPMul) (defBody sPMul) (defScope sPMul) .none kVm dcm pmm anm cdm ctm), slm⟩)
    (c_m : PySem.W.codeIn K cdm "Poly.__mul__" = true)
    (k_m : PySem.W.keepIn K (.ref gm) = true)
    (i_m : PySem.W.isFn K (.ref gm) = true)
    {odu anu : Option Addr} {slu : Array (Option Value)} {ocu kVu dcu pmu cdu ctu : Value}
    (l_u : K.lookup gu = some ⟨ocu, odu, .func (PySem.W.fnOf "__rmul__" "Poly.__rmul__" (defArgs sPRMul) (defBody sPRMul) (defScope sPRMul) .none kVu dcu pmu anu cdu ctu), slu⟩)
    (c_u : PySem.W.codeIn K cdu "Poly.__rmul__" = true)
    (k_u : PySem.W.keepIn K (.ref gu) = true)
    (i_u : PySem.W.isFn K (.ref gu) = true)
    {odc anc : Option Addr} {slc : Array (Option Value)} {occ kVc dcc pmc cdc ctc : Value}
    (l_c : K.lookup gc = some ⟨occ, odc, .func (PySem.W.fnOf "__call__" "Poly.__call__" (defArgs sPCall) (defBody sPCall) (defScope sPCall) .none kVc dcc pmc anc cdc ctc), slc⟩)
    (c_c : PySem.W.codeIn K cdc "Poly.__call__" = true)
    (k_c : PySem.W.keepIn K (.ref gc) = true)
    (i_c : PySem.W.isFn K (.ref gc) = true)
    {odf anf : Option Addr} {slf : Array (Option Value)} {ocf kVf dcf pmf cdf ctf : Value}
    (l_f : K.lookup gf = some ⟨ocf, odf, .func (PySem.W.fnOf "fraction" "Poly.fraction" (defArgs sPFraction) (defBody sPFraction) (defScope sPFraction) .none kVf dcf pmf anf cdf ctf), slf⟩)
    (c_f : PySem.W.codeIn K cdf "Poly.fraction" = true)
    (k_f : PySem.W.keepIn K (.ref gf) = true)
    (i_f : PySem.W.isFn K (.ref gf) = true)
    {odd and : Option Addr} {sld : Array (Option Value)} {ocd kVd dcd pmd cdd ctd : Value}
    (l_d : K.lookup gd = some ⟨ocd, odd, .func (PySem.W.fnOf "degree" "Poly.degree" (defArgs sPDegree) (defBody sPDegree) (defScope sPDegree) .none kVd dcd pmd and cdd ctd), sld⟩)
    (c_d : PySem.W.codeIn K cdd "Poly.degree" = true)
    (k_d : PySem.W.keepIn K (.ref gd) = true)
    (i_d : PySem.W.isFn K (.ref gd) = true)
    {ode ane : Option Addr} {sle : Array (Option Value)} {oce kVe dce pme cde cte : Value}
    (l_e : K.lookup ge = some ⟨oce, ode, .func (PySem.W.fnOf "coefficient" "Poly.coefficient" (defArgs sPCoefficient) (defBody sPCoefficient) (defScope sPCoefficient) .none kVe dce pme ane cde cte), sle⟩)
    (c_e : PySem.W.codeIn K cde "Poly.coefficient" = true)
    (k_e : PySem.W.keepIn K (.ref ge) = true)
    (i_e : PySem.W.isFn K (.ref ge) = true)
    {odp anp : Option Addr} {slp : Array (Option Value)} {ocp kVp dcp pmp cdp ctp : Value}
    (l_p : K.lookup gp = some ⟨ocp, odp, .func (PySem.W.fnOf "put" "Poly.put" (defArgs sPPut) (defBody sPPut) (defScope sPPut) .none kVp dcp pmp anp cdp ctp), slp⟩)
    (c_p : PySem.W.codeIn K cdp "Poly.put" = true)
    (k_p : PySem.W.keepIn K (.ref gp) = true)
    (i_p : PySem.W.isFn K (.ref gp) = true)
    {odk ank : Option Addr} {slk : Array (Option Value)} {ock kVk dVk dck pmk cdk ctk : Value}
    (l_k : K.lookup gk = some ⟨ock, odk, .func (PySem.W.fnOf "constant" "Poly.constant" (defArgs sPConst) (defBody sPConst) (defScope sPConst) dVk kVk dck pmk ank cdk ctk), slk⟩)
    (c_k : PySem.W.codeIn K cdk "Poly.constant" = true)
    (k_k : PySem.W.keepIn K (.ref gk) = true)
    (dfk : He.dflB K dVk [V.int 1] = true)
    {odo ano : Option Addr} {slo : Array (Option Value)} {oco kVo dVo dco pmo cdo cto : Value}
    (l_o : K.lookup go = some ⟨oco, odo, .func (PySem.W.fnOf "of" "Poly.of" (defArgs sPOf) (defBody sPOf) (defScope sPOf) dVo kVo dco pmo ano cdo cto), slo⟩)
    (c_o : PySem.W.codeIn K cdo "Poly.of" = true)
    (k_o : PySem.W.keepIn K (.ref go) = true)
    (dfo : He.dflB K dVo [V.int 0] = true)
    (fic : PySem.W.fnIn K gc = true)
    : ∃ fd : FuncData, (∀ (s : Shared) (v : Value), BindsTo s fd ⟨[v], []⟩ [("script", v)]) ∧ ∀ base : Heap, K.In base → base.Ns mainGlobals mg → FnOk l.prog w K mg base CX0 8 fa fd ["script"] (spLaw K) := by
  have e := hfa.symm.trans (PySem.W.mg_of X0 G aL)
  cases e
  have T : Blt mg := ⟨PySem.W.mg_none_of X0 G z_isi, PySem.W.mg_none_of X0 G z_int, PySem.W.mg_none_of X0 G z_bool, PySem.W.mg_none_of X0 G z_str, PySem.W.mg_none_of X0 G z_tuple, PySem.W.mg_none_of X0 G z_list, PySem.W.mg_none_of X0 G z_len, PySem.W.mg_none_of X0 G z_enum, PySem.W.mg_none_of X0 G z_range, PySem.W.mg_none_of X0 G z_all⟩
  have U : BltP mg := ⟨PySem.W.mg_none_of X0 G z_dict, PySem.W.mg_none_of X0 G z_sorted, PySem.W.mg_none_of X0 G z_abs, PySem.W.mg_none_of X0 G z_max, PySem.W.mg_none_of X0 G z_set, PySem.W.mg_none_of X0 G z_zip, PySem.W.mg_of X0 G zg⟩
  have Fi := fun_mk (st := sPInit) l_i c_i k_i
  have bi := Fi.binds (ps := ["self", "terms", "below"]) fun _ _ _ _ _ _ us hl => match us, hl with | [_, _, _], _ => rfl
  have Mi : Meth K C "__init__" gi := ⟨wi_, i_i, k_i⟩
  have Fb := fun_mk (st := sPBool) l_b c_b k_b
  have bb := Fb.binds (ps := ["self"]) fun _ _ _ _ _ _ us hl => match us, hl with | [_], _ => rfl
  have Mb : Meth K C "__bool__" gb := ⟨wb_, i_b, k_b⟩
  have Fn := fun_mk (st := sPNeg) l_n c_n k_n
  have bn := Fn.binds (ps := ["self"]) fun _ _ _ _ _ _ us hl => match us, hl with | [_], _ => rfl
  have Mn : Meth K C "__neg__" gn := ⟨wn_, i_n, k_n⟩
  have Fa := fun_mk (st := sPAdd) l_a c_a k_a
  have ba := Fa.binds (ps := ["self", "other"]) fun _ _ _ _ _ _ us hl => match us, hl with | [_, _], _ => rfl
  have Ma : Meth K C "__add__" ga := ⟨wa_, i_a, k_a⟩
  have Fr := fun_mk (st := sPRAdd) l_r c_r k_r
  have br := Fr.binds (ps := ["self", "other"]) fun _ _ _ _ _ _ us hl => match us, hl with | [_, _], _ => rfl
  have Mr : Meth K C "__radd__" gr := ⟨wr_, i_r, k_r⟩
  have Fs := fun_mk (st := sPSub) l_s c_s k_s
  have bs := Fs.binds (ps := ["self", "other"]) fun _ _ _ _ _ _ us hl => match us, hl with | [_, _], _ => rfl
  have Ms : Meth K C "__sub__" gs := ⟨ws_, i_s, k_s⟩
  have Ft := fun_mk (st := sPRSub) l_t c_t k_t
  have bt := Ft.binds (ps := ["self", "other"]) fun _ _ _ _ _ _ us hl => match us, hl with | [_, _], _ => rfl
  have Mt : Meth K C "__rsub__" gt := ⟨wt_, i_t, k_t⟩
  have Fm := fun_mk (st := sPMul) l_m c_m k_m
  have bm := Fm.binds (ps := ["self", "other"]) fun _ _ _ _ _ _ us hl => match us, hl with | [_, _], _ => rfl
  have Mm : Meth K C "__mul__" gm := ⟨wm_, i_m, k_m⟩
  have Fu := fun_mk (st := sPRMul) l_u c_u k_u
  have bu := Fu.binds (ps := ["self", "other"]) fun _ _ _ _ _ _ us hl => match us, hl with | [_, _], _ => rfl
  have Mu : Meth K C "__rmul__" gu := ⟨wu_, i_u, k_u⟩
  have Fc := fun_mk (st := sPCall) l_c c_c k_c
  have bc := Fc.binds (ps := ["self", "point"]) fun _ _ _ _ _ _ us hl => match us, hl with | [_, _], _ => rfl
  have Mc : Meth K C "__call__" gc := ⟨wc_, i_c, k_c⟩
  have Ff := fun_mk (st := sPFraction) l_f c_f k_f
  have bf := Ff.binds (ps := ["self", "point"]) fun _ _ _ _ _ _ us hl => match us, hl with | [_, _], _ => rfl
  have Mf : Meth K C "fraction" gf := ⟨wf_, i_f, k_f⟩
  have Fd := fun_mk (st := sPDegree) l_d c_d k_d
  have bd := Fd.binds (ps := ["self", "name"]) fun _ _ _ _ _ _ us hl => match us, hl with | [_, _], _ => rfl
  have Md : Meth K C "degree" gd := ⟨wd_, i_d, k_d⟩
  have Fe := fun_mk (st := sPCoefficient) l_e c_e k_e
  have be := Fe.binds (ps := ["self", "name", "many"]) fun _ _ _ _ _ _ us hl => match us, hl with | [_, _, _], _ => rfl
  have Me : Meth K C "coefficient" ge := ⟨we_, i_e, k_e⟩
  have Fp := fun_mk (st := sPPut) l_p c_p k_p
  have bp := Fp.binds (ps := ["self", "name", "other"]) fun _ _ _ _ _ _ us hl => match us, hl with | [_, _, _], _ => rfl
  have Mp : Meth K C "put" gp := ⟨wp_, i_p, k_p⟩
  have Fk : FunD K "constant" "Poly.constant" (defArgs sPConst) (defBody sPConst) (defScope sPConst) [V.int 1] [] gk _ := ⟨⟨_, _, _, _, _, _, _, _, _, _, rfl, l_k, c_k, He.dflB_ok dfk, .inl rfl⟩, k_k⟩
  obtain ⟨d0k, v0k, bbk⟩ := FunD.binds1 (ps := ["cls", "above", "below"]) Fk 3 1 (by simp) rfl fun T kV doc pm an cdv ct us its hl1 hl2 => match us, its, hl1, hl2 with | [_, _, _], [_], _, _ => ⟨_, rfl, rfl⟩
  cases v0k
  obtain ⟨d1k, v1k, bck⟩ := FunD.binds1 (ps := ["cls", "above", "below"]) Fk 2 0 (by simp) rfl fun T kV doc pm an cdv ct us its hl1 hl2 => match us, its, hl1, hl2 with | [_, _], [_], _, _ => ⟨_, rfl, rfl⟩
  have Fo : FunD K "of" "Poly.of" (defArgs sPOf) (defBody sPOf) (defScope sPOf) [V.int 0] [] go _ := ⟨⟨_, _, _, _, _, _, _, _, _, _, rfl, l_o, c_o, He.dflB_ok dfo, .inl rfl⟩, k_o⟩
  obtain ⟨d0o, v0o, bbo⟩ := FunD.binds1 (ps := ["cls", "name", "shift"]) Fo 3 1 (by simp) rfl fun T kV doc pm an cdv ct us its hl1 hl2 => match us, its, hl1, hl2 with | [_, _, _], [_], _, _ => ⟨_, rfl, rfl⟩
  cases v0o
  obtain ⟨d1o, v1o, bco⟩ := FunD.binds1 (ps := ["cls", "name", "shift"]) Fo 2 0 (by simp) rfl fun T kV doc pm an cdv ct us its hl1 hl2 => match us, its, hl1, hl2 with | [_, _], [_], _, _ => ⟨_, rfl, rfl⟩
  have X : PTxt K mg C gi := ⟨⟨pg, hd, po, sa⟩, nT, nB, ⟨mk, wi_, i_i, kc⟩, PySem.W.mg_of X0 G cC⟩
  have Z : PIsi K C := ⟨⟨⟨pg, hd, po, sa⟩, xc, xs, xt, xm, ko⟩, ki⟩
  have Y : PCms K C mc mpk gk mpo go := ⟨⟨rd, rg⟩, ⟨wk_, ⟨_, rck⟩, fik⟩, ⟨wo_, ⟨_, rco⟩, fio⟩⟩
  have m1 := PySem.W.mg_of X0 G D1.ns
  have k1 := D1.fn.kp
  have b1 := D1.fn.binds (ps := ["thing"]) fun _ _ _ _ _ _ us hl => match us, hl with | [_], _ => rfl
  have m2 := PySem.W.mg_of X0 G D2.ns
  have k2 := D2.fn.kp
  have b2 := D2.fn.binds (ps := ["thing"]) fun _ _ _ _ _ _ us hl => match us, hl with | [_], _ => rfl
  have m3 := PySem.W.mg_of X0 G D3.ns
  have k3 := D3.fn.kp
  have b3 := D3.fn.binds (ps := ["one", "other"]) fun _ _ _ _ _ _ us hl => match us, hl with | [_, _], _ => rfl
  have m4 := PySem.W.mg_of X0 G D4.ns
  have k4 := D4.fn.kp
  have b4 := D4.fn.binds (ps := ["one", "other"]) fun _ _ _ _ _ _ us hl => match us, hl with | [_, _], _ => rfl
  have m5 := PySem.W.mg_of X0 G D5.ns
  have k5 := D5.fn.kp
  have b5 := D5.fn.binds (ps := ["first", "second"]) fun _ _ _ _ _ _ us hl => match us, hl with | [_, _], _ => rfl
  have m6 := PySem.W.mg_of X0 G D6.ns
  have k6 := D6.fn.kp
  have b6 := D6.fn.binds (ps := ["monomial", "name"]) fun _ _ _ _ _ _ us hl => match us, hl with | [_, _], _ => rfl
  have m7 := PySem.W.mg_of X0 G D7.ns
  have k7 := D7.fn.kp
  have b7 := D7.fn.binds (ps := ["monomial", "name"]) fun _ _ _ _ _ _ us hl => match us, hl with | [_, _], _ => rfl
  have m8 := PySem.W.mg_of X0 G D8.ns
  have k8 := D8.fn.kp
  have b8 := D8.fn.binds (ps := ["monomial", "point"]) fun _ _ _ _ _ _ us hl => match us, hl with | [_, _], _ => rfl
  have m9 := PySem.W.mg_of X0 G D9.ns
  have k9 := D9.fn.kp
  have b9 := D9.fn.binds (ps := ["many", "name"]) fun _ _ _ _ _ _ us hl => match us, hl with | [_, _], _ => rfl
  have m10 := PySem.W.mg_of X0 G D10.ns
  have k10 := D10.fn.kp
  have b10 := D10.fn.binds (ps := ["many"]) fun _ _ _ _ _ _ us hl => match us, hl with | [_], _ => rfl
  have m11 := PySem.W.mg_of X0 G D11.ns
  have k11 := D11.fn.kp
  have b11 := D11.fn.binds (ps := ["poly", "name", "low", "high"]) fun _ _ _ _ _ _ us hl => match us, hl with | [_, _, _, _], _ => rfl
  have m12 := PySem.W.mg_of X0 G D12.ns
  have k12 := D12.fn.kp
  have b12 := D12.fn.binds (ps := ["script", "at", "many"]) fun _ _ _ _ _ _ us hl => match us, hl with | [_, _, _], _ => rfl
  have m13 := PySem.W.mg_of X0 G D13.ns
  have k13 := D13.fn.kp
  have b13 := D13.fn.binds (ps := ["script", "at", "names", "most"]) fun _ _ _ _ _ _ us hl => match us, hl with | [_, _, _, _], _ => rfl
  have m14 := PySem.W.mg_of X0 G D14.ns
  have k14 := D14.fn.kp
  have b14 := D14.fn.binds (ps := ["terms", "names", "point"]) fun _ _ _ _ _ _ us hl => match us, hl with | [_, _, _], _ => rfl
  have m15 := PySem.W.mg_of X0 G D15.ns
  have k15 := D15.fn.kp
  have b15 := D15.fn.binds (ps := ["pair", "above", "below"]) fun _ _ _ _ _ _ us hl => match us, hl with | [_, _, _], _ => rfl
  have m16 := PySem.W.mg_of X0 G D16.ns
  have k16 := D16.fn.kp
  have b16 := D16.fn.binds (ps := ["one", "other"]) fun _ _ _ _ _ _ us hl => match us, hl with | [_, _], _ => rfl
  refine ⟨PySem.W.fnOf "law" "law" (defArgs sLaw) (defBody sLaw) (defScope sLaw) .none kV dc pm an cd ct, fun s v => .of_eq rfl, fun base _ _ => ?_⟩
  have G1 : FnOk l.prog w K mg base CX0 1 f1 fd1 ["thing"] spWhole := ok_whole D1.fn T
  have G6 : FnOk l.prog w K mg base CX0 1 f6 fd6 ["monomial", "name"] spExponent := ok_exponent D6.fn
  have G7 : FnOk l.prog w K mg base CX0 1 f7 fd7 ["monomial", "name"] spLeftOut := ok_leftout D7.fn T
  have G8 : FnOk l.prog w K mg base CX0 1 f8 fd8 ["monomial", "point"] spWorth := ok_worth D8.fn T
  have G5 : FnOk l.prog w K mg base CX0 1 f5 fd5 ["first", "second"] spBoth := ok_both D5.fn T U
  have Hi : FnOk l.prog w K mg base CX0 1 gi _ ["self", "terms", "below"] (spPInit l.prog w C) := ok_pinit Fi T U X
  have Hb : FnOk l.prog w K mg base CX0 1 gb _ ["self"] (spPBool l.prog w C) := ok_pbool Fb T X
  have Hk : FnOk l.prog w K mg base CX0 3 gk _ ["cls", "above", "below"] (spConst l.prog w C) := ok_pconst Fk X Hi bi
  have Ho : FnOk l.prog w K mg base CX0 3 go _ ["cls", "name", "shift"] (spOf l.prog w C) := ok_pof Fo X Hi bi
  have Rk1 : FnR l.prog w K mg base CX0 3 gk (spC1 l.prog w C) := Hk.raw bck v1k
  have Rk2 : FnR l.prog w K mg base CX0 3 gk (spConst l.prog w C) := raw0 Hk bbk
  have Ro1 : FnR l.prog w K mg base CX0 3 go (spOf1 l.prog w C) := Ho.raw bco v1o
  have Ro2 : FnR l.prog w K mg base CX0 3 go (spOf l.prog w C) := raw0 Ho bbo
  have Hn : FnOk l.prog w K mg base CX0 3 gn _ ["self"] (spNeg l.prog w C) := ok_pneg Fn X Hi bi
  have G3 : FnOk l.prog w K mg base CX0 3 f3 fd3 ["one", "other"] (spSum l.prog w C) := ok_sumof D3.fn X Hi bi
  have G4 : FnOk l.prog w K mg base CX0 3 f4 fd4 ["one", "other"] (spProd l.prog w C) := ok_productof D4.fn X Hi bi m5 k5 b5 G5
  have G2 : FnOk l.prog w K mg base CX0 4 f2 fd2 ["thing"] (spAsPoly l.prog w C) := ok_aspoly D2.fn T X Z Y m1 k1 b1 G1 Rk1
  have Rn := raw0 Hn bn
  have OI : OpsIn l.prog w K mg base C f2 f3 f4 gn fd2 fd3 fd4 := ⟨m2, k2, b2, G2, m3, k3, b3, G3, m4, k4, b4, G4⟩
  have Ha : FnOk l.prog w K mg base CX0 5 ga _ ["self", "other"] (spLin l.prog w C fun a b => a + b) := ok_padd Fa OI
  have Hr : FnOk l.prog w K mg base CX0 5 gr _ ["self", "other"] (spLin l.prog w C fun a b => b + a) := ok_pradd Fr OI
  have Hs : FnOk l.prog w K mg base CX0 5 gs _ ["self", "other"] (spLin l.prog w C fun a b => a - b) := ok_psub Fs OI wn_ i_n Rn
  have Ht : FnOk l.prog w K mg base CX0 5 gt _ ["self", "other"] (spLin l.prog w C fun a b => b - a) := ok_prsub Ft OI wn_ i_n Rn
  have Hm : FnOk l.prog w K mg base CX0 5 gm _ ["self", "other"] (spMul l.prog w C) := ok_pmul Fm OI
  have Hu : FnOk l.prog w K mg base CX0 5 gu _ ["self", "other"] (spMul l.prog w C) := ok_prmul Fu OI
  have OO : POps l.prog w K mg base C ga gr gs gt gm gu := ⟨num_mk (x := "__add__") (y := "__radd__") (by decide +kernel) (by decide +kernel) sf wa_ wr_ i_a i_r s1 s2, num_mk (x := "__sub__") (y := "__rsub__") (by decide +kernel) (by decide +kernel) sf ws_ wt_ i_s i_t s1 s2, num_mk (x := "__mul__") (y := "__rmul__") (by decide +kernel) (by decide +kernel) sf wm_ wu_ i_m i_u s1 s2, raw0 Ha ba, raw0 Hr br, raw0 Hs bs, raw0 Ht bt, raw0 Hm bm, raw0 Hu bu⟩
  have Hf : FnOk l.prog w K mg base CX0 2 gf _ ["self", "point"] (spFrac l.prog w C) := ok_pfrac Ff U X m8 k8 b8 G8
  have Hc : FnOk l.prog w K mg base CX0 3 gc _ ["self", "point"] (spPCall l.prog w C) := ok_pcall Fc X Mf bf Hf
  have Hd : FnOk l.prog w K mg base CX0 2 gd _ ["self", "name"] (spDeg l.prog w C) := ok_pdegree Fd U X m6 k6 b6 G6
  have He_ : FnOk l.prog w K mg base CX0 3 ge _ ["self", "name", "many"] (spCoef l.prog w C) := ok_pcoef Fe X Hi bi m6 k6 b6 G6 m7 k7 b7 G7
  have Hp : FnOk l.prog w K mg base CX0 6 gp _ ["self", "name", "other"] (spPut l.prog w C) := ok_pput Fp T X OO Hi bi Md bd Hd Me be He_
  have G12 : FnOk l.prog w K mg base CX0 1 f12 fd12 ["script", "at", "many"] (spDraw K) := ok_draw D12.fn T
  have LI : LawIn l.prog w K mg base C gk go f12 fd12 := ⟨Rk1, Rk2, Ro1, Ro2, m12, k12, b12, G12⟩
  have G10 : FnOk l.prog w K mg base CX0 1 f10 fd10 ["many"] spParts := ok_parts D10.fn T
  have G9 : FnOk l.prog w K mg base CX0 6 f9 fd9 ["many", "name"] (spPow l.prog w C) := ok_pow D9.fn T X Y OO Hi bi Rk2 Ro2 m10 k10 b10 G10
  have G11 : FnOk l.prog w K mg base CX0 7 f11 fd11 ["poly", "name", "low", "high"] (spSummed l.prog w C) := ok_summed D11.fn T X OO Hi bi m9 k9 b9 G9 wb_ i_b (raw0 Hb bb) Md bd Hd Me be He_ Mp bp Hp
  have G13 : FnOk l.prog w K mg base CX0 6 f13 fd13 ["script", "at", "names", "most"] (spLPoly l.prog w K C) := ok_lpoly D13.fn T U X Y OO LI
  have G14 : FnOk l.prog w K mg base CX0 1 f14 fd14 ["terms", "names", "point"] (spValue K) := ok_lvalue D14.fn T U
  have G15 : FnOk l.prog w K mg base CX0 1 f15 fd15 ["pair", "above", "below"] spEqual := ok_lequal D15.fn T U
  have G16 : FnOk l.prog w K mg base CX0 1 f16 fd16 ["one", "other"] (spSame l.prog w C) := ok_lsame D16.fn X
  exact ok_law (fun_mk (st := sLaw) lL cL kL) T U X Y OO LI ⟨⟨m13, k13, b13, G13⟩, ⟨m14, k14, b14, G14⟩, ⟨m15, k15, b15, G15⟩, ⟨m16, k16, b16, G16⟩, ⟨m9, k9, b9, G9⟩, ⟨m11, k11, b11, G11⟩, wb_, i_b, raw0 Hb bb, ⟨wc_, i_c, fic⟩, raw0 Hc bc, ⟨Mf, bf, Hf⟩, ⟨Md, bd, Hd⟩, ⟨Mp, bp, Hp⟩⟩
end Po
open PySem PySem.W PyProof.Rows
set_option maxHeartbeats 0 in
theorem PySem.Challenge.cw_loopsheds_k19_power_sums_holds : PySem.Challenge.rw_loopsheds_k19_power_sums.Holds := by
  w_on; o_law; k_head; (case hw => w_witness2)
  k_fill
  refine L2.walk_of (l := PySem.Challenge.rw_loopsheds_k19_power_sums) (n := 63) (k := 8) (x := "script") (CX := fun _ => L2.CX0) (sp := fun w => Po.spLaw _) rfl (by decide) rfl ⟨rfl, by decide, by decide⟩ (fun w h Y => PySem.W.kIn_of Y) ?F (fun _ _ a ns hl _ hS => ⟨a, rfl, ⟨ns, hS, hl⟩, fun _ _ => rfl⟩) (fun _ _ _ _ _ h => h)
  case F =>
    intro w mg fa h KX G hmg
    refine' Po.all_mk KX G hmg (Po.df_mk ?a1 ?l1 ?c1 ?k1) (Po.df_mk ?a2 ?l2 ?c2 ?k2) (Po.df_mk ?a3 ?l3 ?c3 ?k3) (Po.df_mk ?a4 ?l4 ?c4 ?k4) (Po.df_mk ?a5 ?l5 ?c5 ?k5) (Po.df_mk ?a6 ?l6 ?c6 ?k6) (Po.df_mk ?a7 ?l7 ?c7 ?k7) (Po.df_mk ?a8 ?l8 ?c8 ?k8) (Po.df_mk ?a9 ?l9 ?c9 ?k9) (Po.df_mk ?a10 ?l10 ?c10 ?k10) (Po.df_mk ?a11 ?l11 ?c11 ?k11) (Po.df_mk ?a12 ?l12 ?c12 ?k12) (Po.df_mk ?a13 ?l13 ?c13 ?k13) (Po.df_mk ?a14 ?l14 ?c14 ?k14) (Po.df_mk ?a15 ?l15 ?c15 ?k15) (Po.df_mk ?a16 ?l16 ?c16 ?k16) ?aL ?lL ?cL ?kL ?z_isi ?z_int ?z_bool ?z_str ?z_tuple ?z_list ?z_len ?z_enum ?z_range ?z_all ?z_dict ?z_sorted ?z_abs ?z_max ?z_set ?z_zip ?zg ?cC ?pg ?hd ?po ?sa ?mk ?kc ?nT ?nB ?sf ?ty ?rd ?rg ?xc ?xs ?xt ?xm ?ko ?ki ?s1 ?s2 ?wi_ ?wb_ ?wn_ ?wa_ ?wr_ ?ws_ ?wt_ ?wm_ ?wu_ ?wc_ ?wf_ ?wd_ ?we_ ?wp_ ?wk_ ?rck ?fik ?wo_ ?rco ?fio ?l_i ?c_i ?k_i ?i_i ?l_b ?c_b ?k_b ?i_b ?l_n ?c_n ?k_n ?i_n ?l_a ?c_a ?k_a ?i_a ?l_r ?c_r ?k_r ?i_r ?l_s ?c_s ?k_s ?i_s ?l_t ?c_t ?k_t ?i_t ?l_m ?c_m ?k_m ?i_m ?l_u ?c_u ?k_u ?i_u ?l_c ?c_c ?k_c ?i_c ?l_f ?c_f ?k_f ?i_f ?l_d ?c_d ?k_d ?i_d ?l_e ?c_e ?k_e ?i_e ?l_p ?c_p ?k_p ?i_p ?l_k ?c_k ?k_k ?dfk ?l_o ?c_o ?k_o ?dfo ?fic
    (case a1 => k_is)
    (case l1 => k_is)
    (case c1 => k_is)
    (case k1 => k_is)
    (case a2 => k_is)
    (case l2 => k_is)
    (case c2 => k_is)
    (case k2 => k_is)
    (case a3 => k_is)
    (case l3 => k_is)
    (case c3 => k_is)
    (case k3 => k_is)
    (case a4 => k_is)
    (case l4 => k_is)
    (case c4 => k_is)
    (case k4 => k_is)
    (case a5 => k_is)
    (case l5 => k_is)
    (case c5 => k_is)
    (case k5 => k_is)
    (case a6 => k_is)
    (case l6 => k_is)
    (case c6 => k_is)
    (case k6 => k_is)
    (case a7 => k_is)
    (case l7 => k_is)
    (case c7 => k_is)
    (case k7 => k_is)
    (case a8 => k_is)
    (case l8 => k_is)
    (case c8 => k_is)
    (case k8 => k_is)
    (case a9 => k_is)
    (case l9 => k_is)
    (case c9 => k_is)
    (case k9 => k_is)
    (case a10 => k_is)
    (case l10 => k_is)
    (case c10 => k_is)
    (case k10 => k_is)
    (case a11 => k_is)
    (case l11 => k_is)
    (case c11 => k_is)
    (case k11 => k_is)
    (case a12 => k_is)
    (case l12 => k_is)
    (case c12 => k_is)
    (case k12 => k_is)
    (case a13 => k_is)
    (case l13 => k_is)
    (case c13 => k_is)
    (case k13 => k_is)
    (case a14 => k_is)
    (case l14 => k_is)
    (case c14 => k_is)
    (case k14 => k_is)
    (case a15 => k_is)
    (case l15 => k_is)
    (case c15 => k_is)
    (case k15 => k_is)
    (case a16 => k_is)
    (case l16 => k_is)
    (case c16 => k_is)
    (case k16 => k_is)
    (case aL => k_is)
    (case lL => k_is)
    (case cL => k_is)
    (case kL => k_is)
    (case z_isi => k_is)
    (case z_int => k_is)
    (case z_bool => k_is)
    (case z_str => k_is)
    (case z_tuple => k_is)
    (case z_list => k_is)
    (case z_len => k_is)
    (case z_enum => k_is)
    (case z_range => k_is)
    (case z_all => k_is)
    (case z_dict => k_is)
    (case z_sorted => k_is)
    (case z_abs => k_is)
    (case z_max => k_is)
    (case z_set => k_is)
    (case z_zip => k_is)
    (case zg => k_is)
    (case cC => k_is)
    (case pg => k_is)
    (case hd => k_is)
    (case po => k_is)
    (case sa => k_is)
    (case mk => k_is)
    (case kc => k_is)
    (case nT => k_is)
    (case nB => k_is)
    (case sf => k_is)
    (case ty => k_is)
    (case rd => k_is)
    (case rg => k_is)
    (case xc => k_is)
    (case xs => k_is)
    (case xt => k_is)
    (case xm => k_is)
    (case ko => first | kit_is | k_is | rfl)
    (case ki => first | kit_is | k_is | rfl)
    (case s1 => first | rfl | k_is)
    (case s2 => first | rfl | k_is)
    (case wi_ => k_is)
    (case wb_ => k_is)
    (case wn_ => k_is)
    (case wa_ => k_is)
    (case wr_ => k_is)
    (case ws_ => k_is)
    (case wt_ => k_is)
    (case wm_ => k_is)
    (case wu_ => k_is)
    (case wc_ => k_is)
    (case wf_ => k_is)
    (case wd_ => k_is)
    (case we_ => k_is)
    (case wp_ => k_is)
    (case wk_ => k_is)
    (case rck => k_is)
    (case fik => k_is)
    (case wo_ => k_is)
    (case rco => k_is)
    (case fio => k_is)
    (case l_i => k_is)
    (case c_i => k_is)
    (case k_i => k_is)
    (case i_i => k_is)
    (case l_b => k_is)
    (case c_b => k_is)
    (case k_b => k_is)
    (case i_b => k_is)
    (case l_n => k_is)
    (case c_n => k_is)
    (case k_n => k_is)
    (case i_n => k_is)
    (case l_a => k_is)
    (case c_a => k_is)
    (case k_a => k_is)
    (case i_a => k_is)
    (case l_r => k_is)
    (case c_r => k_is)
    (case k_r => k_is)
    (case i_r => k_is)
    (case l_s => k_is)
    (case c_s => k_is)
    (case k_s => k_is)
    (case i_s => k_is)
    (case l_t => k_is)
    (case c_t => k_is)
    (case k_t => k_is)
    (case i_t => k_is)
    (case l_m => k_is)
    (case c_m => k_is)
    (case k_m => k_is)
    (case i_m => k_is)
    (case l_u => k_is)
    (case c_u => k_is)
    (case k_u => k_is)
    (case i_u => k_is)
    (case l_c => k_is)
    (case c_c => k_is)
    (case k_c => k_is)
    (case i_c => k_is)
    (case l_f => k_is)
    (case c_f => k_is)
    (case k_f => k_is)
    (case i_f => k_is)
    (case l_d => k_is)
    (case c_d => k_is)
    (case k_d => k_is)
    (case i_d => k_is)
    (case l_e => k_is)
    (case c_e => k_is)
    (case k_e => k_is)
    (case i_e => k_is)
    (case l_p => k_is)
    (case c_p => k_is)
    (case k_p => k_is)
    (case i_p => k_is)
    (case l_k => k_is)
    (case c_k => k_is)
    (case k_k => k_is)
    (case dfk => first | rfl | k_is | decide +kernel)
    (case l_o => k_is)
    (case c_o => k_is)
    (case k_o => k_is)
    (case dfo => first | rfl | k_is | decide +kernel)
    (case fic => k_is)
