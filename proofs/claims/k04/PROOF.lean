import PyProof.Rows.All
import Wide.All
import OpenK.AllK
import Wide.FinOn
import HandS.Base
import HandS.Call
import HandS.List
import HandS.Ends
import HandS.Words
import HandS.WordsList
import HandS.Set
import HandS.SetFor
import HandS.Strs
import HandS.SortOrd
import HandS.SortInts
import HandS.Evl
import HandS.Comp
import HandS.Dict
import HandS.Iter
import HandS.Text
import HandS.IsInst
import HandS.Conv
import HandS.Style
import HandS.Wide
import HandS.More
import HandS.Walk
import HandS.Zip
import HandS.Rev
import HandS.SortRule
import HandS.TupLe
import HandS.Codes
import HandS.RevRange
import PySem.Challenge.RW_benchpair_k04_answers_by_hand
set_option Elab.async false
set_option linter.all false
set_option maxRecDepth 100000
namespace Bp
/-- a thing: on bench 1, drying, on bench 2 -/
abbrev Th := Int × Int × Int
def Nn (t : Th) : Prop := 0 ≤ t.1 ∧ 0 ≤ t.2.1 ∧ 0 ≤ t.2.2
def th0 : Th := (0, 0, 0)
def turn (t : Th) : Th := (t.2.2, t.2.1, t.1)
def path (ts : List Th) (o : List Nat) : List Th := o.map fun c => ts.getD c th0
def A : List Th → Int
  | [] => 0
  | t :: r => t.1 + A r
def B : List Th → Int
  | [] => 0
  | t :: r => t.2.2 + B r
/-- the longest of all ways -/
def W : List Th → Int
  | [] => 0
  | t :: r => max (t.1 + t.2.1 + t.2.2 + B r) (t.1 + W r)
def mk2 : List Th → Int → Int → Int
  | [], _, g => g
  | t :: r, f, g => mk2 r (f + t.1) (max (f + t.1 + t.2.1) g + t.2.2)
theorem Nn.of_cons {t : Th} {r : List Th} (h : ∀ x ∈ t :: r, Nn x) : Nn t ∧ ∀ x ∈ r, Nn x :=
  ⟨h t List.mem_cons_self, fun x hx => h x (List.mem_cons_of_mem _ hx)⟩
theorem W_nn : ∀ {l : List Th}, (∀ x ∈ l, Nn x) → 0 ≤ B l ∧ 0 ≤ A l ∧ 0 ≤ W l ∧ B l ≤ W l
  | [], _ => ⟨Int.le_refl _, Int.le_refl _, Int.le_refl _, Int.le_refl _⟩
  | t :: r, h => by
    obtain ⟨⟨h1, h2, h3⟩, hr⟩ := Nn.of_cons h
    obtain ⟨i1, i2, i3, i4⟩ := W_nn hr
    show 0 ≤ t.2.2 + B r ∧ 0 ≤ t.1 + A r ∧ 0 ≤ max (t.1 + t.2.1 + t.2.2 + B r) (t.1 + W r) ∧ t.2.2 + B r ≤ max (t.1 + t.2.1 + t.2.2 + B r) (t.1 + W r)
    omega
theorem mk2_eq : ∀ (l : List Th) (f g : Int), (∀ x ∈ l, Nn x) → f ≤ g → mk2 l f g = max (g + B l) (f + W l)
  | [], f, g, _, hfg => by
    show g = max (g + 0) (f + 0)
    omega
  | t :: r, f, g, h, hfg => by
    obtain ⟨⟨h1, h2, h3⟩, hr⟩ := Nn.of_cons h
    have ih := mk2_eq r (f + t.1) (max (f + t.1 + t.2.1) g + t.2.2) hr (by omega)
    show mk2 r (f + t.1) (max (f + t.1 + t.2.1) g + t.2.2) = max (g + (t.2.2 + B r)) (f + max (t.1 + t.2.1 + t.2.2 + B r) (t.1 + W r))
    rw [ih]
    omega
theorem mk2_W {l : List Th} (h : ∀ x ∈ l, Nn x) : mk2 l 0 0 = W l := by
  rw [mk2_eq l 0 0 h (Int.le_refl _)]
  have := W_nn h
  omega
/-- the law's own reckoning -/
def ldS (s : Int × Int × Int) (t : Th) : Int × Int × Int := (s.1 + t.1, s.2.1 - t.2.2, max s.2.2 (s.1 + t.1 + t.2.1 + s.2.1))
theorem ld_eq : ∀ (l : List Th) (ah fo : Int), (∀ x ∈ l, Nn x) → ah ≤ fo → (l.foldl ldS (ah, B l, fo)).2.2 = max fo (ah + W l)
  | [], ah, fo, _, hfg => by
    show fo = max fo (ah + 0)
    omega
  | t :: r, ah, fo, h, hfg => by
    obtain ⟨⟨h1, h2, h3⟩, hr⟩ := Nn.of_cons h
    have hn := W_nn hr
    have ih := ld_eq r (ah + t.1) (max fo (ah + t.1 + t.2.1 + (t.2.2 + B r))) hr (by omega)
    show (r.foldl ldS (ah + t.1, t.2.2 + B r - t.2.2, max fo (ah + t.1 + t.2.1 + (t.2.2 + B r)))).2.2 = max fo (ah + max (t.1 + t.2.1 + t.2.2 + B r) (t.1 + W r))
    rw [show t.2.2 + B r - t.2.2 = B r by omega, ih]
    omega
theorem ld_W {l : List Th} (h : ∀ x ∈ l, Nn x) : (l.foldl ldS (0, B l, 0)).2.2 = W l := by
  rw [ld_eq l 0 0 h (Int.le_refl _)]
  have := W_nn h
  omega
theorem B_append (l m : List Th) : B (l ++ m) = B l + B m := by
  induction l with
  | nil => show B m = 0 + B m; omega
  | cons t r ih => show t.2.2 + B (r ++ m) = t.2.2 + B r + B m; rw [ih]; omega
theorem A_append (l m : List Th) : A (l ++ m) = A l + A m := by
  induction l with
  | nil => show A m = 0 + A m; omega
  | cons t r ih => show t.1 + A (r ++ m) = t.1 + A r + A m; rw [ih]; omega
theorem B_sum (l : List Th) : B l = (l.map fun t => t.2.2).sum := by
  induction l with
  | nil => rfl
  | cons t r ih => rw [List.map_cons, List.sum_cons, ← ih]; rfl
theorem W_snoc : ∀ (l : List Th) (t : Th), (∀ x ∈ l, Nn x) → Nn t → W (l ++ [t]) = max (W l + t.2.2) (A l + t.1 + t.2.1 + t.2.2)
  | [], t, _, ⟨h1, h2, h3⟩ => by
    show max (t.1 + t.2.1 + t.2.2 + 0) (t.1 + 0) = max (0 + t.2.2) (0 + t.1 + t.2.1 + t.2.2)
    omega
  | s :: r, t, h, ht => by
    obtain ⟨⟨h1, h2, h3⟩, hr⟩ := Nn.of_cons h
    have ih := W_snoc r t hr ht
    show max (s.1 + s.2.1 + s.2.2 + B (r ++ [t])) (s.1 + W (r ++ [t])) = max (max (s.1 + s.2.1 + s.2.2 + B r) (s.1 + W r) + t.2.2) (s.1 + A r + t.1 + t.2.1 + t.2.2)
    rw [ih, B_append, show B [t] = t.2.2 + 0 from rfl]
    omega
theorem Nn.turn {t : Th} (h : Nn t) : Nn (Bp.turn t) := ⟨h.2.2, h.2.1, h.1⟩
theorem A_turn_rev (l : List Th) : A (l.map turn).reverse = B l := by
  induction l with
  | nil => rfl
  | cons t r ih =>
    rw [List.map_cons, List.reverse_cons, A_append, ih]
    show B r + (t.2.2 + 0) = t.2.2 + B r
    omega
theorem W_turn : ∀ (l : List Th), (∀ x ∈ l, Nn x) → W (l.map turn).reverse = W l
  | [], _ => rfl
  | t :: r, h => by
    obtain ⟨ht, hr⟩ := Nn.of_cons h
    rw [List.map_cons, List.reverse_cons, W_snoc _ _ (fun x hx => by
      obtain ⟨y, hy, rfl⟩ := List.mem_map.mp (List.mem_reverse.mp hx)
      exact (hr y hy).turn) ht.turn, W_turn r hr, A_turn_rev]
    show max (W r + t.1) (B r + t.2.2 + t.2.1 + t.1) = max (t.1 + t.2.1 + t.2.2 + B r) (t.1 + W r)
    omega
theorem W_sub {l m : List Th} (s : l.Sublist m) : (∀ x ∈ m, Nn x) → W l ≤ W m ∧ B l ≤ B m := by
  induction s with
  | slnil => intro _; exact ⟨Int.le_refl _, Int.le_refl _⟩
  | @cons l m t s ih =>
    intro h
    obtain ⟨⟨h1, h2, h3⟩, hr⟩ := Nn.of_cons h
    obtain ⟨i1, i2⟩ := ih hr
    show W l ≤ max (t.1 + t.2.1 + t.2.2 + B m) (t.1 + W m) ∧ B l ≤ t.2.2 + B m
    omega
  | @cons_cons l m t s ih =>
    intro h
    obtain ⟨⟨h1, h2, h3⟩, hr⟩ := Nn.of_cons h
    obtain ⟨i1, i2⟩ := ih hr
    show max (t.1 + t.2.1 + t.2.2 + B l) (t.1 + W l) ≤ max (t.1 + t.2.1 + t.2.2 + B m) (t.1 + W m) ∧ t.2.2 + B l ≤ t.2.2 + B m
    omega
end Bp
namespace Bp
/-- a fold over the first i -/
theorem fold_more {α β : Type} {f : β → α → β} {b : β} {l : List α} {i : Nat} {x : α} (h : l[i]? = some x) : (l.take (i + 1)).foldl f b = f ((l.take i).foldl f b) x := by
  rw [List.take_add_one, h, List.foldl_append]
  rfl
/-- an order of n things -/
def Ord (n : Nat) (o : List Nat) : Prop := o.Perm (List.range n)
theorem Ord.len {n : Nat} {o : List Nat} (h : Ord n o) : o.length = n := by
  have := h.length_eq
  rwa [List.length_range] at this
theorem Ord.nd {n : Nat} {o : List Nat} (h : Ord n o) : o.Nodup := h.nodup_iff.mpr List.nodup_range
theorem Ord.lt {n : Nat} {o : List Nat} (h : Ord n o) {c : Nat} (hc : c ∈ o) : c < n := List.mem_range.mp (h.mem_iff.mp hc)
theorem Ord.mem {n : Nat} {o : List Nat} (h : Ord n o) {c : Nat} (hc : c < n) : c ∈ o := h.mem_iff.mpr (List.mem_range.mpr hc)
theorem Ord.range (n : Nat) : Ord n (List.range n) := List.Perm.refl _
theorem Ord.rev {n : Nat} {o : List Nat} (h : Ord n o) : Ord n o.reverse := (List.reverse_perm o).trans h
theorem Ord.ins {n : Nat} {o : List Nat} (h : Ord n o) {i : Nat} (hi : i ≤ o.length) : Ord (n + 1) (o.insertIdx i n) := by
  refine (List.perm_insertIdx n o hi).trans ?_
  refine (h.cons n).trans ?_
  rw [List.range_succ]
  exact (List.perm_append_singleton n (List.range n)).symm
/-- the counts above k one less -/
def shift (k c : Nat) : Nat := if k < c then c - 1 else c
def less (k : Nat) (o : List Nat) : List Nat := (o.filter fun c => c != k).map (shift k)
theorem less_range (n k : Nat) (hk : k < n + 1) : less k (List.range (n + 1)) = List.range n := by
  induction n with
  | zero =>
    obtain rfl : k = 0 := by omega
    rfl
  | succ n ih =>
    rw [List.range_succ]
    unfold less
    rw [List.filter_append, List.map_append]
    by_cases e : k = n + 1
    · subst e
      have h1 : (List.range (n + 1)).filter (fun c => c != n + 1) = List.range (n + 1) := by
        rw [List.filter_eq_self]
        intro a ha
        have := List.mem_range.mp ha
        simp; omega
      rw [h1]
      have h2 : List.filter (fun c => c != n + 1) [n + 1] = [] := by simp
      rw [h2, List.map_nil, List.append_nil]
      have : List.map (shift (n + 1)) (List.range (n + 1)) = List.map id (List.range (n + 1)) := List.map_congr_left fun a ha => by
        have := List.mem_range.mp ha
        unfold shift
        rw [if_neg (by omega)]
        rfl
      rw [this, List.map_id]
    · have ih' := ih (by omega)
      unfold less at ih'
      rw [ih', List.range_succ]
      have h2 : List.filter (fun c => c != k) [n + 1] = [n + 1] := by
        simp; omega
      rw [h2]
      have : List.map (shift k) [n + 1] = [n] := by
        show [shift k (n + 1)] = [n]
        unfold shift
        rw [if_pos (by omega)]
        rfl
      rw [this]
theorem Ord.less {n k : Nat} {o : List Nat} (h : Ord (n + 1) o) (hk : k < n + 1) : Ord n (Bp.less k o) := by
  have := (List.Perm.filter (fun c => c != k) h).map (shift k)
  unfold Ord
  rw [← less_range n k hk]
  exact this
theorem path_less (ts : List Th) (k : Nat) (o : List Nat) (hk : k < ts.length) : path (ts.take k ++ ts.drop (k + 1)) (Bp.less k o) = path ts (o.filter fun c => c != k) := by
  unfold path Bp.less
  rw [List.map_map]
  refine List.map_congr_left fun c hc => ?_
  have hck : c ≠ k := by
    have := (List.mem_filter.mp hc).2
    simpa using this
  show (ts.take k ++ ts.drop (k + 1)).getD (shift k c) th0 = ts.getD c th0
  unfold shift
  have hl : (ts.take k).length = k := by rw [List.length_take]; omega
  by_cases h : k < c
  · rw [if_pos h, List.getD_eq_getElem?_getD, List.getElem?_append_right (by omega), hl, List.getElem?_drop, List.getD_eq_getElem?_getD]
    rw [show k + 1 + (c - 1 - k) = c by omega]
  · rw [if_neg h, List.getD_eq_getElem?_getD, List.getElem?_append_left (by omega), List.getElem?_take_of_lt (by omega), List.getD_eq_getElem?_getD]
theorem path_sub (ts : List Th) {o p : List Nat} (s : o.Sublist p) : (path ts o).Sublist (path ts p) := s.map _
theorem path_turn (ts : List Th) (o : List Nat) (n : Nat) (hn : n = ts.length) (h : ∀ c ∈ o, c < n) : path (ts.map turn) o.reverse = ((path ts o).map turn).reverse := by
  unfold path
  rw [List.map_reverse, List.map_map]
  refine congrArg _ (List.map_congr_left fun c hc => ?_)
  have hl : c < ts.length := hn ▸ h c hc
  show (ts.map turn).getD c th0 = turn (ts.getD c th0)
  rw [List.getD_eq_getElem?_getD, List.getD_eq_getElem?_getD, List.getElem?_map, List.getElem?_eq_getElem hl]
  rfl
theorem path_nn {ts : List Th} (h : ∀ t ∈ ts, Nn t) (o : List Nat) : ∀ t ∈ path ts o, Nn t := by
  intro t ht
  obtain ⟨c, _, rfl⟩ := List.mem_map.mp ht
  show Nn (ts.getD c th0)
  rw [List.getD_eq_getElem?_getD]
  cases e : ts[c]? with
  | none => exact ⟨Int.le_refl _, Int.le_refl _, Int.le_refl _⟩
  | some t => exact h t (List.mem_of_getElem? e)
/-- going along: when each begins on either bench, bench 1 free, bench 2 free -/
abbrev Sg := List (Int × Int) × Int × Int
def stp (ts : List Th) (s : Sg) (c : Nat) : Sg :=
  let t := ts.getD c th0
  let h := max (s.2.1 + t.1 + t.2.1) s.2.2
  (s.1.set c (s.2.1, h), s.2.1 + t.1, h + t.2.2)
def sg0 (n : Nat) : Sg := (List.replicate n (0, 0), 0, 0)
def going (ts : List Th) (o : List Nat) : Sg := o.foldl (stp ts) (sg0 ts.length)
theorem stp_len (ts : List Th) : ∀ (o : List Nat) (s : Sg), (o.foldl (stp ts) s).1.length = s.1.length
  | [], _ => rfl
  | c :: r, s => by
    rw [List.foldl_cons, stp_len ts r]
    show (s.1.set c _).length = s.1.length
    exact List.length_set
theorem going_len (ts : List Th) (o : List Nat) : (going ts o).1.length = ts.length := by
  unfold going
  rw [stp_len]
  exact List.length_replicate
theorem stp_mk2 (ts : List Th) : ∀ (o : List Nat) (s : Sg), (o.foldl (stp ts) s).2.2 = mk2 (path ts o) s.2.1 s.2.2
  | [], _ => rfl
  | c :: r, s => stp_mk2 ts r (stp ts s c)
theorem going_W {ts : List Th} (h : ∀ t ∈ ts, Nn t) (o : List Nat) : (going ts o).2.2 = W (path ts o) := by
  unfold going
  rw [stp_mk2]
  exact mk2_W (path_nn h o)
/-- done, turned about -/
theorem W_turned {ts : List Th} (h : ∀ t ∈ ts, Nn t) {o : List Nat} (ho : Ord ts.length o) : W (path (ts.map turn) o.reverse) = W (path ts o) := by
  rw [path_turn ts o _ rfl (fun c hc => ho.lt hc)]
  exact W_turn _ (path_nn h o)
theorem W_less {ts : List Th} (h : ∀ t ∈ ts, Nn t) {o : List Nat} {k : Nat} (hk : k < ts.length) : W (path (ts.take k ++ ts.drop (k + 1)) (Bp.less k o)) ≤ W (path ts o) := by
  rw [path_less ts k o hk]
  exact (W_sub (path_sub ts (List.filter_sublist)) (path_nn h o)).1
/-- the marks of is_order -/
def mrk (m : List Bool) (o : List Nat) : List Bool := o.foldl (fun m c => m.set c true) m
theorem mrk_get : ∀ (o : List Nat) (m : List Bool) (c : Nat), c ∉ o → (mrk m o)[c]? = m[c]?
  | [], _, _, _ => rfl
  | d :: r, m, c, h => by
    have h1 : c ≠ d := fun e => h (e ▸ List.mem_cons_self)
    have h2 : c ∉ r := fun e => h (List.mem_cons_of_mem _ e)
    show (mrk (m.set d true) r)[c]? = m[c]?
    rw [mrk_get r _ c h2, List.getElem?_set_ne (Ne.symm h1)]
theorem mrk_len : ∀ (o : List Nat) (m : List Bool), (mrk m o).length = m.length
  | [], _ => rfl
  | d :: r, m => by
    show (mrk (m.set d true) r).length = m.length
    rw [mrk_len r, List.length_set]
theorem nd_take {o : List Nat} (h : o.Nodup) {i c : Nat} (hc : o[i]? = some c) : c ∉ o.take i := by
  intro hm
  obtain ⟨j, hj, e⟩ := List.mem_iff_getElem.mp hm
  have hj' : j < i ∧ j < o.length := by
    rw [List.length_take] at hj
    omega
  rw [List.getElem_take] at e
  obtain ⟨hi, ei⟩ := List.getElem?_eq_some_iff.mp hc
  exact (List.pairwise_iff_getElem.mp h) j i hj'.2 hi hj'.1 (e.trans ei.symm)
theorem mrk_no {n : Nat} {o : List Nat} (h : Ord n o) {i c : Nat} (hc : o[i]? = some c) : (mrk (List.replicate n false) (o.take i))[c]? = some false := by
  rw [mrk_get _ _ _ (nd_take h.nd hc), List.getElem?_replicate, if_pos (h.lt (List.mem_of_getElem? hc))]
end Bp
namespace Bp
/-! ### bars: no order is done sooner than a bar's worth -/
/-- here and there: the lengths on the bar's bench and on the other one -/
def hereOf (bench : Int) (t : Th) : Int := if bench = 1 then t.1 else t.2.2
def thereOf (bench : Int) (t : Th) : Int := if bench = 1 then t.2.2 else t.1
/-- what the marked are long here, all others there -/
def Wsum : List (Bool × Th) → Int
  | [] => 0
  | x :: r => (if x.1 then x.2.1 else x.2.2.2) + Wsum r
theorem weak1 {L : Int} (hL : 0 ≤ L) : ∀ m : List (Bool × Th), (∀ x ∈ m, Nn x.2) → (∀ x ∈ m, x.1 = true → x.2.1 ≤ x.2.2.2) → (∀ x ∈ m, x.1 = false → x.2.1 + x.2.2.1 < L → x.2.2.2 ≤ x.2.1) →
    ((∃ x ∈ m, x.1 = false ∧ L ≤ x.2.1 + x.2.2.1) ∨ L = 0) → L + Wsum m ≤ W (m.map fun x => x.2)
  | [], _, _, _, h => by
    rcases h with ⟨x, hx, _⟩ | h
    · cases hx
    · show L + 0 ≤ 0
      omega
  | x :: r, hn, h1, h2, h3 => by
    have hr : ∀ y ∈ r, Nn y.2 := fun y hy => hn y (List.mem_cons_of_mem _ hy)
    have g1 : ∀ y ∈ r, y.1 = true → y.2.1 ≤ y.2.2.2 := fun y hy => h1 y (List.mem_cons_of_mem _ hy)
    have g2 : ∀ y ∈ r, y.1 = false → y.2.1 + y.2.2.1 < L → y.2.2.2 ≤ y.2.1 := fun y hy => h2 y (List.mem_cons_of_mem _ hy)
    have hnn : ∀ t ∈ r.map (fun y => y.2), Nn t := by
      intro t ht
      obtain ⟨y, hy, rfl⟩ := List.mem_map.mp ht
      exact hr y hy
    have hw := W_nn hnn
    have hx := hn x List.mem_cons_self
    obtain ⟨x1, x2, x3⟩ := hx
    have hB : ∀ s : List (Bool × Th), (∀ y ∈ s, y.1 = true → y.2.1 ≤ y.2.2.2) → Wsum s ≤ B (s.map fun y => y.2) := by
      intro s
      induction s with
      | nil => intro _; exact Int.le_refl _
      | cons y s ih =>
        intro hs
        have := ih fun z hz => hs z (List.mem_cons_of_mem _ hz)
        have hy := hs y List.mem_cons_self
        show (if y.1 then y.2.1 else y.2.2.2) + Wsum s ≤ y.2.2.2 + B (s.map fun y => y.2)
        cases e : y.1 with
        | true => have := hy e; simp only [if_true]; omega
        | false => simp only [Bool.false_eq_true, if_false]; omega
    have hBr := hB r g1
    show L + ((if x.1 then x.2.1 else x.2.2.2) + Wsum r) ≤ max (x.2.1 + x.2.2.1 + x.2.2.2 + B (r.map fun y => y.2)) (x.2.1 + W (r.map fun y => y.2))
    by_cases hc : x.1 = false ∧ L ≤ x.2.1 + x.2.2.1
    · rw [hc.1]
      simp only [Bool.false_eq_true, if_false]
      omega
    · have h3' : (∃ y ∈ r, y.1 = false ∧ L ≤ y.2.1 + y.2.2.1) ∨ L = 0 := by
        rcases h3 with ⟨y, hy, h⟩ | h
        · rcases List.mem_cons.mp hy with rfl | hy
          · exact absurd h hc
          · exact .inl ⟨y, hy, h⟩
        · exact .inr h
      have ih := weak1 hL r hr g1 g2 h3'
      cases e : x.1 with
      | true => simp only [if_true]; omega
      | false =>
        have : x.2.1 + x.2.2.1 < L := by
          rcases Int.lt_or_le (x.2.1 + x.2.2.1) L with h | h
          · exact h
          · exact absurd ⟨e, h⟩ hc
        have := h2 x List.mem_cons_self e this
        simp only [Bool.false_eq_true, if_false]
        omega
theorem Wsum_append (l m : List (Bool × Th)) : Wsum (l ++ m) = Wsum l + Wsum m := by
  induction l with
  | nil => show Wsum m = 0 + Wsum m; omega
  | cons x r ih => show (if x.1 then x.2.1 else x.2.2.2) + Wsum (r ++ m) = (if x.1 then x.2.1 else x.2.2.2) + Wsum r + Wsum m; rw [ih]; omega
theorem Wsum_perm {l m : List (Bool × Th)} (h : l.Perm m) : Wsum l = Wsum m := by
  induction h with
  | nil => rfl
  | cons x _ ih => show _ + _ = _ + _; rw [ih]
  | swap x y l =>
    show (if y.1 then y.2.1 else y.2.2.2) + ((if x.1 then x.2.1 else x.2.2.2) + Wsum l) = (if x.1 then x.2.1 else x.2.2.2) + ((if y.1 then y.2.1 else y.2.2.2) + Wsum l)
    omega
  | trans _ _ h1 h2 => exact h1.trans h2
/-- a thing on the benches as the bar names them -/
def facing (bench : Int) (t : Th) : Th := if bench = 1 then t else turn t
theorem facing_here (bench : Int) (t : Th) : (facing bench t).1 = hereOf bench t := by unfold facing hereOf; split <;> rfl
theorem facing_there (bench : Int) (t : Th) : (facing bench t).2.2 = thereOf bench t := by unfold facing thereOf; split <;> rfl
theorem facing_dry (bench : Int) (t : Th) : (facing bench t).2.1 = t.2.1 := by unfold facing; split <;> rfl
theorem facing_nn {bench : Int} {t : Th} (h : Nn t) : Nn (facing bench t) := by unfold facing; split; exact h; exact h.turn
/-- the marks of a bar over all things, by their counts -/
structure BarOk (ts : List Th) (bench : Int) (mk : Nat → Bool) (L : Int) : Prop where
  len : 0 ≤ L
  own : ∀ (c : Nat) (t : Th), ts[c]? = some t → mk c = true → hereOf bench t ≤ thereOf bench t
  oth : ∀ (c : Nat) (t : Th), ts[c]? = some t → mk c = false → hereOf bench t + t.2.1 < L → thereOf bench t ≤ hereOf bench t
  some_ : (∃ (c : Nat) (t : Th), ts[c]? = some t ∧ mk c = false ∧ L ≤ hereOf bench t + t.2.1) ∨ L = 0
def facingAt (ts : List Th) (bench : Int) (mk : Nat → Bool) (o : List Nat) : List (Bool × Th) := o.map fun c => (mk c, facing bench (ts.getD c th0))
/-- a bar's worth -/
def barWorth (ts : List Th) (bench : Int) (mk : Nat → Bool) (L : Int) : Int := L + Wsum (facingAt ts bench mk (List.range ts.length))
theorem getD_some {ts : List Th} {c : Nat} (h : c < ts.length) : ts[c]? = some (ts.getD c th0) := by
  rw [List.getD_eq_getElem?_getD, List.getElem?_eq_getElem h]
  rfl
theorem facing_path {ts : List Th} (hn : ∀ t ∈ ts, Nn t) (bench : Int) (mk : Nat → Bool) {o : List Nat} : (facingAt ts bench mk o).map (fun x => x.2) = (path ts o).map (facing bench) := by
  unfold facingAt path
  rw [List.map_map, List.map_map]
  rfl
/-- NO ORDER IS DONE SOONER THAN A BAR'S WORTH -/
theorem weak {ts : List Th} (hn : ∀ t ∈ ts, Nn t) {bench : Int} {mk : Nat → Bool} {L : Int} (h : BarOk ts bench mk L) {o : List Nat} (ho : Ord ts.length o) : barWorth ts bench mk L ≤ W (path ts o) := by
  have hg : ∀ c ∈ o, ts[c]? = some (ts.getD c th0) := fun c hc => getD_some (ho.lt hc)
  have key : ∀ p : List Nat, p.Perm o → L + Wsum (facingAt ts bench mk p) ≤ W ((facingAt ts bench mk p).map fun x => x.2) := by
    intro p hp
    have hgp : ∀ c ∈ p, ts[c]? = some (ts.getD c th0) := fun c hc => hg c (hp.mem_iff.mp hc)
    refine weak1 h.len _ ?_ ?_ ?_ ?_
    · intro x hx
      obtain ⟨c, hc, rfl⟩ := List.mem_map.mp hx
      exact facing_nn (hn _ (List.mem_of_getElem? (hgp c hc)))
    · intro x hx hm
      obtain ⟨c, hc, rfl⟩ := List.mem_map.mp hx
      show (facing bench (ts.getD c th0)).1 ≤ (facing bench (ts.getD c th0)).2.2
      rw [facing_here, facing_there]
      exact h.own c _ (hgp c hc) hm
    · intro x hx hm
      obtain ⟨c, hc, rfl⟩ := List.mem_map.mp hx
      show (facing bench (ts.getD c th0)).1 + (facing bench (ts.getD c th0)).2.1 < L → (facing bench (ts.getD c th0)).2.2 ≤ (facing bench (ts.getD c th0)).1
      rw [facing_here, facing_there, facing_dry]
      exact h.oth c _ (hgp c hc) hm
    · rcases h.some_ with ⟨c, t, hc, hm, hl⟩ | h0
      · have hcl : c < ts.length := (List.getElem?_eq_some_iff.mp hc).1
        have hcp : c ∈ p := hp.mem_iff.mpr (ho.mem hcl)
        have e : ts.getD c th0 = t := Option.some.inj ((getD_some hcl).symm.trans hc)
        refine .inl ⟨_, List.mem_map.mpr ⟨c, hcp, rfl⟩, hm, ?_⟩
        show L ≤ (facing bench (ts.getD c th0)).1 + (facing bench (ts.getD c th0)).2.1
        rw [facing_here, facing_dry, e]
        exact hl
      · exact .inr h0
  have hs : ∀ p : List Nat, p.Perm o → Wsum (facingAt ts bench mk p) = Wsum (facingAt ts bench mk (List.range ts.length)) := fun p hp => Wsum_perm ((hp.trans ho).map _)
  unfold barWorth
  by_cases hb : bench = 1
  · have := key o (List.Perm.refl _)
    rw [hs o (List.Perm.refl _), facing_path hn] at this
    have e : (path ts o).map (facing bench) = path ts o := by
      rw [show facing bench = id from funext fun t => by unfold facing; rw [if_pos hb]; rfl, List.map_id]
    rw [e] at this
    exact this
  · have hr := List.reverse_perm o
    have := key o.reverse hr
    rw [hs o.reverse hr, facing_path hn] at this
    have e : (path ts o.reverse).map (facing bench) = ((path ts o).map turn).reverse := by
      rw [show facing bench = turn from funext fun t => by unfold facing; rw [if_neg hb]]
      unfold path
      rw [List.map_reverse, List.map_reverse]
    rw [e, W_turn _ (path_nn hn o)] at this
    exact this
/-! ### ways: which thing is the one at which a longest way changes benches -/
theorem W_split : ∀ l : List Th, l ≠ [] → (∀ x ∈ l, Nn x) → ∃ p t q, l = p ++ t :: q ∧ W l = A p + t.1 + t.2.1 + t.2.2 + B q
  | [], h, _ => absurd rfl h
  | t :: r, _, hn => by
    obtain ⟨⟨h1, h2, h3⟩, hr⟩ := Nn.of_cons hn
    rcases Int.le_total (t.1 + W r) (t.1 + t.2.1 + t.2.2 + B r) with h | h
    · refine ⟨[], t, r, rfl, ?_⟩
      show max (t.1 + t.2.1 + t.2.2 + B r) (t.1 + W r) = 0 + t.1 + t.2.1 + t.2.2 + B r
      omega
    · cases r with
      | nil =>
        refine ⟨[], t, [], rfl, ?_⟩
        show max (t.1 + t.2.1 + t.2.2 + 0) (t.1 + 0) = 0 + t.1 + t.2.1 + t.2.2 + 0
        omega
      | cons u s =>
        obtain ⟨p, v, q, e, ew⟩ := W_split (u :: s) (by simp) hr
        refine ⟨t :: p, v, q, by rw [e]; rfl, ?_⟩
        show max (t.1 + t.2.1 + t.2.2 + B (u :: s)) (t.1 + W (u :: s)) = t.1 + A p + v.1 + v.2.1 + v.2.2 + B q
        omega
theorem W_ge : ∀ (p : List Th) (t : Th) (q : List Th), A p + t.1 + t.2.1 + t.2.2 + B q ≤ W (p ++ t :: q)
  | [], t, q => by
    show 0 + t.1 + t.2.1 + t.2.2 + B q ≤ max (t.1 + t.2.1 + t.2.2 + B q) (t.1 + W q)
    omega
  | s :: p, t, q => by
    have := W_ge p t q
    show s.1 + A p + t.1 + t.2.1 + t.2.2 + B q ≤ max (s.1 + s.2.1 + s.2.2 + B (p ++ t :: q)) (s.1 + W (p ++ t :: q))
    omega
end Bp
namespace Bp
theorem Wsum_mark1 (ts : List Th) (mk : Nat → Bool) : ∀ p : List Nat, (∀ c ∈ p, mk c = true) → Wsum (facingAt ts 1 mk p) = A (path ts p)
  | [], _ => rfl
  | c :: r, h => by
    have ih := Wsum_mark1 ts mk r fun x hx => h x (List.mem_cons_of_mem _ hx)
    show (if mk c then (facing 1 (ts.getD c th0)).1 else (facing 1 (ts.getD c th0)).2.2) + Wsum (facingAt ts 1 mk r) = (ts.getD c th0).1 + A (path ts r)
    rw [h c List.mem_cons_self, ih]
    rfl
theorem Wsum_none1 (ts : List Th) (mk : Nat → Bool) : ∀ p : List Nat, (∀ c ∈ p, mk c = false) → Wsum (facingAt ts 1 mk p) = B (path ts p)
  | [], _ => rfl
  | c :: r, h => by
    have ih := Wsum_none1 ts mk r fun x hx => h x (List.mem_cons_of_mem _ hx)
    show (if mk c then (facing 1 (ts.getD c th0)).1 else (facing 1 (ts.getD c th0)).2.2) + Wsum (facingAt ts 1 mk r) = (ts.getD c th0).2.2 + B (path ts r)
    rw [h c List.mem_cons_self, ih]
    rfl
theorem Wsum_mark2 (ts : List Th) (mk : Nat → Bool) : ∀ p : List Nat, (∀ c ∈ p, mk c = true) → Wsum (facingAt ts 2 mk p) = B (path ts p)
  | [], _ => rfl
  | c :: r, h => by
    have ih := Wsum_mark2 ts mk r fun x hx => h x (List.mem_cons_of_mem _ hx)
    show (if mk c then (facing 2 (ts.getD c th0)).1 else (facing 2 (ts.getD c th0)).2.2) + Wsum (facingAt ts 2 mk r) = (ts.getD c th0).2.2 + B (path ts r)
    rw [h c List.mem_cons_self, ih]
    rfl
theorem Wsum_none2 (ts : List Th) (mk : Nat → Bool) : ∀ p : List Nat, (∀ c ∈ p, mk c = false) → Wsum (facingAt ts 2 mk p) = A (path ts p)
  | [], _ => rfl
  | c :: r, h => by
    have ih := Wsum_none2 ts mk r fun x hx => h x (List.mem_cons_of_mem _ hx)
    show (if mk c then (facing 2 (ts.getD c th0)).1 else (facing 2 (ts.getD c th0)).2.2) + Wsum (facingAt ts 2 mk r) = (ts.getD c th0).1 + A (path ts r)
    rw [h c List.mem_cons_self, ih]
    rfl
theorem facingAt_append (ts : List Th) (bench : Int) (mk : Nat → Bool) (p q : List Nat) : facingAt ts bench mk (p ++ q) = facingAt ts bench mk p ++ facingAt ts bench mk q := by unfold facingAt; rw [List.map_append]
theorem Wsum_ord (ts : List Th) (bench : Int) (mk : Nat → Bool) {n : Nat} {o : List Nat} (ho : Ord n o) : Wsum (facingAt ts bench mk (List.range n)) = Wsum (facingAt ts bench mk o) := (Wsum_perm (ho.map _)).symm
/-- the thing at which a longest way changes benches gives a bar: those ahead of it, or those behind it -/
theorem bar_first {ts : List Th} (hn : ∀ t ∈ ts, Nn t) {p q : List Nat} {c : Nat} (ho : Ord ts.length (p ++ c :: q)) {mk : Nat → Bool} (hmk : ∀ x, mk x = true ↔ x ∈ p)
    (h1 : ∀ x ∈ p, (ts.getD x th0).1 ≤ (ts.getD x th0).2.2) (h2 : ∀ y ∈ q, (ts.getD y th0).2.2 ≤ (ts.getD y th0).1 ∨ (ts.getD c th0).1 + (ts.getD c th0).2.1 ≤ (ts.getD y th0).1 + (ts.getD y th0).2.1) :
    BarOk ts 1 mk ((ts.getD c th0).1 + (ts.getD c th0).2.1) ∧ barWorth ts 1 mk ((ts.getD c th0).1 + (ts.getD c th0).2.1) = A (path ts p) + (ts.getD c th0).1 + (ts.getD c th0).2.1 + (ts.getD c th0).2.2 + B (path ts q) := by
  have nd := ho.nd
  have hcl : c < ts.length := ho.lt (by simp)
  have hc := getD_some hcl
  have hcn := hn _ (List.mem_of_getElem? hc)
  have hno : ∀ x, x ∈ c :: q → mk x = false := fun x hx => by
    cases e : mk x with
    | false => rfl
    | true => exact absurd rfl ((List.nodup_append.mp nd).2.2 x ((hmk x).mp e) x hx)
  refine ⟨⟨by have := hcn.1; have := hcn.2.1; omega, fun x t hx hm => ?_, fun x t hx hm hl => ?_, .inl ⟨c, _, hc, hno c List.mem_cons_self, Int.le_refl _⟩⟩, ?_⟩
  · have hxl := (List.getElem?_eq_some_iff.mp hx).1
    have e : ts.getD x th0 = t := Option.some.inj ((getD_some hxl).symm.trans hx)
    have := h1 x ((hmk x).mp hm)
    rw [e] at this
    exact this
  · have hxl := (List.getElem?_eq_some_iff.mp hx).1
    have e : ts.getD x th0 = t := Option.some.inj ((getD_some hxl).symm.trans hx)
    have hxo := ho.mem hxl
    rcases List.mem_append.mp hxo with h | h
    · rw [(hmk x).mpr h] at hm
      cases hm
    · rcases List.mem_cons.mp h with rfl | h
      · rw [e] at hl
        exact absurd hl (Int.lt_irrefl _)
      · rcases h2 x h with h | h
        · rw [e] at h
          exact h
        · rw [e] at h
          exact absurd hl (Int.not_lt.mpr h)
  · unfold barWorth
    rw [Wsum_ord ts 1 mk ho, facingAt_append, Wsum_append, Wsum_mark1 ts mk p fun x hx => (hmk x).mpr hx, Wsum_none1 ts mk (c :: q) hno]
    show (ts.getD c th0).1 + (ts.getD c th0).2.1 + (A (path ts p) + ((ts.getD c th0).2.2 + B (path ts q))) = _
    omega
theorem bar_second {ts : List Th} (hn : ∀ t ∈ ts, Nn t) {p q : List Nat} {c : Nat} (ho : Ord ts.length (p ++ c :: q)) {mk : Nat → Bool} (hmk : ∀ x, mk x = true ↔ x ∈ q)
    (h1 : ∀ x ∈ q, (ts.getD x th0).2.2 ≤ (ts.getD x th0).1) (h2 : ∀ y ∈ p, (ts.getD y th0).1 ≤ (ts.getD y th0).2.2 ∨ (ts.getD c th0).2.2 + (ts.getD c th0).2.1 ≤ (ts.getD y th0).2.2 + (ts.getD y th0).2.1) :
    BarOk ts 2 mk ((ts.getD c th0).2.2 + (ts.getD c th0).2.1) ∧ barWorth ts 2 mk ((ts.getD c th0).2.2 + (ts.getD c th0).2.1) = A (path ts p) + (ts.getD c th0).1 + (ts.getD c th0).2.1 + (ts.getD c th0).2.2 + B (path ts q) := by
  have nd := ho.nd
  have hcl : c < ts.length := ho.lt (by simp)
  have hc := getD_some hcl
  have hcn := hn _ (List.mem_of_getElem? hc)
  have nd2 := (List.nodup_append.mp nd)
  have nc : c ∉ q := (List.nodup_cons.mp nd2.2.1).1
  have hnc : mk c = false := by
    cases e : mk c with
    | false => rfl
    | true => exact absurd ((hmk c).mp e) nc
  have hnp : ∀ x, x ∈ p → mk x = false := fun x hx => by
    cases e : mk x with
    | false => rfl
    | true => exact absurd rfl (nd2.2.2 x hx x (List.mem_cons_of_mem _ ((hmk x).mp e)))
  refine ⟨⟨by have := hcn.2.2; have := hcn.2.1; omega, fun x t hx hm => ?_, fun x t hx hm hl => ?_, .inl ⟨c, _, hc, hnc, Int.le_refl _⟩⟩, ?_⟩
  · have hxl := (List.getElem?_eq_some_iff.mp hx).1
    have e : ts.getD x th0 = t := Option.some.inj ((getD_some hxl).symm.trans hx)
    have := h1 x ((hmk x).mp hm)
    rw [e] at this
    exact this
  · have hxl := (List.getElem?_eq_some_iff.mp hx).1
    have e : ts.getD x th0 = t := Option.some.inj ((getD_some hxl).symm.trans hx)
    have hxo := ho.mem hxl
    rcases List.mem_append.mp hxo with h | h
    · rcases h2 x h with h | h
      · rw [e] at h
        exact h
      · rw [e] at h
        exact absurd hl (Int.not_lt.mpr h)
    · rcases List.mem_cons.mp h with rfl | h
      · rw [e] at hl
        exact absurd hl (Int.lt_irrefl _)
      · rw [(hmk x).mpr h] at hm
        cases hm
  · unfold barWorth
    rw [Wsum_ord ts 2 mk ho, facingAt_append, Wsum_append, Wsum_none2 ts mk p hnp,
      show facingAt ts 2 mk (c :: q) = facingAt ts 2 mk [c] ++ facingAt ts 2 mk q from rfl, Wsum_append, Wsum_mark2 ts mk q fun x hx => (hmk x).mpr hx, Wsum_none2 ts mk [c] (by intro x hx; obtain rfl := List.mem_singleton.mp hx; exact hnc)]
    show (ts.getD c th0).2.2 + (ts.getD c th0).2.1 + (A (path ts p) + ((ts.getD c th0).1 + 0 + B (path ts q))) = _
    omega
end Bp
namespace Bp
/-! ### orders and bars told as lists of asI -/
def asI (o : List Nat) : List Int := o.map Int.ofNat
def ordB (n : Nat) (is : List Int) : Bool := is.isPerm (asI (List.range n))
theorem ordB_iff {n : Nat} {is : List Int} : ordB n is = true ↔ is.Perm (asI (List.range n)) := List.isPerm_iff
theorem asI_back {o : List Nat} : (asI o).map Int.toNat = o := by
  unfold asI
  rw [List.map_map]
  exact (List.map_congr_left fun _ _ => rfl).trans (List.map_id o)
theorem ordB_ord {n : Nat} {is : List Int} (h : ordB n is = true) : ∃ o, is = asI o ∧ Ord n o := by
  have hp := ordB_iff.mp h
  refine ⟨is.map Int.toNat, ?_, ?_⟩
  · unfold asI
    rw [List.map_map]
    refine ((List.map_id is).symm.trans (List.map_congr_left fun x hx => ?_))
    obtain ⟨c, _, rfl⟩ := List.mem_map.mp (hp.mem_iff.mp hx)
    rfl
  · have := hp.map Int.toNat
    rw [asI_back] at this
    exact this
theorem ord_ordB {n : Nat} {o : List Nat} (h : Ord n o) : ordB n (asI o) = true := ordB_iff.mpr (h.map _)
/-- rising lists with the same members are one -/
theorem sorted_one : ∀ {l m : List Int}, l.Pairwise (· ≤ ·) → m.Pairwise (· ≤ ·) → l.Perm m → l = m
  | [], m, _, _, p => (List.Perm.nil_eq p)
  | x :: l, [], _, _, p => absurd p.length_eq (by simp)
  | x :: l, y :: m, h1, h2, p => by
    obtain ⟨a1, a2⟩ := List.pairwise_cons.mp h1
    obtain ⟨b1, b2⟩ := List.pairwise_cons.mp h2
    have exy : x = y := by
      have hx : x ∈ y :: m := p.mem_iff.mp List.mem_cons_self
      have hy : y ∈ x :: l := p.mem_iff.mpr List.mem_cons_self
      rcases List.mem_cons.mp hx with h | h
      · exact h
      · rcases List.mem_cons.mp hy with h' | h'
        · exact h'.symm
        · have := a1 y h'
          have := b1 x h
          omega
    subst exy
    rw [sorted_one a2 b2 (List.perm_cons x |>.mp p)]
theorem rising_range : ∀ n : Nat, (asI (List.range n)).Pairwise (· ≤ ·) := fun n => by
  unfold asI
  refine List.pairwise_map.mpr ((List.pairwise_lt_range (n := n)).imp fun {a b} h => ?_)
  show (a : Int) ≤ (b : Int)
  omega
/-- what sorted(is) == list(range(n)) tells -/
theorem ordB_sorted {n : Nat} {is js : List Int} (p : js.Perm is) (s : js.Pairwise (· ≤ ·)) : decide (js = asI (List.range n)) = ordB n is := by
  cases h : ordB n is with
  | true => exact decide_eq_true (sorted_one s (rising_range n) (p.trans (ordB_iff.mp h)))
  | false =>
    refine decide_eq_false fun e => ?_
    subst e
    rw [ordB_iff.mpr p.symm] at h
    cases h
def mkOf (ap : List Int) (c : Nat) : Bool := decide ((c : Int) ∈ ap)
structure BarW (ts : List Th) (bench : Int) (ap : List Int) (L : Int) : Prop where
  two : bench = 1 ∨ bench = 2
  rise : ap.Pairwise (· < ·)
  inn : ∀ x ∈ ap, 0 ≤ x ∧ x < (ts.length : Int)
  ok : BarOk ts bench (mkOf ap) L
open Classical in
noncomputable def lawW (ts : List Th) (bench : Int) (ap : List Int) (L : Int) : Int := if BarW ts bench ap L then barWorth ts bench (mkOf ap) L else -1
theorem lawW_yes {ts : List Th} {bench : Int} {ap : List Int} {L : Int} (h : BarW ts bench ap L) : lawW ts bench ap L = barWorth ts bench (mkOf ap) L := if_pos h
theorem lawW_no {ts : List Th} {bench : Int} {ap : List Int} {L : Int} (h : ¬ BarW ts bench ap L) : lawW ts bench ap L = -1 := if_neg h
theorem Wsum_nn : ∀ m : List (Bool × Th), (∀ x ∈ m, Nn x.2) → 0 ≤ Wsum m
  | [], _ => Int.le_refl _
  | x :: r, h => by
    have := Wsum_nn r fun y hy => h y (List.mem_cons_of_mem _ hy)
    obtain ⟨h1, h2, h3⟩ := h x List.mem_cons_self
    show 0 ≤ (if x.1 then x.2.1 else x.2.2.2) + Wsum r
    split <;> omega
theorem barWorth_nn {ts : List Th} (hn : ∀ t ∈ ts, Nn t) {bench : Int} {mk : Nat → Bool} {L : Int} (h : BarOk ts bench mk L) : 0 ≤ barWorth ts bench mk L := by
  have := Wsum_nn (facingAt ts bench mk (List.range ts.length)) fun x hx => by
    obtain ⟨c, hc, rfl⟩ := List.mem_map.mp hx
    exact facing_nn (hn _ (List.mem_of_getElem? (getD_some (List.mem_range.mp hc))))
  have := h.len
  unfold barWorth
  omega
/-- the longest of those that are not told apart, -1 for none -/
def lng (ts : List Th) (bench : Int) (mk : Nat → Bool) (i : Nat) : Int := (List.range i).foldl (fun m c => if mk c then m else max m (hereOf bench (ts.getD c th0) + (ts.getD c th0).2.1)) (-1)
theorem lng_succ (ts : List Th) (bench : Int) (mk : Nat → Bool) (i : Nat) : lng ts bench mk (i + 1) = if mk i then lng ts bench mk i else max (lng ts bench mk i) (hereOf bench (ts.getD i th0) + (ts.getD i th0).2.1) := by
  unfold lng
  rw [List.range_succ, List.foldl_append]
  rfl
theorem lng_ge {ts : List Th} {bench : Int} {mk : Nat → Bool} {L : Int} (hL : 0 ≤ L) : ∀ i : Nat, L ≤ lng ts bench mk i ↔ ∃ c, c < i ∧ mk c = false ∧ L ≤ hereOf bench (ts.getD c th0) + (ts.getD c th0).2.1
  | 0 => by
    refine ⟨fun h => ?_, fun ⟨c, h, _⟩ => absurd h (Nat.not_lt_zero _)⟩
    have h : L ≤ -1 := h
    omega
  | i + 1 => by
    rw [lng_succ]
    have ih := lng_ge (ts := ts) (bench := bench) (mk := mk) hL i
    cases e : mk i with
    | true =>
      simp only [if_true]
      rw [ih]
      refine ⟨fun ⟨c, h1, h2⟩ => ⟨c, by omega, h2⟩, fun ⟨c, h1, h2, h3⟩ => ⟨c, ?_, h2, h3⟩⟩
      rcases Nat.lt_or_ge c i with h | h
      · exact h
      · have : c = i := by omega
        subst this
        rw [e] at h2
        cases h2
    | false =>
      simp only [Bool.false_eq_true, if_false]
      refine ⟨fun h => ?_, fun ⟨c, h1, h2, h3⟩ => ?_⟩
      · rcases Int.le_total (lng ts bench mk i) (hereOf bench (ts.getD i th0) + (ts.getD i th0).2.1) with g | g
        · exact ⟨i, by omega, e, by omega⟩
        · obtain ⟨c, h1, h2⟩ := ih.mp (by omega)
          exact ⟨c, by omega, h2⟩
      · rcases Nat.lt_or_ge c i with h | h
        · have := ih.mpr ⟨c, h, h2, h3⟩
          omega
        · have : c = i := by omega
          subst this
          omega
theorem Wsum_range (ts : List Th) (bench : Int) (mk : Nat → Bool) (i : Nat) : Wsum (facingAt ts bench mk (List.range (i + 1))) = Wsum (facingAt ts bench mk (List.range i)) + (if mk i then hereOf bench (ts.getD i th0) else thereOf bench (ts.getD i th0)) := by
  rw [List.range_succ, facingAt_append, Wsum_append]
  have : Wsum (facingAt ts bench mk [i]) = if mk i then hereOf bench (ts.getD i th0) else thereOf bench (ts.getD i th0) := by
    show (if mk i then (facing bench (ts.getD i th0)).1 else (facing bench (ts.getD i th0)).2.2) + 0 = _
    rw [facing_here, facing_there, Int.add_zero]
  rw [this]
/-- rising, and just the members of set(ap) in rising order -/
theorem rise_of {ap js : List Int} (hs : js.Pairwise (· < ·)) (hm : ∀ k, k ∈ js ↔ k ∈ ap) : ap = js ↔ ap.Pairwise (· < ·) := by
  refine ⟨fun e => e ▸ hs, fun h => ?_⟩
  have n1 : ap.Nodup := h.imp fun {a b} h => by omega
  have n2 : js.Nodup := hs.imp fun {a b} h => by omega
  have p : ap.Perm js := (List.perm_ext_iff_of_nodup n1 n2).mpr fun k => (hm k).symm
  exact sorted_one (h.imp fun {a b} h => by omega) (hs.imp fun {a b} h => by omega) p
end Bp
/-! sorted(s) of a set of ints of any number; set(xs) of a list of ints -/
namespace BpS
open PySem PySem.Spec PyProof.Rows L2
section
variable {P : Program} {w : World} {A : Around} {E : Value → Shared → Prop} {s : Shared} {a : Addr}
/-- sorted of a set, by the collected members and the sort of any number of ints -/
theorem sorted_any {S : Int → Bool} {n : Nat} {Q : Value → Shared → Prop} (R : SetR w s.heap a S n) (quiet : A.handled = none) (few : n ≤ 100000)
    (fin : ∀ s' p (out : List Value) (c : Nat) (ns : List Int), (∀ b o, s.heap.get? b = some o → s'.heap.get? b = some o) → s'.gens = s.gens → s'.os = s.os → s.heap.objs.size ≤ p → s'.heap.get? p = some (seqObj "list" out.toArray c) → IntsAre out ns →
      ns.Pairwise (· < ·) → (∀ k, k ∈ ns ↔ S k = true) → ns.length = n → Q (.ref p) s') : wpAny (model P w) A (call (.builtin "sorted") [.ref a]) Q E s := by
  obtain ⟨ob, els, epo, tab, look, exact_, dat, good, nodup, memb, below_, fits_, size_, rising, drawn_⟩ := R
  refine Calls.call_function_entry kind_sorted plain_sorted entry_sorted (args_sorted1 _) ?_
  unfold Builtin.«sorted»
  refine wpAny_bind (m := checkCount "sorted" 1 1 _) (wpAny_pure (wpAny_bind (collect_set (A := A.in1) quiet ⟨ob, look, exact_.1, dat⟩ fits_ below_ rising drawn_ fun s1 vs keep1 grow1 gens1 os1 perm1 => ?_)))
  have len1 : vs.length = n := (perm1.length_eq.trans (by rw [List.length_map, Array.length_toList])).trans size_
  have every : ∀ v ∈ vs, ∃ i t, v = Value.int i t := fun v hv => by
    obtain ⟨e, he, rfl⟩ := List.mem_map.mp (perm1.mem_iff.mp hv)
    obtain ⟨k, tk, q, _⟩ := good e he
    exact ⟨k, tk, q⟩
  have ints1 : IntsAre vs (vs.map SrtO.iv) := SrtO.ints_iv every
  have keys1 : (vs.map SrtO.iv).Perm (els.toList.map keyOf) := by
    have z := perm1.map SrtO.iv
    rw [List.map_map] at z
    have ee : els.toList.map (SrtO.iv ∘ fun x => x.2) = els.toList.map keyOf := List.map_congr_left fun e he => by
      obtain ⟨k, tk, q, _⟩ := good e he
      show SrtO.iv e.2 = keyOf e
      unfold keyOf
      rw [q]
      rfl
    rwa [ee] at z
  have small : vs.length ≤ sizeLine := by rw [len1, sizeLine_eq]; omega
  refine wpAny_bind (wpAny_newList ?_ small)
  have laid : (s1.heap.push (seqObj "list" vs.toArray 0)).get? s1.heap.objs.size = some (seqObj "list" vs.toArray 0) := Heap.get?_push_size _ rfl
  refine wpAny_bind (wpAny_holding (wpAny_call_entry slot_list_sort ⟨_, laid, rfl⟩ entry_list_sort (SrtO.list_sort_ord SrtO.swo_int laid small (fun two => SrtO.ints_sortable ints1 two) fun out srt stb => ⟨_, rfl, ?_⟩) (args_list_sort _)))
  obtain ⟨outI, outP, outS⟩ := SrtO.ints_out ints1 srt stb
  obtain ⟨c, hc⟩ := sortedHeap_at (vs := vs) (out := out.toArray) laid
  have pn : (out.map SrtO.iv).Perm (els.toList.map keyOf) := outP.trans keys1
  refine wpAny_pure ⟨_, rfl, fin _ s1.heap.objs.size out c (out.map SrtO.iv) (fun b u e => ?_) gens1 os1 grow1 hc outI ?_ (fun k => by rw [pn.mem_iff, ← memb k]) ?_⟩
  · have old := keep1 b u e
    have lower := Heap.lt_size old
    have stay := sortedHeap_old (vs := vs) (out := out.toArray) (Nat.ne_of_lt lower) (show b < (s1.heap.push (seqObj "list" vs.toArray 0)).objs.size by rw [size_push']; exact Nat.lt_succ_of_lt lower)
    exact stay.trans (Heap.get?_push_of_some _ old)
  · have nd' := pn.nodup_iff.mpr nodup
    exact List.Pairwise.imp₂ (fun x y h1 h2 => by omega) outS nd'
  · rw [pn.length_eq, List.length_map, Array.length_toList]
    exact size_
/-- a fresh set -/
def freshO (w : World) : Obj := { cls := .type "set", dict := none, data := .set #[] 0 (.fresh 0 0 (!w.params.followText "set-order")) }
set_option maxHeartbeats 3200000 in
/-- set(xs), xs a list of ints -/
theorem set_ints {l : Addr} {its : Array Value} (ns : List Int) {Q : Value → Shared → Prop} (quiet : A.handled = none) (isl : s.heap.IsList l its) (hints : IntsAre its.toList ns) (few : ns.length + 1 < scanBound)
    (fin : ∀ (h' : Heap) (tk c : Nat), SetR w h' s.heap.objs.size (fun j => decide (j ∈ ns)) c → c ≤ ns.length → (∀ b o, s.heap.get? b = some o → h'.get? b = some o) → Q (.ref s.heap.objs.size) { s with heap := h', toks := tk }) : wpAny (model P w) A (call (.type "set") [.ref l]) Q E s := by
  have size1 : its.size = ns.length := (Array.length_toList (xs := its)).symm.trans (IntsAre.length hints)
  obtain ⟨mroC, mroT, mroE⟩ := PySem.F.called_set.mro
  have made1 := PySem.F.called_set.made
  have sub1 := PySem.F.called_set.sub
  have not1 := PySem.F.called_set.notType
  have can1 := PySem.F.called_set.canCreate
  have typ1 := PySem.F.typeCall_set_1 (.ref l)
  refine wpAny_call (codeAny_of_tree ?_)
  show wpAny _ _ (callAny (.type "set") ⟨[.ref l], []⟩) _ _ _
  refine wpAny_pure ⟨Code.quiet_builtin _ (by decide +kernel), codeAny_builtin F.entry_type_call ?_⟩
  rw [Around.under_plain (weight_type_call_type "set" [Value.ref l] []) rfl]
  repeat (any_goals (first | assumption | wp_step))
  refine codeAny_mono (code_set_led1 (Value.ref l) (E := E) (Q₁ := fun v s₁ => v = .ref s.heap.objs.size ∧ s₁ = { s with heap := s.heap.push (freshO w) }) ⟨rfl, rfl⟩) fun r s₁ got => ?_
  cases r with
  | error e => exact got
  | ok fl => cases fl with
    | ret v =>
      obtain ⟨rfl, rfl⟩ := got
      have atS : (s.heap.push (freshO w)).get? s.heap.objs.size = some (freshO w) := Heap.get?_push_size _ rfl
      have tyS : Shared.TypeIs { s with heap := s.heap.push (freshO w) } (.ref s.heap.objs.size) "set" := ⟨_, atS, rfl⟩
      have look1 := PySem.F.called_set.init.lookup
      have bind1 := PySem.F.called_set.init.bind (Value.ref s.heap.objs.size)
      repeat (any_goals (first | assumption | wp_step))
      let Done : Value → Shared → Prop := fun v s₂ => v = .none ∧ ∃ h' tk c, s₂ = { s with heap := h', toks := tk } ∧ SetR w h' s.heap.objs.size (fun j => decide (j ∈ ns)) c ∧ c ≤ ns.length ∧ ∀ b o, s.heap.get? b = some o → h'.get? b = some o
      refine codeAny_mono (codeAny_call_builtin (R := wants Done E) PySem.F.called_set.init.plain PySem.F.entry_set_init (check_set_init_1 tyS ?_)) fun r₂ s₂ got₂ => ?_
      · obtain ⟨⟨lc, ld, ldat, lsl⟩, lget, lcls, lcap, ldata⟩ := isl
        simp only at lcls ldata
        subst lcls; subst ldata
        have below_ : l < s.heap.objs.size := Heap.lt_size lget
        have lget1 : (s.heap.push (freshO w)).get? l = some ⟨.type "list", ld, .seq its lcap, lsl⟩ := Heap.get?_push_of_some _ lget
        have isl1 : (s.heap.push (freshO w)).IsList l its := ⟨_, lget1, rfl, lcap, rfl⟩
        have subS := PySem.F.sub_list_set
        have subF := PySem.F.sub_list_frozenset
        have noD : (Value.type "list" == Value.type "dict") = false := by decide
        unfold Builtin.«set.__init__» noKeywords Builtin.Frozenset.updateFrom
        generalize keepPI : pyIter = PI
        wp_walk
        subst keepPI
        refine wpAny_pyIter_list isl1 (wpAny_bind (wpAny_runValue ?_))
        have quiet3 : A.in1.in1.in1.handled = none := by simp [quiet]
        have bigger : (s.heap.push (freshO w)).objs.size = s.heap.objs.size + 1 := Heap.size_push ..
        have apart1 : l ≠ (s.heap.push (freshO w)).objs.size := by rw [bigger]; exact Nat.ne_of_lt (Nat.lt_succ_of_lt below_)
        have apart2 : s.heap.objs.size ∉ [(s.heap.push (freshO w)).objs.size, l] := by
          rw [bigger]
          simp only [List.mem_cons, List.not_mem_nil, or_false, not_or]
          exact ⟨Nat.ne_of_lt (Nat.lt_succ_self _), Nat.ne_of_gt below_⟩
        have each : ∀ (i : Nat) (v : Value), its[i]? = some v → ∃ k t, ns[i]? = some k ∧ v = .int k t := fun i v hv => by
          have lower : i < ns.length := size1 ▸ (Array.getElem?_eq_some_iff.mp hv).1
          obtain ⟨t, e⟩ := PyProof.Rows.IntsAre.int_at hints i v ((Array.getElem?_toList).trans hv)
          refine ⟨_, t, List.getElem?_eq_getElem lower, ?_⟩
          rw [e, List.getD_eq_getElem?_getD, List.getElem?_eq_getElem lower]
          rfl
        refine set_update_ints ((Walks.list quiet3 _ l apart1 its).toS) s.heap.objs.size apart2 ns size1 few each (its.size - 0) 0 _ (by omega) (Nat.zero_le _) ⟨⟨_, Heap.get?_push_size _ rfl, rfl, rfl⟩, isl1.push _⟩ ⟨0, Nat.le_refl 0, setR_new_at (Heap.get?_push_of_some _ atS)⟩ ?_
        intro s' c' moved few' made'
        obtain ⟨h', g', d', tk', os'⟩ := s'
        obtain rfl : g' = s.gens := moved.gens
        obtain rfl : d' = s.drawn := moved.drawn
        obtain rfl : os' = s.os := moved.os
        show wpAny _ _ _ _ _ _
        refine wpAny_pure ?_
        show wpAny _ _ (ret Value.none) _ _ _
        refine wpAny_pure ⟨rfl, h', tk', c', rfl, made', size1 ▸ few', fun b o e => moved.heap b o ?_ (Heap.get?_push_of_some _ (Heap.get?_push_of_some _ e))⟩
        have lower := Heap.lt_size e
        simp only [List.mem_cons, List.not_mem_nil, or_false, not_or]
        rw [bigger]
        exact ⟨Nat.ne_of_lt lower, Nat.ne_of_lt (Nat.lt_succ_of_lt lower)⟩
      · cases r₂ with
        | error e => exact got₂
        | ok fl₂ => cases fl₂ with
          | ret v =>
            obtain ⟨rfl, h', tk, c', rfl, made', few', keep'⟩ := got₂
            repeat (any_goals (first | assumption | wp_step))
            exact fin _ _ _ made' few' keep'
          | _ => exact got₂.elim
    | _ => exact got.elim
end
/-- the set of the members of ns, c of them, at p -/
def SetOx (w : World) (p : Addr) (ns : List Int) (c : Nat) : HO := SetO w p (fun j => decide (j ∈ ns)) c
section
variable {X : Cx}
/-- set(xs) -/
def rSetL (K : PySem.W.Frag) (w : World) : List V → Hp → VK → Prop := fun xs H Q => ∃ (l : Addr) (ns : List Int), xs = [V.ref l] ∧ SqL K H l (ns.map V.int) ∧ ns.length ≤ 1000 ∧ ∀ (p : Addr) (c : Nat), c ≤ ns.length → H p = none → Q (.ref p) (upd H p (SetO w p (fun j => decide (j ∈ ns)) c))
theorem cr_setL (hc : X.calm = true) : CallR X (.type "set") (rSetL X.K X.w) := by
  intro pins s σ H xs us Q I r h
  obtain ⟨l, ns, rfl, hl, few, q⟩ := h
  rw [Vals.ref1 r]
  obtain ⟨its, rv, pl, _⟩ := I.list hl
  refine set_ints (P := X.prog) (w := X.w) ns (I.ok.hd hc) pl.isList (by simpa using ints_of_vals rv) (by unfold scanBound; omega) fun h' tk c made small keep => ?_
  exact ⟨.ref s.heap.objs.size, upd H s.heap.objs.size (SetO X.w s.heap.objs.size (fun j => decide (j ∈ ns)) c), I.laid (t' := tk) keep (Nat.le_refl _) (setO_new made), rfl, q _ c small (I.hok.fresh (Nat.le_refl _))⟩
/-- sorted(s) -/
def rSortA (w : World) : List V → Hp → VK → Prop := fun vs H Q => ∃ (a : Addr) (S : Int → Bool) (n : Nat), vs = [V.ref a] ∧ H a = some (SetO w a S n) ∧ n ≤ 100000 ∧ ∀ (ns : List Int) (p : Addr), ns.Pairwise (· < ·) → (∀ k : Int, k ∈ ns ↔ S k = true) → ns.length = n → H p = none → Q (.ref p) (upd H p (.lst (ns.map V.int)))
theorem cr_sortA (hc : X.calm = true) : CallR X (.builtin "sorted") (rSortA X.w) := by
  intro pins s σ H vs us Q I r h
  obtain ⟨a, S, n, rfl, ha, few, q⟩ := h
  rw [Vals.ref1 r]
  refine sorted_any (setO_get I ha) (I.ok.hd hc) few fun s' p out c ns keep gens1 os1 later laid ints1 srt mem1 len1 => ?_
  have fresh : H p = none := I.hok.fresh later
  have small : (ns.map V.int).length ≤ sizeLine := by rw [List.length_map, len1, sizeLine_eq]; omega
  obtain ⟨h', g', d', tk', os'⟩ := s'
  obtain rfl : g' = s.gens := gens1
  obtain rfl : os' = s.os := os1
  exact ⟨.ref p, upd H p (.lst (ns.map V.int)), I.call (ch := []) (Un.laid keep later fresh) (I.hok.laid keep later ⟨small, out, c, vals_of_ints ints1, laid⟩) I.bare (fun _ z => nomatch z), rfl, q ns p srt mem1 len1 fresh⟩
end
end BpS
namespace Bp
/-! ### orders by their marks -/
theorem nd_len : ∀ (n : Nat) (o : List Nat), o.Nodup → (∀ x ∈ o, x < n) → o.length ≤ n
  | 0, [], _, _ => Nat.le_refl _
  | 0, x :: _, _, h => absurd (h x List.mem_cons_self) (Nat.not_lt_zero _)
  | n + 1, o, nd, h => by
    have h1 := nd_len n (o.erase n) (nd.erase n) fun x hx => by
      have hx' := (nd.mem_erase_iff).mp hx
      have := h x hx'.2
      have := hx'.1
      omega
    have h2 : o.length ≤ (o.erase n).length + 1 := by
      rw [List.length_erase]
      split <;> omega
    omega
theorem ord_nd {n : Nat} {o : List Nat} (hl : o.length = n) (nd : o.Nodup) (h : ∀ x ∈ o, x < n) : Ord n o := by
  refine (List.perm_ext_iff_of_nodup nd List.nodup_range).mpr fun c => ⟨fun hc => List.mem_range.mpr (h c hc), fun hc => ?_⟩
  by_cases hm : c ∈ o
  · exact hm
  · have := nd_len n (c :: o) (List.nodup_cons.mpr ⟨hm, nd⟩) fun x hx => by
      rcases List.mem_cons.mp hx with rfl | hx
      · exact List.mem_range.mp hc
      · exact h x hx
    rw [List.length_cons] at this
    omega
theorem ints_nat {n : Nat} : ∀ {is : List Int}, (∀ x ∈ is, 0 ≤ x ∧ x < (n : Int)) → is = asI (is.map Int.toNat) := fun {is} h => by
  unfold asI
  rw [List.map_map]
  refine ((List.map_id is).symm.trans (List.map_congr_left fun x hx => ?_))
  show x = ((x.toNat : Nat) : Int)
  have := h x hx
  omega
theorem asI_inj {a b : Nat} (h : (Int.ofNat a) = Int.ofNat b) : a = b := Int.ofNat.inj h
theorem asI_nd {o : List Nat} : (asI o).Nodup ↔ o.Nodup := by
  unfold asI
  refine ⟨fun h => (List.pairwise_map.mp h).imp fun {a b} q e => q (by rw [e]), fun h => List.pairwise_map.mpr (h.imp fun {a b} q e => q (asI_inj e))⟩
theorem ordB_yes {n : Nat} {is : List Int} (hl : is.length = n) (nd : is.Nodup) (h : ∀ x ∈ is, 0 ≤ x ∧ x < (n : Int)) : ordB n is = true := by
  have e := ints_nat h
  rw [e]
  refine ord_ordB (ord_nd (by rw [List.length_map]; exact hl) ?_ fun x hx => ?_)
  · rw [e] at nd
    exact asI_nd.mp nd
  · obtain ⟨y, hy, rfl⟩ := List.mem_map.mp hx
    have := h y hy
    omega
theorem ordB_in {n : Nat} {is : List Int} (h : ordB n is = true) : is.length = n ∧ is.Nodup ∧ ∀ x ∈ is, 0 ≤ x ∧ x < (n : Int) := by
  obtain ⟨o, rfl, ho⟩ := ordB_ord h
  refine ⟨by unfold asI; rw [List.length_map]; exact ho.len, asI_nd.mpr ho.nd, fun x hx => ?_⟩
  obtain ⟨c, hc, rfl⟩ := List.mem_map.mp hx
  have := ho.lt hc
  show 0 ≤ (c : Int) ∧ (c : Int) < (n : Int)
  omega
theorem ordB_no {n : Nat} {is : List Int} (h : ¬ (is.length = n ∧ is.Nodup ∧ ∀ x ∈ is, 0 ≤ x ∧ x < (n : Int))) : ordB n is = false := by
  cases e : ordB n is with
  | false => rfl
  | true => exact absurd (ordB_in e) h
/-- at each turn: what is told so far is of counts below n, each once -/
structure Fine (n : Nat) (is : List Int) : Prop where
  nd : is.Nodup
  rg : ∀ x ∈ is, 0 ≤ x ∧ x < (n : Int)
theorem take_snoc {α : Type} {l : List α} {i : Nat} {x : α} (h : l[i]? = some x) : l.take (i + 1) = l.take i ++ [x] := by
  rw [List.take_add_one, h]
  rfl
theorem Fine.more {n : Nat} {is : List Int} {i : Nat} {x : Int} (h : Fine n (is.take i)) (hx : is[i]? = some x) (h1 : 0 ≤ x ∧ x < (n : Int)) (h2 : x ∉ is.take i) : Fine n (is.take (i + 1)) := by
  rw [take_snoc hx]
  refine ⟨List.nodup_append.mpr ⟨h.nd, by simp, fun a ha b hb e => ?_⟩, fun y hy => ?_⟩
  · obtain rfl := List.mem_singleton.mp hb
    exact h2 (e ▸ ha)
  · rcases List.mem_append.mp hy with hy | hy
    · exact h.rg y hy
    · obtain rfl := List.mem_singleton.mp hy
      exact h1
theorem twice {is : List Int} {i : Nat} {x : Int} (hx : is[i]? = some x) (h2 : x ∈ is.take i) : ¬ is.Nodup := fun nd => by
  have e : is = is.take i ++ (x :: is.drop (i + 1)) := by
    have h := (List.getElem?_eq_some_iff.mp hx)
    obtain ⟨hi, rfl⟩ := h
    rw [← List.drop_eq_getElem_cons hi, List.take_append_drop]
  rw [e] at nd
  exact (List.nodup_append.mp nd).2.2 x h2 x List.mem_cons_self rfl
/-! ### rising counts -/
def Rises (n : Nat) (ap : List Int) : Prop := ap.Pairwise (· < ·) ∧ ∀ x ∈ ap, 0 ≤ x ∧ x < (n : Int)
instance (n : Nat) (ap : List Int) : Decidable (Rises n ap) := inferInstanceAs (Decidable (_ ∧ _))
/-- least: one more than the last -/
structure Ris (n : Nat) (ap : List Int) (m : Int) : Prop where
  ok : Rises n ap
  nn : 0 ≤ m
  lt : ∀ x ∈ ap, x < m
  is : m = 0 ∨ m - 1 ∈ ap
theorem Ris.nil (n : Nat) : Ris n [] 0 := ⟨⟨List.Pairwise.nil, (fun _ h => nomatch h)⟩, Int.le_refl _, (fun _ h => nomatch h), .inl rfl⟩
theorem Ris.more {n : Nat} {ap : List Int} {m x : Int} (h : Ris n ap m) (h1 : m ≤ x) (h2 : x < (n : Int)) : Ris n (ap ++ [x]) (x + 1) := by
  refine ⟨⟨List.pairwise_append.mpr ⟨h.ok.1, by simp, fun a ha b hb => ?_⟩, fun y hy => ?_⟩, by have := h.nn; omega, fun y hy => ?_, .inr ?_⟩
  · obtain rfl := List.mem_singleton.mp hb
    have := h.lt a ha
    omega
  · rcases List.mem_append.mp hy with hy | hy
    · exact h.ok.2 y hy
    · obtain rfl := List.mem_singleton.mp hy
      have := h.nn
      omega
  · rcases List.mem_append.mp hy with hy | hy
    · have := h.lt y hy
      omega
    · obtain rfl := List.mem_singleton.mp hy
      omega
  · rw [show x + 1 - 1 = x by omega]
    simp
theorem Ris.stop {n : Nat} {ap : List Int} {i : Nat} {m x : Int} (h : Ris n (ap.take i) m) (hx : ap[i]? = some x) (hn : ¬ (m ≤ x ∧ x < (n : Int))) : ¬ Rises n ap := fun hr => by
  have hm : x ∈ ap := List.mem_of_getElem? hx
  have hb := hr.2 x hm
  have e : ap = ap.take i ++ (x :: ap.drop (i + 1)) := by
    obtain ⟨hi, rfl⟩ := List.getElem?_eq_some_iff.mp hx
    rw [← List.drop_eq_getElem_cons hi, List.take_append_drop]
  rcases h.is with h0 | h0
  · omega
  · have hp := hr.1
    rw [e] at hp
    have := (List.pairwise_append.mp hp).2.2 (m - 1) h0 x List.mem_cons_self
    omega
/-! ### a bar, as the program asks -/
def sel (ts : List Th) (bench : Int) (mk : Nat → Bool) : List Nat → List Th := fun l => (l.filter mk).map fun c => facing bench (ts.getD c th0)
def standB (l : List Th) : Bool := l.all fun t => decide (t.1 ≤ t.2.2)
def rchB (l : List Th) (L : Int) : Bool := (l.all fun t => decide (L ≤ t.1 + t.2.1) || decide (t.2.2 ≤ t.1)) && (decide (L = 0) || l.any fun t => decide (L ≤ t.1 + t.2.1))
theorem sel_mem {ts : List Th} {bench : Int} {mk : Nat → Bool} {n : Nat} {t : Th} : t ∈ sel ts bench mk (List.range n) ↔ ∃ c, c < n ∧ mk c = true ∧ t = facing bench (ts.getD c th0) := by
  unfold sel
  refine ⟨fun h => ?_, fun ⟨c, h1, h2, h3⟩ => List.mem_map.mpr ⟨c, List.mem_filter.mpr ⟨List.mem_range.mpr h1, h2⟩, h3.symm⟩⟩
  obtain ⟨c, hc, rfl⟩ := List.mem_map.mp h
  obtain ⟨h1, h2⟩ := List.mem_filter.mp hc
  exact ⟨c, List.mem_range.mp h1, h2, rfl⟩
theorem barOk_iff {ts : List Th} {bench : Int} {mk : Nat → Bool} {L : Int} (hL : 0 ≤ L) : (standB (sel ts bench mk (List.range ts.length)) && rchB (sel ts bench (fun c => !mk c) (List.range ts.length)) L) = true ↔ BarOk ts bench mk L := by
  have hg : ∀ {c : Nat} {t : Th}, ts[c]? = some t → c < ts.length ∧ ts.getD c th0 = t := fun {c t} h => by
    have hc := (List.getElem?_eq_some_iff.mp h).1
    exact ⟨hc, Option.some.inj ((getD_some hc).symm.trans h)⟩
  unfold standB rchB
  rw [Bool.and_eq_true, Bool.and_eq_true, List.all_eq_true, List.all_eq_true, Bool.or_eq_true, List.any_eq_true]
  refine ⟨fun ⟨h1, h2, h3⟩ => ⟨hL, fun c t hc hm => ?_, fun c t hc hm hl => ?_, ?_⟩, fun h => ⟨fun t ht => ?_, fun t ht => ?_, ?_⟩⟩
  · obtain ⟨hcl, e⟩ := hg hc
    have := of_decide_eq_true (h1 _ (sel_mem.mpr ⟨c, hcl, hm, rfl⟩))
    rw [facing_here, facing_there, e] at this
    exact this
  · obtain ⟨hcl, e⟩ := hg hc
    have := h2 _ (sel_mem.mpr ⟨c, hcl, by rw [hm]; rfl, rfl⟩)
    rw [facing_here, facing_there, facing_dry, e] at this
    rcases (Bool.or_eq_true _ _).mp this with h | h
    · have := of_decide_eq_true h
      omega
    · exact of_decide_eq_true h
  · rcases h3 with h | ⟨t, ht, h⟩
    · exact .inr (of_decide_eq_true h)
    · obtain ⟨c, h1, h2, rfl⟩ := sel_mem.mp ht
      have := of_decide_eq_true h
      rw [facing_here, facing_dry] at this
      exact .inl ⟨c, _, getD_some h1, by simpa using h2, this⟩
  · obtain ⟨c, h1, h2, rfl⟩ := sel_mem.mp ht
    refine decide_eq_true ?_
    rw [facing_here, facing_there]
    exact h.own c _ (getD_some h1) h2
  · obtain ⟨c, h1, h2, rfl⟩ := sel_mem.mp ht
    rw [facing_here, facing_there, facing_dry]
    by_cases hl : hereOf bench (ts.getD c th0) + (ts.getD c th0).2.1 < L
    · rw [decide_eq_true (h.oth c _ (getD_some h1) (by simpa using h2) hl), Bool.or_true]
    · rw [decide_eq_true (by omega), Bool.true_or]
  · rcases h.some_ with ⟨c, t, hc, hm, hl⟩ | h0
    · obtain ⟨hcl, e⟩ := hg hc
      refine .inr ⟨_, sel_mem.mpr ⟨c, hcl, by rw [hm]; rfl, rfl⟩, decide_eq_true ?_⟩
      rw [facing_here, facing_dry, e]
      exact hl
    · exact .inl (decide_eq_true h0)
theorem sel_worth (ts : List Th) (bench : Int) (mk : Nat → Bool) : ∀ l : List Nat, A (sel ts bench mk l) + B (sel ts bench (fun c => !mk c) l) = Wsum (facingAt ts bench mk l)
  | [] => rfl
  | c :: r => by
    have ih := sel_worth ts bench mk r
    show A (sel ts bench mk (c :: r)) + B (sel ts bench (fun c => !mk c) (c :: r)) = (if mk c then (facing bench (ts.getD c th0)).1 else (facing bench (ts.getD c th0)).2.2) + Wsum (facingAt ts bench mk r)
    unfold sel at ih ⊢
    cases e : mk c with
    | true =>
      rw [List.filter_cons_of_pos e, List.filter_cons_of_neg (by rw [e]; decide), List.map_cons, ← ih]
      show (facing bench (ts.getD c th0)).1 + _ + _ = (facing bench (ts.getD c th0)).1 + _
      omega
    | false =>
      rw [List.filter_cons_of_neg (by rw [e]; decide), List.filter_cons_of_pos (by rw [e]; decide), List.map_cons, ← ih]
      show _ + ((facing bench (ts.getD c th0)).2.2 + _) = (facing bench (ts.getD c th0)).2.2 + _
      omega
/-- Soonest, as it is told -/
noncomputable def soB (ts : List Th) (is : List Int) (bench : Int) (ap : List Int) (L : Int) : Bool := ordB ts.length is && decide (lawW ts bench ap L = W (path ts (is.map Int.toNat)))
theorem path_toNat (ts : List Th) (o : List Nat) : path ts ((asI o).map Int.toNat) = path ts o := by rw [asI_back]
theorem W_nonneg {ts : List Th} (hn : ∀ t ∈ ts, Nn t) (o : List Nat) : 0 ≤ W (path ts o) := (W_nn (path_nn hn o)).2.2.1
theorem soB_no {ts : List Th} {is : List Int} {bench : Int} {ap : List Int} {L : Int} (hn : ∀ t ∈ ts, Nn t) (h : ¬ BarW ts bench ap L) : soB ts is bench ap L = false := by
  unfold soB
  have := W_nonneg hn (is.map Int.toNat)
  rw [lawW_no h, decide_eq_false (by omega), Bool.and_false]
/-! ### the order that is done soonest -/
def fr (ts : List Th) (c : Nat) : Int := (ts.getD c th0).1
def dr (ts : List Th) (c : Nat) : Int := (ts.getD c th0).2.1
def se (ts : List Th) (c : Nat) : Int := (ts.getD c th0).2.2
def Rj (ts : List Th) (a b : Nat) : Prop := (fr ts a ≤ se ts a ∧ fr ts b ≤ se ts b ∧ fr ts a + dr ts a ≤ fr ts b + dr ts b) ∨ (fr ts a ≤ se ts a ∧ se ts b < fr ts b) ∨ (se ts a < fr ts a ∧ se ts b < fr ts b ∧ dr ts b + se ts b ≤ dr ts a + se ts a)
structure Jo (ts : List Th) (o : List Nat) : Prop where
  ord : Ord ts.length o
  pw : o.Pairwise (Rj ts)
theorem jo_of {ts : List Th} {e d : List Nat} (he : e.Perm ((List.range ts.length).filter fun c => decide (fr ts c ≤ se ts c))) (hd : d.Perm ((List.range ts.length).filter fun c => !decide (fr ts c ≤ se ts c)))
    (pe : e.Pairwise fun a b => fr ts a + dr ts a ≤ fr ts b + dr ts b) (pd : d.Pairwise fun a b => dr ts b + se ts b ≤ dr ts a + se ts a) : Jo ts (e ++ d) := by
  have me : ∀ c ∈ e, fr ts c ≤ se ts c := fun c hc => of_decide_eq_true (List.mem_filter.mp (he.mem_iff.mp hc)).2
  have md : ∀ c ∈ d, se ts c < fr ts c := fun c hc => by
    have := (List.mem_filter.mp (hd.mem_iff.mp hc)).2
    simp at this
    exact this
  refine ⟨(he.append hd).trans (List.filter_append_perm _ _), List.pairwise_append.mpr ⟨?_, ?_, fun a ha b hb => .inr (.inl ⟨me a ha, md b hb⟩)⟩⟩
  · exact List.Pairwise.imp_of_mem (fun {a b} ha hb h => .inl ⟨me a ha, me b hb, h⟩) pe
  · exact List.Pairwise.imp_of_mem (fun {a b} ha hb h => .inr (.inr ⟨md a ha, md b hb, h⟩)) pd
/-! ### where bench 2 waits last -/
theorem going_succ {ts : List Th} {o : List Nat} {i c : Nat} (h : o[i]? = some c) : going ts (o.take (i + 1)) = stp ts (going ts (o.take i)) c := fold_more h
theorem path_succ {ts : List Th} {o : List Nat} {i c : Nat} (h : o[i]? = some c) : path ts (o.take (i + 1)) = path ts (o.take i) ++ [ts.getD c th0] := by
  rw [take_snoc h]
  unfold path
  rw [List.map_append]
  rfl
theorem going_A (ts : List Th) (o : List Nat) : ∀ i, i ≤ o.length → (going ts (o.take i)).2.1 = A (path ts (o.take i))
  | 0, _ => by rw [List.take_zero]; rfl
  | i + 1, hi => by
    have h : o[i]? = some o[i] := List.getElem?_eq_getElem (by omega)
    rw [going_succ h, path_succ h, A_append, ← going_A ts o i (by omega)]
    show (going ts (o.take i)).2.1 + fr ts o[i] = (going ts (o.take i)).2.1 + (fr ts o[i] + 0)
    omega
/-- bench 2 begins just as the thing is dry -/
def waitsAt (ts : List Th) (o : List Nat) (i : Nat) : Prop := (going ts (o.take i)).2.2 ≤ (going ts (o.take i)).2.1 + fr ts (o.getD i 0) + dr ts (o.getD i 0)
instance (ts : List Th) (o : List Nat) (i : Nat) : Decidable (waitsAt ts o i) := inferInstanceAs (Decidable (_ ≤ _))
theorem getD_of {o : List Nat} {i c : Nat} (h : o[i]? = some c) : o.getD i 0 = c := by rw [List.getD_eq_getElem?_getD, h]; rfl
theorem last_run {ts : List Th} {o : List Nat} {i c : Nat} (h : o[i]? = some c) (hw : waitsAt ts o i) (hl : ∀ j, i < j → j < o.length → ¬ waitsAt ts o j) : ∀ k, i + 1 + k ≤ o.length →
    (going ts (o.take (i + 1 + k))).2.2 + B (path ts (o.take (i + 1))) = A (path ts (o.take i)) + fr ts c + dr ts c + se ts c + B (path ts (o.take (i + 1 + k)))
  | 0, hk => by
    have hi : i < o.length := (List.getElem?_eq_some_iff.mp h).1
    unfold waitsAt at hw
    rw [getD_of h] at hw
    rw [Nat.add_zero, going_succ h, ← going_A ts o i (by omega)]
    show max ((going ts (o.take i)).2.1 + fr ts c + dr ts c) (going ts (o.take i)).2.2 + se ts c + _ = _
    omega
  | k + 1, hk => by
    have hj : o[i + 1 + k]? = some o[i + 1 + k] := List.getElem?_eq_getElem (by omega)
    have ih := last_run h hw hl k (by omega)
    have hn := hl (i + 1 + k) (by omega) (by omega)
    unfold waitsAt at hn
    rw [getD_of hj] at hn
    rw [show i + 1 + (k + 1) = i + 1 + k + 1 by omega, going_succ hj, path_succ hj, B_append]
    show max ((going ts (o.take (i + 1 + k))).2.1 + fr ts o[i + 1 + k] + dr ts o[i + 1 + k]) (going ts (o.take (i + 1 + k))).2.2 + se ts o[i + 1 + k] + B (path ts (o.take (i + 1))) = _ + (B (path ts (o.take (i + 1 + k))) + (se ts o[i + 1 + k] + 0))
    omega
theorem split_at {o : List Nat} {i c : Nat} (h : o[i]? = some c) : o = o.take i ++ c :: o.drop (i + 1) := by
  obtain ⟨hi, rfl⟩ := List.getElem?_eq_some_iff.mp h
  rw [← List.drop_eq_getElem_cons hi, List.take_append_drop]
theorem path_append (ts : List Th) (p q : List Nat) : path ts (p ++ q) = path ts p ++ path ts q := by unfold path; rw [List.map_append]
theorem last_W {ts : List Th} (hn : ∀ t ∈ ts, Nn t) {o : List Nat} {i c : Nat} (h : o[i]? = some c) (hw : waitsAt ts o i) (hl : ∀ j, i < j → j < o.length → ¬ waitsAt ts o j) :
    W (path ts o) = A (path ts (o.take i)) + fr ts c + dr ts c + se ts c + B (path ts (o.drop (i + 1))) := by
  have hi : i < o.length := (List.getElem?_eq_some_iff.mp h).1
  have := last_run h hw hl (o.length - (i + 1)) (by omega)
  rw [show i + 1 + (o.length - (i + 1)) = o.length by omega, List.take_length, going_W hn] at this
  have hb : B (path ts o) = B (path ts (o.take (i + 1))) + B (path ts (o.drop (i + 1))) := by
    rw [← B_append, ← path_append, List.take_append_drop]
  omega
theorem waits_first {ts : List Th} (hn : ∀ t ∈ ts, Nn t) (o : List Nat) : waitsAt ts o 0 := by
  unfold waitsAt
  rw [List.take_zero]
  show (0 : Int) ≤ 0 + fr ts (o.getD 0 0) + dr ts (o.getD 0 0)
  have : Nn (ts.getD (o.getD 0 0) th0) := by
    rw [List.getD_eq_getElem?_getD (l := ts)]
    cases e : ts[o.getD 0 0]? with
    | none => exact ⟨Int.le_refl _, Int.le_refl _, Int.le_refl _⟩
    | some t => exact hn t (List.mem_of_getElem? e)
  have h1 : 0 ≤ fr ts (o.getD 0 0) := this.1
  have h2 : 0 ≤ dr ts (o.getD 0 0) := this.2.1
  omega
/-- when the i-th of the order begins -/
theorem fold_keep (ts : List Th) : ∀ (r : List Nat) (s : Sg) (c : Nat), c ∉ r → (r.foldl (stp ts) s).1[c]? = s.1[c]?
  | [], _, _, _ => rfl
  | d :: r, s, c, h => by
    have h1 : d ≠ c := fun e => h (e ▸ List.mem_cons_self)
    have h2 : c ∉ r := fun e => h (List.mem_cons_of_mem _ e)
    rw [List.foldl_cons, fold_keep ts r _ c h2]
    show (s.1.set d _)[c]? = s.1[c]?
    rw [List.getElem?_set_ne h1]
theorem going_at {ts : List Th} {o : List Nat} (nd : o.Nodup) {i c : Nat} (h : o[i]? = some c) (hc : c < ts.length) :
    (going ts o).1[c]? = some ((going ts (o.take i)).2.1, max ((going ts (o.take i)).2.1 + fr ts c + dr ts c) (going ts (o.take i)).2.2) := by
  have e := split_at h
  have hnot : c ∉ o.drop (i + 1) := by
    rw [e] at nd
    exact (List.nodup_cons.mp (List.nodup_append.mp nd).2.1).1
  have g : going ts o = (o.drop (i + 1)).foldl (stp ts) (going ts (o.take (i + 1))) := by
    unfold going
    rw [← List.foldl_append, List.take_append_drop]
  rw [g, fold_keep ts _ _ c hnot, going_succ h]
  show ((going ts (o.take i)).1.set c _)[c]? = _
  rw [List.getElem?_set_self (by rw [going_len]; exact hc)]
  rfl
theorem waits_iff {ts : List Th} {o : List Nat} {i c : Nat} (h : o[i]? = some c) : waitsAt ts o i ↔ max ((going ts (o.take i)).2.1 + fr ts c + dr ts c) (going ts (o.take i)).2.2 = (going ts (o.take i)).2.1 + fr ts c + dr ts c := by
  unfold waitsAt
  rw [getD_of h]
  omega
/-! ### the bar out of it -/
theorem strict_of {ap : List Int} (h : ap.Pairwise (· ≤ ·)) (nd : ap.Nodup) : ap.Pairwise (· < ·) := List.Pairwise.imp₂ (fun a b h1 h2 => by omega) h nd
theorem mk_of {ap : List Int} {p : List Nat} (h : ap.Perm (asI p)) (c : Nat) : mkOf ap c = true ↔ c ∈ p := by
  unfold mkOf
  rw [decide_eq_true_iff, h.mem_iff]
  unfold asI
  refine ⟨fun q => ?_, fun q => List.mem_map.mpr ⟨c, q, rfl⟩⟩
  obtain ⟨d, hd, e⟩ := List.mem_map.mp q
  obtain rfl : d = c := asI_inj e
  exact hd
theorem part_bar {n : Nat} {o p : List Nat} (ho : Ord n o) (hs : p.Sublist o) {ap : List Int} (hp : ap.Perm (asI p)) (hr : ap.Pairwise (· ≤ ·)) : ap.Pairwise (· < ·) ∧ ∀ x ∈ ap, 0 ≤ x ∧ x < (n : Int) := by
  refine ⟨strict_of hr (hp.nodup_iff.mpr (asI_nd.mpr (ho.nd.sublist hs))), fun x hx => ?_⟩
  obtain ⟨c, hc, rfl⟩ := List.mem_map.mp (hp.mem_iff.mp hx)
  have := ho.lt (hs.subset hc)
  show 0 ≤ (c : Int) ∧ (c : Int) < (n : Int)
  omega
theorem find_first {ts : List Th} (hn : ∀ t ∈ ts, Nn t) {o : List Nat} (J : Jo ts o) {i c : Nat} (h : o[i]? = some c) (hW : W (path ts o) = A (path ts (o.take i)) + fr ts c + dr ts c + se ts c + B (path ts (o.drop (i + 1)))) (hc : fr ts c ≤ se ts c)
    {ap : List Int} (hp : ap.Perm (asI (o.take i))) (hr : ap.Pairwise (· ≤ ·)) : BarW ts 1 ap (fr ts c + dr ts c) ∧ lawW ts 1 ap (fr ts c + dr ts c) = W (path ts o) := by
  have e := split_at h
  have ho := J.ord
  have pw := J.pw
  rw [e] at ho pw
  obtain ⟨p1, p2, p3⟩ := List.pairwise_append.mp pw
  obtain ⟨p4, p5⟩ := List.pairwise_cons.mp p2
  obtain ⟨b1, b2⟩ := bar_first hn ho (mk := mkOf ap) (mk_of hp) (fun x hx => by
    have := p3 x hx c List.mem_cons_self
    show fr ts x ≤ se ts x
    unfold Rj at this
    omega) (fun y hy => by
    have := p4 y hy
    show se ts y ≤ fr ts y ∨ fr ts c + dr ts c ≤ fr ts y + dr ts y
    unfold Rj at this
    omega)
  obtain ⟨r1, r2⟩ := part_bar J.ord (List.take_sublist i o) hp hr
  have hB : BarW ts 1 ap (fr ts c + dr ts c) := ⟨.inl rfl, r1, r2, b1⟩
  exact ⟨hB, by rw [lawW_yes hB, hW]; exact b2⟩
theorem find_second {ts : List Th} (hn : ∀ t ∈ ts, Nn t) {o : List Nat} (J : Jo ts o) {i c : Nat} (h : o[i]? = some c) (hW : W (path ts o) = A (path ts (o.take i)) + fr ts c + dr ts c + se ts c + B (path ts (o.drop (i + 1)))) (hc : se ts c < fr ts c)
    {ap : List Int} (hp : ap.Perm (asI (o.drop (i + 1)))) (hr : ap.Pairwise (· ≤ ·)) : BarW ts 2 ap (dr ts c + se ts c) ∧ lawW ts 2 ap (dr ts c + se ts c) = W (path ts o) := by
  have e := split_at h
  have ho := J.ord
  have pw := J.pw
  rw [e] at ho pw
  obtain ⟨p1, p2, p3⟩ := List.pairwise_append.mp pw
  obtain ⟨p4, p5⟩ := List.pairwise_cons.mp p2
  obtain ⟨b1, b2⟩ := bar_second hn ho (mk := mkOf ap) (mk_of hp) (fun x hx => by
    have := p4 x hx
    show se ts x ≤ fr ts x
    unfold Rj at this
    omega) (fun y hy => by
    have := p3 y hy c List.mem_cons_self
    show fr ts y ≤ se ts y ∨ se ts c + dr ts c ≤ se ts y + dr ts y
    unfold Rj at this
    omega)
  obtain ⟨r1, r2⟩ := part_bar J.ord (List.drop_sublist (i + 1) o) hp hr
  have el : dr ts c + se ts c = se ts c + dr ts c := Int.add_comm _ _
  rw [el]
  have hB : BarW ts 2 ap (se ts c + dr ts c) := ⟨.inr rfl, r1, r2, b1⟩
  exact ⟨hB, by rw [lawW_yes hB, hW]; exact b2⟩
theorem bar_none {bench : Int} (hb : bench = 1 ∨ bench = 2) : BarW [] bench [] 0 ∧ lawW [] bench [] 0 = 0 := by
  have hB : BarW [] bench [] 0 := ⟨hb, List.Pairwise.nil, (fun _ h => nomatch h), ⟨Int.le_refl _, fun c t h => by simp at h, fun c t h => by simp at h, .inr rfl⟩⟩
  exact ⟨hB, by rw [lawW_yes hB]; rfl⟩
/-! ### none sooner -/
theorem lawW_le {ts : List Th} (hn : ∀ t ∈ ts, Nn t) {bench : Int} {ap : List Int} {L : Int} {o : List Nat} (ho : Ord ts.length o) : lawW ts bench ap L ≤ W (path ts o) := by
  by_cases h : BarW ts bench ap L
  · rw [lawW_yes h]
    exact weak hn h.ok ho
  · rw [lawW_no h]
    have := W_nonneg hn o
    omega
theorem best {ts : List Th} (hn : ∀ t ∈ ts, Nn t) {bench : Int} {ap : List Int} {L : Int} {o o2 : List Nat} (h : lawW ts bench ap L = W (path ts o)) (ho : Ord ts.length o2) : W (path ts o) ≤ W (path ts o2) := h ▸ lawW_le hn ho
theorem turned_nn {ts : List Th} (hn : ∀ t ∈ ts, Nn t) : ∀ t ∈ ts.map turn, Nn t := fun t ht => by
  obtain ⟨s, hs, rfl⟩ := List.mem_map.mp ht
  exact (hn s hs).turn
theorem turned_best {ts : List Th} (hn : ∀ t ∈ ts, Nn t) {b1 b2 : Int} {a1 a2 : List Int} {L1 L2 : Int} {o p : List Nat} (ho : Ord ts.length o) (hp : Ord ts.length p) (h1 : lawW ts b1 a1 L1 = W (path ts o)) (h2 : lawW (ts.map turn) b2 a2 L2 = W (path (ts.map turn) p)) :
    W (path (ts.map turn) p) = W (path ts o) := by
  have hl : (ts.map turn).length = ts.length := List.length_map _
  have g1 := best (turned_nn hn) h2 (o2 := o.reverse) (by rw [hl]; exact ho.rev)
  rw [W_turned hn ho] at g1
  have g2 := best hn h1 hp.rev
  have g3 := W_turned hn hp.rev
  rw [List.reverse_reverse] at g3
  omega
end Bp
namespace Bp
open PySem L2 Evl
/-! ### data in the heap -/
def iv (t : Th) : List V := [.int t.1, .int t.2.1, .int t.2.2]
def tv {α : Type} (zs : List (Addr × α)) : List V := zs.map fun z => V.ref z.1
def ths {α : Type} (zs : List (Addr × α)) : List α := zs.map fun z => z.2
def ov (o : List Nat) : List V := o.map fun (c : Nat) => V.int (c : Int)
structure Ths (K : PySem.W.Frag) (H : Hp) (l : Addr) (zs : List (Addr × Th)) : Prop where
  ls : SqL K H l (tv zs)
  it : ∀ z ∈ zs, SqT K H z.1 (iv z.2)
  nn : ∀ z ∈ zs, Nn z.2
  le : zs.length ≤ 1000
theorem Ths.mono {K : PySem.W.Frag} {H H' : Hp} {l : Addr} {zs : List (Addr × Th)} (e : Ex H H') (h : Ths K H l zs) : Ths K H' l zs :=
  ⟨ex_l e h.ls, fun z hz => ex_t e (h.it z hz), h.nn, h.le⟩
theorem tv_len {α : Type} (zs : List (Addr × α)) : (tv zs).length = zs.length := List.length_map _
theorem ths_len {α : Type} (zs : List (Addr × α)) : (ths zs).length = zs.length := List.length_map _
theorem ov_len (o : List Nat) : (ov o).length = o.length := List.length_map _
theorem tv_get {α : Type} {zs : List (Addr × α)} {i : Nat} {x : V} (h : (tv zs)[i]? = some x) : ∃ z, zs[i]? = some z ∧ x = .ref z.1 := by
  unfold tv at h
  rw [List.getElem?_map] at h
  cases e : zs[i]? with
  | none => rw [e] at h; cases h
  | some z => rw [e] at h; exact ⟨z, rfl, (Option.some.inj h).symm⟩
theorem ov_get {o : List Nat} {i : Nat} {x : V} (h : (ov o)[i]? = some x) : ∃ c, o[i]? = some c ∧ x = .int (c : Int) := by
  unfold ov at h
  rw [List.getElem?_map] at h
  cases e : o[i]? with
  | none => rw [e] at h; cases h
  | some z => rw [e] at h; exact ⟨z, rfl, (Option.some.inj h).symm⟩
theorem ths_nn {K : PySem.W.Frag} {H : Hp} {l : Addr} {zs : List (Addr × Th)} (h : Ths K H l zs) : ∀ t ∈ ths zs, Nn t := by
  intro t ht
  obtain ⟨z, hz, rfl⟩ := List.mem_map.mp ht
  exact h.nn z hz
/-! ### small readings -/
theorem rc_isi {K : PySem.W.Frag} {H : Hp} {x : V} {n c : String} {b : Bool} (ty : ∀ H1, Ex H H1 → TyX K H1 x (.type n)) (k : kitB n c = some b) : RC (rIsi K) [x, .ty c] H (.bl b) :=
  fun H1 e Q q => ⟨x, .ty c, .type n, .type c, b, rfl, .ty c, ty H1 e, kit_ty k, q H1 (Ex.refl H1)⟩
theorem ty_int {K : PySem.W.Frag} {H : Hp} {i : Int} : ∀ H1, Ex H H1 → TyX K H1 (.int i) (.type "int") := fun _ _ => .base (.int i)
theorem ty_lst {K : PySem.W.Frag} {H : Hp} {a : Addr} {xs : List V} (h : SqL K H a xs) : ∀ H1, Ex H H1 → TyX K H1 (.ref a) (.type "list") := fun H1 e => by
  rcases h with (h | ⟨o, h⟩) | h
  · exact .base (.lst (e _ _ h))
  · exact .base (.frz (e _ _ h))
  · obtain ⟨o, its, n, h1, h2, _⟩ := h
    exact .kList h1 h2
theorem ty_tup {K : PySem.W.Frag} {H : Hp} {a : Addr} {xs : List V} (h : SqT K H a xs) : ∀ H1, Ex H H1 → TyX K H1 (.ref a) (.type "tuple") := fun H1 e => by
  rcases h with (h | ⟨o, h⟩) | h
  · exact .base (.tup (e _ _ h))
  · exact .fTuple (e _ _ h)
  · obtain ⟨o, its, n, h1, h2, _⟩ := h
    exact .kTuple h1 h2
theorem rc_lenT {K : PySem.W.Frag} {H : Hp} {a : Addr} {xs : List V} (h : SqT K H a xs) : RC (rLenS K) [.ref a] H (.int (xs.length : Int)) :=
  fun H1 e Q q => ⟨a, xs, rfl, .inr (ex_t e h), q H1 (Ex.refl H1)⟩
theorem rc_lenL {K : PySem.W.Frag} {H : Hp} {a : Addr} {xs : List V} (h : SqL K H a xs) : RC (rLenS K) [.ref a] H (.int (xs.length : Int)) :=
  fun H1 e Q q => ⟨a, xs, rfl, .inl (ex_l e h), q H1 (Ex.refl H1)⟩
theorem rc_all {K : PySem.W.Frag} {H : Hp} {a : Addr} {bs : List Bool} (h : SqL K H a (bs.map V.bl)) : RC (rAll K) [.ref a] H (.bl (bs.all id)) :=
  fun H1 e Q q => ⟨a, bs, rfl, ex_l e h, q H1 (Ex.refl H1)⟩
/-- a built-in of one new list -/
theorem ev_cbL {σ : L2.St} {H : Hp} {te : TE} {xs : List V} {z : V} {r : List V → Hp → VK → Prop} (h : EvL te σ H xs) (hr : ∀ p H1, Ex H H1 → H1 p = some (.lst xs) → RC r [.ref p] H1 z) : Ev (tCB r (tCons te tNil)) σ H z :=
  fun H1 e Q q => h H1 e _ fun p H2 _ e2 h2 => hr p H2 (e.trans e2) h2 H2 (Ex.refl H2) Q fun H3 e3 => q H3 (e2.trans e3)
theorem et_yes {σ : L2.St} {H : Hp} : EvT tYes σ H true := fun H1 _ _ q => q H1 (Ex.refl H1)
theorem el_lcT {K : PySem.W.Frag} {σ : L2.St} {H : Hp} {a : Addr} {xs : List V} {tl te : TE} {t : TT} {j : Nat} {vs : List Nat} (f : Nat → Bool) (v : Nat → V) (h : Ev tl σ H (.ref a)) (hx : SqT K H a xs) (hz : xs.length ≤ 40000) (hw : ∀ x, wipe ((wipe σ vs).set j (some x)) vs = wipe σ vs)
    (ht : ∀ (i : Nat) (x : V) H1, Ex H H1 → xs[i]? = some x → EvT t ((wipe σ vs).set j (some x)) H1 (f i)) (he : ∀ (i : Nat) (x : V) H1, Ex H H1 → xs[i]? = some x → f i = true → Ev te ((wipe σ vs).set j (some x)) H1 (v i)) :
    EvL (tLc (iTup K tl) (gName j) t te vs) σ H (given xs.length f v) := fun H0 e Q q => h H0 e _ fun H1 e1 => ⟨a, rfl, ⟨xs, ex_t (e.trans e1) hx⟩, fun Dl hD =>
  lc_tup (xs := xs) (Cw H1 f v Dl) ⟨hD, Ex.new hD, upd_same⟩ (fun i H' _ p => ex_t ((e.trans e1).trans p.2.1) hx) (fun i x H' hi p => ⟨hw x, cw_turn p (by have := (List.getElem?_eq_some_iff.mp hi).1; omega) (ht i x H1 (e.trans e1) hi) (fun hf => he i x H1 (e.trans e1) hi hf)⟩)
    (fun H' p => q Dl H' (fresh_back e1 p.1) (e1.trans p.2.1) p.2.2)⟩
theorem ev_chain {σ : L2.St} {H : Hp} {ta tb tc : TE} {r r' : R2} {x y z : V} {k1 k2 : Bool} (ha : Ev ta σ H x) (hb : Ev tb σ H y) (h1 : RV r x y H (.bl k1)) (hc : Ev tc σ H z) (h2 : RV r' y z H (.bl k2)) : Ev (tChain r r' ta tb tc) σ H (.bl (k1 && k2)) := fun H1 e Q q =>
  ha H1 e _ fun H2 e2 => hb H2 (e.trans e2) _ fun H3 e3 => h1 H3 ((e.trans e2).trans e3) _ fun H4 e4 => ⟨k1, rfl, by
    cases k1 with
    | true => exact iteT (hc H4 (((e.trans e2).trans e3).trans e4) _ fun H5 e5 => h2 H5 ((((e.trans e2).trans e3).trans e4).trans e5) Q fun H6 e6 => q H6 ((((e2.trans e3).trans e4).trans e5).trans e6))
    | false => exact iteF (q H4 ((e2.trans e3).trans e4))⟩
theorem flat1 {α : Type} (n : Nat) (x : α) : (List.replicate n [x]).flatten = List.replicate n x := by
  induction n with
  | zero => rfl
  | succ n ih => rw [List.replicate_succ, List.flatten_cons, ih]; rfl
theorem el_rep {σ : L2.St} {H : Hp} {tl tn : TE} {x : V} {n : Nat} (h : EvL tl σ H [x]) (hn : ∀ H1, Ex H H1 → Ev tn σ H1 (.int (n : Int))) (hz : n ≤ 1000) : EvL (tOp rRep tl tn) σ H (List.replicate n x) := fun H1 e Q q =>
  h H1 e _ fun p H2 hp e2 h2 => hn H2 (e.trans e2) H2 (Ex.refl H2) _ fun H3 e3 => ⟨p, (n : Int), [x], rfl, rfl, e3 p _ h2, by omega, by omega, by
    show 1 * ((n : Int)).toNat ≤ sizeLine
    rw [Int.toNat_natCast, Nat.one_mul]
    exact sz_of (by omega), fun r hr => q r _ (fresh_back (e2.trans e3) hr) ((e2.trans e3).trans (Ex.new hr)) (by rw [upd_same, Int.toNat_natCast, flat1])⟩
/-- for i, x in enumerate(xs) -/
theorem s_forE {K : PySem.W.Frag} {σ : L2.St} {H : Hp} {D : Ends} {tu : TS} {g : TG} {ta : TA} {a : Addr} {xs : List V} (h : EvA ta σ H [.ref a]) (hx : SqL K H a xs) (Pv : Nat → L2.St → Hp → Prop) (h0 : ∀ H1, Ex H H1 → Pv 0 σ H1) (hl : ∀ i σ' H', i ≤ xs.length → Pv i σ' H' → SqL K H' a xs)
    (hs : ∀ (i : Nat) x T σ' H', xs[i]? = some x → Pv i σ' H' → H' T = none → g (.ref T) σ' (upd H' T (.tup [.int (i : Int), x])) fun σ2 H2 => tu { D with nx := Pv (i + 1), ct := Pv (i + 1), bk := D.nx } σ2 H2) (hd : ∀ σ' H', Pv xs.length σ' H' → D.nx σ' H') : tFor (iEnum K ta) g tu D σ H :=
  h H (Ex.refl H) _ fun H1 e => ⟨a, xs, rfl, ex_l e hx, for_it walk_enum Pv (h0 H1 e) hl (fun i x σ' H' H2 hi p y => by
    obtain ⟨T, x1, x2, rfl, nT, rfl, e1, e2⟩ := y
    have e3 : x1 = .int (i : Int) := (Option.some.inj e1).symm
    subst e3
    exact hs i x2 T σ' H' e2 p nT) hd⟩
theorem for_it_seqE {K : PySem.W.Frag} {σ : L2.St} {H : Hp} {D : Ends} {tu tz : TS} {g : TG} {ta : TA} {a : Addr} {xs : List V} (h : EvA ta σ H [.ref a]) (hx : SqL K H a xs) (Pv : Nat → L2.St → Hp → Prop) (h0 : ∀ H1, Ex H H1 → Pv 0 σ H1) (hl : ∀ i σ' H', i ≤ xs.length → Pv i σ' H' → SqL K H' a xs)
    (hs : ∀ (i : Nat) x T σ' H', xs[i]? = some x → Pv i σ' H' → H' T = none → g (.ref T) σ' (upd H' T (.tup [.int (i : Int), x])) fun σ2 H2 => tu { D with nx := Pv (i + 1), ct := Pv (i + 1), bk := tz D } σ2 H2) (hd : ∀ σ' H', Pv xs.length σ' H' → tz D σ' H') : tSeq (tFor (iEnum K ta) g tu) tz D σ H :=
  s_forE (D := { D with nx := tz D }) h hx Pv h0 hl hs hd
/-- the list at q is of tuples, one a pair of ps -/
def Prs (H : Hp) (q : Addr) (bs : List (Addr × (Int × Int))) : Prop := H q = some (.lst (tv bs)) ∧ ∀ z ∈ bs, H z.1 = some (.tup [.int z.2.1, .int z.2.2])
/-! ### more readings -/
section
variable {K : PySem.W.Frag} {σ : L2.St} {H : Hp} {ta : TA} {tz : TS} {D : Ends}
theorem q_par {i j : Nat} {u v : V} (h : EvA ta σ H [u, v]) (k : ∀ H1, Ex H H1 → tz D ((σ.set i (some u)).set j (some v)) H1) : tSeq (tPar i j ta) tz D σ H :=
  h H (Ex.refl H) _ fun H1 e => ⟨u, v, rfl, k H1 e⟩
theorem s_par {i j : Nat} {u v : V} (h : EvA ta σ H [u, v]) (k : ∀ H1, Ex H H1 → D.nx ((σ.set i (some u)).set j (some v)) H1) : tPar i j ta D σ H :=
  h H (Ex.refl H) _ fun H1 e => ⟨u, v, rfl, k H1 e⟩
theorem q_par3 {i j l : Nat} {u v w : V} (h : EvA ta σ H [u, v, w]) (k : ∀ H1, Ex H H1 → tz D (((σ.set i (some u)).set j (some v)).set l (some w)) H1) : tSeq (tPar3 i j l ta) tz D σ H :=
  h H (Ex.refl H) _ fun H1 e => ⟨u, v, w, rfl, k H1 e⟩
theorem given_all (n : Nat) (v : Nat → V) : given n (fun _ => true) v = (List.range n).map v := by
  unfold given
  rw [List.filter_eq_self.mpr fun _ _ => rfl]
theorem range_map {α β : Type} (l : List α) (d : α) (f : α → β) : (List.range l.length).map (fun i => f (l.getD i d)) = l.map f := by
  refine List.ext_getElem (by simp) fun i h1 h2 => ?_
  have h3 : i < l.length := by simpa using h1
  simp [List.getD_eq_getElem?_getD, List.getElem?_eq_getElem h3]
theorem rc_sum {a : Addr} {ns : List Int} (h : SqL K H a (ns.map V.int)) : RC (rSum K) [.ref a] H (.int ns.sum) := fun H1 e Q q => ⟨a, ns, rfl, ex_l e h, q H1 (Ex.refl H1)⟩
end
def Bd (t : Th) : Prop := (0 ≤ t.1 ∧ t.1 < 10 ^ 59) ∧ (0 ≤ t.2.1 ∧ t.2.1 < 10 ^ 59) ∧ (0 ≤ t.2.2 ∧ t.2.2 < 10 ^ 59)
theorem Bd.nn {t : Th} (h : Bd t) : Nn t := ⟨h.1.1, h.2.1.1, h.2.2.1⟩
theorem things_at {H : Hp} {l : Addr} {zs : List (Addr × Th)} {c : Nat} (h : Ths K H l zs) (hc : c < zs.length) : ∃ z, zs[c]? = some z ∧ (ths zs).getD c th0 = z.2 ∧ (tv zs)[c]? = some (.ref z.1) := by
  refine ⟨zs[c], List.getElem?_eq_getElem hc, ?_, ?_⟩
  · unfold ths
    rw [List.getD_eq_getElem?_getD, List.getElem?_map, List.getElem?_eq_getElem hc]
    rfl
  · unfold tv
    rw [List.getElem?_map, List.getElem?_eq_getElem hc]
    rfl
/-- things[c][j] -/
theorem ev_part {σ : L2.St} {H : Hp} {l : Addr} {zs : List (Addr × Th)} {c j : Nat} {v : V} {tl tc tj : TE} (h : Ths K H l zs) (hc : c < zs.length) (hv : (iv ((ths zs).getD c th0))[j]? = some v) (h1 : Ev tl σ H (.ref l)) (h2 : Ev tc σ H (.int (c : Int))) (h3 : Ev tj σ H (.int (j : Int))) :
    Ev (tOp (rIxT K) (tOp (rIxL K) tl tc) tj) σ H v := by
  obtain ⟨z, e1, e2, e3⟩ := things_at h hc
  rw [e2] at hv
  exact ev_op (ev_op h1 h2 (rv_ixL h.ls (atI_nat e3))) h3 (rv_ixT (h.it z (List.mem_of_getElem? e1)) (atI_nat hv))
theorem set_tv {α : Type} (bs : List (Addr × α)) (c : Nat) (p : Addr) (x : α) : tv (bs.set c (p, x)) = (tv bs).set c (.ref p) := by
  unfold tv
  rw [List.map_set]
theorem set_ths {α : Type} (bs : List (Addr × α)) (c : Nat) (p : Addr) (x : α) : ths (bs.set c (p, x)) = (ths bs).set c x := by
  unfold ths
  rw [List.map_set]
theorem max_py (i j : Int) : (if j > i then j else i) = max i j := by
  rw [Int.max_def]
  by_cases h : j > i
  · rw [if_pos h, if_pos (by omega)]
  · rw [if_neg h]
    by_cases h2 : i ≤ j
    · rw [if_pos h2]; omega
    · rw [if_neg h2]
theorem stp_py {ts : List Th} {s : Sg} {c : Nat} {t : Th} (h : ts.getD c th0 = t) : stp ts s c = (s.1.set c (s.2.1, if s.2.2 > s.2.1 + t.1 + t.2.1 then s.2.2 else s.2.1 + t.1 + t.2.1), s.2.1 + t.1, (if s.2.2 > s.2.1 + t.1 + t.2.1 then s.2.2 else s.2.1 + t.1 + t.2.1) + t.2.2) := by
  subst h
  simp only [stp, max_py]
theorem path_at (ts : List Th) {o : List Nat} {i c : Nat} (h : o[i]? = some c) : (path ts o)[i]? = some (ts.getD c th0) := by
  unfold path
  rw [List.getElem?_map, h]
  rfl
theorem path_len (ts : List Th) (o : List Nat) : (path ts o).length = o.length := List.length_map _
theorem ldS_py (s : Int × Int × Int) (t : Th) : ldS s t = (s.1 + t.1, s.2.1 - t.2.2, if s.1 + t.1 + t.2.1 + s.2.1 > s.2.2 then s.1 + t.1 + t.2.1 + s.2.1 else s.2.2) := by simp only [ldS, max_py]
theorem rgc3 : ∀ n : Nat, n < 64 → n % 3 = 0 → Builtin.Range.small 0 (n : Int) 3 = true ∧ Builtin.Range.rangeSize 0 (n : Int) 3 = n / 3 := by decide +kernel
theorem cut63 {xs : List V} (h : xs.length ≤ 63) : cutV xs none (some 63) = xs := by
  unfold cutV
  rw [HT.sIx_none, show HT.sIx xs.length xs.length (some 63) = min 63 xs.length from HT.sIx_nat _ _ 63, List.drop_zero, Nat.min_eq_right h, Nat.sub_zero, List.take_length]
theorem cut3 {xs : List V} {k : Nat} (h : k + 3 ≤ xs.length) : cutV xs (some (k : Int)) (some ((k : Int) + 3)) = (xs.drop k).take 3 := by
  unfold cutV
  rw [HT.sIx_nat, show HT.sIx xs.length xs.length (some ((k : Int) + 3)) = min (k + 3) xs.length from HT.sIx_nat _ _ (k + 3), Nat.min_eq_left h, Nat.min_eq_left (show k ≤ xs.length by omega), Nat.add_sub_cancel_left]
theorem q_forR3 {σ : L2.St} {H : Hp} {ta : TA} {tz tu : TS} {D : Ends} {j : Nat} {lo hi c : Int} {n : Nat} (h : EvA ta σ H [.int lo, .int hi, .int c]) (hn : RgC lo hi c n) (Pv : Nat → L2.St → Hp → Prop) (h0 : ∀ H1, Ex H H1 → Pv 0 σ H1)
    (hs : ∀ (i : Nat) σ' H', i < n → Pv i σ' H' → tu { D with nx := Pv (i + 1), ct := Pv (i + 1), bk := tz D } (σ'.set j (some (.int (lo + (i : Int) * c)))) H') (hd : ∀ σ' H', Pv n σ' H' → tz D σ' H') : tSeq (tFor (iRng3 ta) (gName j) tu) tz D σ H :=
  h H (Ex.refl H) _ fun H1 e => ⟨lo, hi, c, n, rfl, hn, for_rangeC Pv (h0 H1 e) hs hd⟩
theorem part_ok {d m : Int} (h0 : 0 ≤ d) (h1 : d < 200) (h2 : 0 < m) (h3 : m ≤ 10 ^ 20) : 0 ≤ d * m / 9 ∧ d * m / 9 < 10 ^ 59 := by
  have a : 0 ≤ d * m := Int.mul_nonneg h0 (by omega)
  have b : d * m ≤ 200 * 10 ^ 20 := Int.le_trans (Int.mul_le_mul_of_nonneg_right (show d ≤ 200 by omega) (by omega)) (Int.mul_le_mul_of_nonneg_left h3 (by decide))
  omega
/-- the first operand a new tuple -/
theorem ev_opU1 {σ : L2.St} {H : Hp} {ta tb : TE} {r : R2} {y z : V} {xs : List V} (ha : EvU ta σ H xs) (hb : ∀ H1, Ex H H1 → Ev tb σ H1 y) (hr : ∀ p H1, H1 p = some (.tup xs) → Ex H H1 → RV r (.ref p) y H1 z) : Ev (tOp r ta tb) σ H z := fun H1 e Q q =>
  ha H1 e _ fun p H2 _ e2 hp => hb H2 (e.trans e2) H2 (Ex.refl H2) _ fun H3 e3 => hr p H3 (e3 p _ hp) ((e.trans e2).trans e3) H3 (Ex.refl H3) Q fun H4 e4 => q H4 ((e2.trans e3).trans e4)
theorem pick3 {a b c d : Int} (h0 : 0 ≤ d) (h1 : d < 3) (M : Int) (ha : 0 < a ∧ a ≤ M) (hb : 0 < b ∧ b ≤ M) (hc : 0 < c ∧ c ≤ M) : ∃ m : Int, atI [V.int a, V.int b, V.int c] d = some (V.int m) ∧ 0 < m ∧ m ≤ M := by
  obtain h | h | h : d = 0 ∨ d = 1 ∨ d = 2 := by omega
  · exact ⟨a, by rw [h]; exact atI_nat (j := 0) rfl, ha⟩
  · exact ⟨b, by rw [h]; exact atI_nat (j := 1) rfl, hb⟩
  · exact ⟨c, by rw [h]; exact atI_nat (j := 2) rfl, hc⟩
section
variable {P : Program} {w : World} {K : PySem.W.Frag} {mg : Str → Option Value} {base : Heap}
/-- the list of things made so far -/
structure Made (H0 H : Hp) (l : Addr) (zs : List (Addr × Th)) : Prop where
  ex : Ex H0 H
  ls : H l = some (.lst (tv zs))
  it : ∀ z ∈ zs, H z.1 = some (.tup (iv z.2)) ∧ Bd z.2
theorem Made.more {H0 H H1 : Hp} {l : Addr} {zs : List (Addr × Th)} (m : Made H0 H l zs) (e : Ex H H1) : Made H0 H1 l zs := ⟨m.ex.trans e, e _ _ m.ls, fun z hz => ⟨e _ _ (m.it z hz).1, (m.it z hz).2⟩⟩
/-- found.append((x, y, z)) -/
theorem s_made {σ : L2.St} {H0 H : Hp} {D : Ends} {l : Addr} {zs : List (Addr × Th)} {tl : TE} {ta : TA} {t : Th} (m : Made H0 H l zs) (nl : H0 l = none) (hz : zs.length < 1000) (h1 : Ev tl σ H (.ref l)) (h2 : EvA ta σ H (iv t)) (hb : Bd t) (k : ∀ p H1, Made H0 H1 l (zs ++ [(p, t)]) → D.nx σ H1) :
    tDrop (tBM K "list" rAppend tl (tCons (tTup ta) tNil)) D σ H := by
  refine s_appU m.ls h1 (eu_tup h2 (by show 3 ≤ 100000; decide)) (by rw [tv_len]; omega) fun p H1 np e hp => k p _ ⟨Ex.mut (m.ex.trans e) nl, ?_, fun z hz => ?_⟩
  · rw [upd_same]
    unfold tv
    rw [List.map_append]
    rfl
  · rcases List.mem_append.mp hz with hz | hz
    · obtain ⟨a, b⟩ := m.it z hz
      refine ⟨?_, b⟩
      rw [upd_ne (ne_of (e _ _ a) (e _ _ m.ls) (by intro z; cases z))]
      exact e _ _ a
    · obtain rfl := List.mem_singleton.mp hz
      refine ⟨?_, hb⟩
      rw [upd_ne (ne_of hp (e _ _ m.ls) (by intro z; cases z))]
      exact hp
end
/-! ### data for == -/
def dT (t : Th) : PyData := .tuple [.int t.1, .int t.2.1, .int t.2.2]
def dP (t : Int × Int) : PyData := .tuple [.int t.1, .int t.2]
def dI (c : Nat) : PyData := .int (c : Int)
theorem dpAll_tv {α : Type} {K : PySem.W.Frag} {H : Hp} {f : α → PyData} : ∀ {zs : List (Addr × α)}, (∀ z ∈ zs, Dp K H (.ref z.1) (f z.2)) → DpAll K H (tv zs) ((ths zs).map f)
  | [], _ => .nil
  | z :: r, h => .cons (h z List.mem_cons_self) (dpAll_tv fun y hy => h y (List.mem_cons_of_mem _ hy))
theorem dpAll_ov {K : PySem.W.Frag} {H : Hp} : ∀ o : List Nat, DpAll K H (ov o) (o.map dI)
  | [] => .nil
  | c :: r => .cons (.int _) (dpAll_ov r)
def DpX (K : PySem.W.Frag) (H : Hp) (v : V) (d : PyData) : Prop := ∀ H1, Ex H H1 → Dp K H1 v d
theorem DpX.mono {K : PySem.W.Frag} {H H' : Hp} {v : V} {d : PyData} (h : DpX K H v d) (e : Ex H H') : DpX K H' v d := fun H1 e1 => h H1 (e.trans e1)
theorem dpx_ths {K : PySem.W.Frag} {H : Hp} {l : Addr} {zs : List (Addr × Th)} (h : Ths K H l zs) : DpX K H (.ref l) (.list ((ths zs).map dT)) := fun H1 e =>
  .lst (ex_l e h.ls) (dpAll_tv fun z hz => .tup (ex_t e (h.it z hz)) (.cons (.int _) (.cons (.int _) (.cons (.int _) .nil))))
theorem dpx_prs {K : PySem.W.Frag} {H : Hp} {l : Addr} {bs : List (Addr × (Int × Int))} (h : Prs H l bs) : DpX K H (.ref l) (.list ((ths bs).map dP)) := fun H1 e =>
  .lst (sq_of (e _ _ h.1)) (dpAll_tv fun z hz => .tup (st_of (e _ _ (h.2 z hz))) (.cons (.int _) (.cons (.int _) .nil)))
theorem dpx_ov {K : PySem.W.Frag} {H : Hp} {b : Addr} {o : List Nat} (h : SqL K H b (ov o)) : DpX K H (.ref b) (.list (o.map dI)) := fun H1 e => .lst (ex_l e h) (dpAll_ov o)
theorem dpx_two {K : PySem.W.Frag} {H : Hp} {b : Addr} {x y : V} {d e : PyData} (h : H b = some (.lst [x, y])) (hx : DpX K H x d) (hy : DpX K H y e) : DpX K H (.ref b) (.list [d, e]) := fun H1 e1 =>
  .lst (sq_of (e1 _ _ h)) (.cons (hx H1 e1) (.cons (hy H1 e1) .nil))
theorem can_all {α : Type} {f : α → PyData} (hf : ∀ x, (f x).canLay0 = true) : ∀ l : List α, PyData.canLayAll0 (l.map f) = true
  | [] => rfl
  | x :: r => by
    rw [List.map_cons]
    unfold PyData.canLayAll0
    rw [hf x, can_all hf r]
    rfl
theorem dep_all {α : Type} {f : α → PyData} (hf : ∀ x, (f x).depth ≤ 1) : ∀ l : List α, PyData.depthAll (l.map f) ≤ 1
  | [] => by show 0 ≤ 1; decide
  | x :: r => by
    rw [List.map_cons]
    unfold PyData.depthAll
    have := dep_all hf r
    have := hf x
    omega
theorem canT (t : Th) : (dT t).canLay0 = true := rfl
theorem canP (t : Int × Int) : (dP t).canLay0 = true := rfl
theorem canI (c : Nat) : (dI c).canLay0 = true := rfl
theorem depT (t : Th) : (dT t).depth ≤ 1 := by show 0 + 1 ≤ 1; decide
theorem depP (t : Int × Int) : (dP t).depth ≤ 1 := by show 0 + 1 ≤ 1; decide
theorem depI (c : Nat) : (dI c).depth ≤ 1 := by show 0 ≤ 1; decide
theorem sh_map {α : Type} {f : α → PyData} (h1 : ∀ x, (f x).canLay0 = true) (h2 : ∀ x, (f x).depth ≤ 1) (l : List α) : SeqAt.shaped (.list (l.map f)) = true := by
  have a := can_all h1 l
  have b := dep_all h2 l
  show ((PyData.canLayAll0 (l.map f)) && decide (PyData.depthAll (l.map f) + 1 ≤ 64)) = true
  rw [a, decide_eq_true (by omega)]
  rfl
theorem sh_two (ts : List Th) (o : List Nat) : SeqAt.shaped (.list [.list (ts.map dT), .list (o.map dI)]) = true := by
  have a := can_all canT ts
  have b := dep_all depT ts
  have a2 := can_all canI o
  have b2 := dep_all depI o
  show ((PyData.canLayAll0 (ts.map dT) && (PyData.canLayAll0 (o.map dI) && true)) && decide (max (PyData.depthAll (ts.map dT) + 1) (max (PyData.depthAll (o.map dI) + 1) 0) + 1 ≤ 64)) = true
  rw [a, a2, decide_eq_true (by omega)]
  rfl
theorem eqv_self {d : PyData} (h : SeqAt.shaped d = true) : PyData.eqv d d = true := SeqAt.eqv_refl d (SeqAt.canLay_of_shaped h)
theorem rv_neD {K : PySem.W.Frag} {H : Hp} {x y : V} {d : PyData} (hx : DpX K H x d) (hy : DpX K H y d) (hs : SeqAt.shaped d = true) : RV (rNeD K) x y H (.bl false) := fun H1 e Q q =>
  ⟨d, d, hx H1 e, hy H1 e, hs, hs, by rw [eqv_self hs]; exact q H1 (Ex.refl H1)⟩
theorem rv_eqD {K : PySem.W.Frag} {H : Hp} {x y : V} {d : PyData} (hx : DpX K H x d) (hy : DpX K H y d) (hs : SeqAt.shaped d = true) : RV (rEqD K) x y H (.bl true) := fun H1 e Q q =>
  ⟨d, d, hx H1 e, hy H1 e, hs, hs, by rw [eqv_self hs]; exact q H1 (Ex.refl H1)⟩
/-! ### lists -/
theorem rg_ov (n : Nat) : rgV 0 (n : Int) = ov (List.range n) := by
  unfold rgV ov
  rw [show ((n : Int) - 0).toNat = n by omega]
  refine List.map_congr_left fun i _ => ?_
  rw [Int.zero_add]
theorem ov_rev (o : List Nat) : (ov o).reverse = ov o.reverse := by unfold ov; rw [List.map_reverse]
theorem cut_to {α : Type} (zs : List (Addr × α)) (k : Nat) (h : k ≤ zs.length) : cutV (tv zs) none (some (k : Int)) = tv (zs.take k) := by
  unfold cutV
  rw [HT.sIx_none, HT.sIx_nat, tv_len, Nat.min_eq_left h, List.drop_zero, Nat.sub_zero]
  unfold tv
  rw [List.map_take]
theorem cut_from {α : Type} (zs : List (Addr × α)) (k : Nat) (h : k + 1 ≤ zs.length) : cutV (tv zs) (some ((k : Int) + 1)) none = tv (zs.drop (k + 1)) := by
  unfold cutV
  rw [HT.sIx_none, show HT.sIx (tv zs).length 0 (some ((k : Int) + 1)) = min (k + 1) (tv zs).length from HT.sIx_nat _ _ (k + 1), tv_len, Nat.min_eq_left h]
  unfold tv
  rw [← List.map_drop]
  refine List.take_of_length_le ?_
  rw [List.length_map, List.length_drop]
  exact Nat.le_refl _
theorem tv_app {α : Type} (xs ys : List (Addr × α)) : tv xs ++ tv ys = tv (xs ++ ys) := by unfold tv; rw [List.map_append]
theorem Ths.less {K : PySem.W.Frag} {H : Hp} {l p : Addr} {zs : List (Addr × Th)} (h : Ths K H l zs) (k : Nat) (hk : k < zs.length) (hp : H p = some (.lst (tv (zs.take k ++ zs.drop (k + 1))))) : Ths K H p (zs.take k ++ zs.drop (k + 1)) := by
  have m : ∀ z ∈ zs.take k ++ zs.drop (k + 1), z ∈ zs := fun z hz => by
    rcases List.mem_append.mp hz with hz | hz
    · exact List.mem_of_mem_take hz
    · exact List.mem_of_mem_drop hz
  refine ⟨sq_of hp, fun z hz => h.it z (m z hz), fun z hz => h.nn z (m z hz), ?_⟩
  have := h.le
  rw [List.length_append, List.length_take, List.length_drop]
  omega
theorem given_less (o : List Nat) (k : Nat) : given o.length (fun i => !decide (V.int (o.getD i 0 : Int) = V.int (k : Int))) (fun i => .int (shift k (o.getD i 0) : Int)) = ov (less k o) := by
  unfold given ov less
  have h : o = (List.range o.length).map (fun i => o.getD i 0) := by
    have := range_map o 0 (fun c => c)
    rw [this]
    exact (List.map_id o).symm
  have h2 : (o.filter fun c => c != k) = ((List.range o.length).filter fun i => !decide (V.int (o.getD i 0 : Int) = V.int (k : Int))).map fun i => o.getD i 0 := by
    conv => lhs; rw [h]
    rw [List.filter_map]
    congr 1
    refine List.filter_congr fun i _ => ?_
    show (o.getD i 0 != k) = !decide (V.int (o.getD i 0 : Int) = V.int (k : Int))
    by_cases e : o.getD i 0 = k
    · rw [e]
      simp
    · have : ¬ V.int (o.getD i 0 : Int) = V.int (k : Int) := fun z => e (by have := V.int.inj z; omega)
      rw [decide_eq_false this]
      simpa using e
  rw [h2, List.map_map, List.map_map]
  rfl
theorem stp_law {ts : List Th} {s : Sg} {c : Nat} {t : Th} (h : ts.getD c th0 = t) : stp ts s c = (s.1.set c (s.2.1, if s.2.1 + t.1 + t.2.1 > s.2.2 then s.2.1 + t.1 + t.2.1 else s.2.2), s.2.1 + t.1, (if s.2.1 + t.1 + t.2.1 > s.2.2 then s.2.1 + t.1 + t.2.1 else s.2.2) + t.2.2) := by
  subst h
  simp only [stp, max_py, Int.max_comm]
theorem given_true (n : Nat) : given n (fun _ => true) (fun _ => V.bl true) = (List.replicate n true).map V.bl := by
  rw [given_all, List.map_replicate]
  refine List.ext_getElem (by simp) fun i h1 h2 => by simp
theorem all_true (n : Nat) : (List.replicate n true).all id = true := by
  induction n with
  | zero => rfl
  | succ n ih => rw [List.replicate_succ, List.all_cons, ih]; rfl
section
variable {K : PySem.W.Frag} {σ : L2.St} {H : Hp} {D : Ends} {tz : TS} {dvs : List V} {E : XK} {sp : Sp}
theorem Made.add {H0 H : Hp} {l p : Addr} {zs : List (Addr × Th)} {t : Th} (m : Made H0 H l zs) (nl : H0 l = none) (np : H p = none) (hb : Bd t) : Made H0 (upd (upd H p (.tup (iv t))) l (.lst (tv zs ++ [.ref p]))) l (zs ++ [(p, t)]) := by
  have hl : (upd H p (.tup (iv t))) l = some (.lst (tv zs)) := Ex.new np _ _ m.ls
  refine ⟨Ex.mut (m.ex.trans (Ex.new np)) nl, ?_, fun z hz => ?_⟩
  · rw [upd_same, show [V.ref p] = tv [(p, t)] from rfl, tv_app]
  · rcases List.mem_append.mp hz with hz | hz
    · obtain ⟨a, b⟩ := m.it z hz
      refine ⟨?_, b⟩
      rw [upd_ne (ne_of a m.ls (by intro z; cases z)), upd_ne (ne_of_none a np)]
      exact a
    · obtain rfl := List.mem_singleton.mp hz
      refine ⟨?_, hb⟩
      have h2 : (upd H p (.tup (iv t))) p = some (.tup (iv t)) := upd_same
      rw [upd_ne (ne_of h2 hl (by intro z; cases z)), upd_same]
/-- [(0, 0)] * n -/
theorem ev_zero {tn : TE} {n : Nat} {Q : VK} (hn : ∀ H1, Ex H H1 → Ev tn σ H1 (.int (n : Int))) (hz : n ≤ 1000) (k : ∀ (q : Addr) (bs : List (Addr × (Int × Int))) (H1 : Hp), Ex H H1 → H q = none → Prs H1 q bs → ths bs = List.replicate n (0, 0) → Q (.ref q) H1) :
    tOp rRep (tLst (tCons (tTup (tCons (tC (.int 0)) (tCons (tC (.int 0)) tNil))) tNil)) tn σ H Q := by
  refine ⟨(by show 2 ≤ sizeLine; decide), fun t nt => ⟨(by show 1 ≤ sizeLine; decide), fun p0 np0 => ?_⟩⟩
  have e1 : Ex H (upd (upd H t (.tup [.int 0, .int 0])) p0 (.lst [.ref t])) := (Ex.new nt).trans (Ex.new np0)
  refine hn _ e1 _ (Ex.refl _) _ fun H2 e2 => ?_
  have ht : (upd (upd H t (.tup [.int 0, .int 0])) p0 (.lst [.ref t])) t = some (.tup [.int 0, .int 0]) := by
    rw [upd_ne (fun z => by rw [z, upd_same] at np0; cases np0), upd_same]
  refine ⟨p0, (n : Int), [.ref t], rfl, rfl, e2 _ _ upd_same, by omega, by omega, ?_, fun q nq => ?_⟩
  · show 1 * (n : Int).toNat ≤ sizeLine
    rw [Int.toNat_natCast, Nat.one_mul]
    exact sz_of (by omega)
  refine k q (List.replicate n (t, (0, 0))) _ ((e1.trans e2).trans (Ex.new nq)) (fresh_back (e1.trans e2) nq) ⟨?_, fun z hz => ?_⟩ ?_
  · rw [upd_same, Int.toNat_natCast, flat1]
    unfold tv
    rw [List.map_replicate]
  · obtain rfl := List.eq_of_mem_replicate hz
    exact Ex.new nq _ _ (e2 _ _ ht)
  · unfold ths
    rw [List.map_replicate]
/-- xs[c] = (x, y) -/
theorem s_prs {H0 : Hp} {d : Addr} {bs : List (Addr × (Int × Int))} {c : Nat} {x y : Int} {ta : TA} {to ti : TE} (hP : Prs H d bs) (hc : c < bs.length) (e0 : Ex H0 H) (nd : H0 d = none) (h1 : EvA ta σ H [.int x, .int y]) (h2 : Ev to σ H (.ref d)) (h3 : Ev ti σ H (.int (c : Int)))
    (k : ∀ r H1, Ex H0 H1 → Prs H1 d (bs.set c (r, (x, y))) → D.nx σ H1) : tAsg (tTup ta) (gSub to ti rSetL) D σ H := by
  refine h1 H (Ex.refl H) _ fun H1 e1 => ⟨(by show 2 ≤ sizeLine; decide), fun r nr => ?_⟩
  refine h2 _ (e1.trans (Ex.new nr)) _ fun H2 e2 => h3 H2 ((e1.trans (Ex.new nr)).trans e2) _ fun H3 e3 => ?_
  have e13 := ((e1.trans (Ex.new (o := .tup [.int x, .int y]) nr)).trans e2).trans e3
  have hr : H3 r = some (.tup [.int x, .int y]) := e3 _ _ (e2 _ _ upd_same)
  refine ⟨d, tv bs, (c : Int), c, rfl, rfl, e13 _ _ hP.1, ixN_nat (by rw [tv_len]; exact hc), ?_⟩
  refine k r _ (Ex.mut (e0.trans e13) nd) ⟨?_, fun z hz => ?_⟩
  · rw [upd_same, set_tv]
  · rcases List.mem_or_eq_of_mem_set hz with hz | rfl
    · have h := e13 _ _ (hP.2 z hz)
      rw [upd_ne (ne_of h (e13 _ _ hP.1) (by intro z; cases z))]
      exact h
    · rw [upd_ne (ne_of hr (e13 _ _ hP.1) (by intro z; cases z))]
      exact hr
theorem q_prs {H0 : Hp} {d : Addr} {bs : List (Addr × (Int × Int))} {c : Nat} {x y : Int} {ta : TA} {to ti : TE} (hP : Prs H d bs) (hc : c < bs.length) (e0 : Ex H0 H) (nd : H0 d = none) (h1 : EvA ta σ H [.int x, .int y]) (h2 : Ev to σ H (.ref d)) (h3 : Ev ti σ H (.int (c : Int)))
    (k : ∀ r H1, Ex H0 H1 → Prs H1 d (bs.set c (r, (x, y))) → tz D σ H1) : tSeq (tAsg (tTup ta) (gSub to ti rSetL)) tz D σ H := s_prs (D := { D with nx := tz D }) hP hc e0 nd h1 h2 h3 k
/-- x = f(..), by the promise itself -/
theorem q_asgX {i : Nat} {ta : TA} {vs : List V} (h : EvA ta σ H vs) (k : ∀ H1, Ex H H1 → sp (vs ++ dvs) H1 (fun v H2 => tz D (σ.set i (some v)) H2) E) : tSeq (tAsg (tCall sp dvs E ta) (gName i)) tz D σ H := h H (Ex.refl H) _ k
theorem el_revL {te : TE} {b : Addr} {xs : List V} (h : Ev te σ H (.ref b)) (hs : SqL K H b xs) : EvL (tRevL K te) σ H xs.reverse := fun H1 e Q q =>
  h H1 e _ fun H2 e2 => ⟨b, xs, rfl, ex_l (e.trans e2) hs, fun p hp => q p _ (fresh_back e2 hp) (e2.trans (Ex.new hp)) upd_same⟩
theorem el_cat {tl tr : TE} {xs ys : List V} (h1 : EvL tl σ H xs) (h2 : EvL tr σ H ys) (hz : xs.length + ys.length ≤ 100000) : EvL (tOp rCat tl tr) σ H (xs ++ ys) := fun H1 e Q q =>
  h1 H1 e _ fun p H2 _ e2 hp => h2 H2 (e.trans e2) _ fun r H3 _ e3 hr => ⟨p, r, xs, ys, rfl, rfl, e3 _ _ hp, hr, sz_of hz, fun u hu => q u _ (fresh_back (e2.trans e3) hu) ((e2.trans e3).trans (Ex.new hu)) upd_same⟩
/-- f(x, a new list) -/
theorem ev_callVL {t1 t2 : TE} {x z : V} {xs : List V} (h1 : Ev t1 σ H x) (h2 : EvL t2 σ H xs) (hs : ∀ p H1, Ex H H1 → H1 p = some (.lst xs) → ∀ Q : VK, (∀ H2, Ex H1 H2 → Q z H2) → sp ([x, .ref p] ++ dvs) H1 Q E) : Ev (tCall sp dvs E (tCons t1 (tCons t2 tNil))) σ H z := fun H1 e Q q =>
  h1 H1 e _ fun H2 e2 => h2 H2 (e.trans e2) _ fun p H3 _ e3 hp => hs p H3 ((e.trans e2).trans e3) hp Q fun H4 e4 => q H4 ((e2.trans e3).trans e4)
/-- f(a new list, x) -/
theorem ev_callLV {t1 t2 : TE} {x z : V} {xs : List V} (h1 : EvL t1 σ H xs) (h2 : Ev t2 σ H x) (hs : ∀ p H1, Ex H H1 → H1 p = some (.lst xs) → ∀ Q : VK, (∀ H2, Ex H1 H2 → Q z H2) → sp ([.ref p, x] ++ dvs) H1 Q E) : Ev (tCall sp dvs E (tCons t1 (tCons t2 tNil))) σ H z := fun H1 e Q q =>
  h1 H1 e _ fun p H2 _ e2 hp => h2 H2 (e.trans e2) _ fun H3 e3 => hs p H3 ((e.trans e2).trans e3) (e3 _ _ hp) Q fun H4 e4 => q H4 ((e2.trans e3).trans e4)
end
section
variable {K : PySem.W.Frag} {σ : L2.St} {H : Hp} {D : Ends}
/-- for x, y in zip(xs, ys), two lists of one length -/
theorem s_forZ {tu : TS} {g : TG} {ta : TA} {a b : Addr} {xs ys : List V} (h : EvA ta σ H [.ref a, .ref b]) (hx : SqL K H a xs) (hy : SqL K H b ys) (hl : xs.length = ys.length) (Pv : Nat → L2.St → Hp → Prop) (h0 : ∀ H1, Ex H H1 → Pv 0 σ H1) (hq : ∀ i σ' H', i ≤ xs.length → Pv i σ' H' → SqL K H' a xs ∧ SqL K H' b ys)
    (hs : ∀ (i : Nat) x y T σ' H', xs[i]? = some x → ys[i]? = some y → Pv i σ' H' → H' T = none → g (.ref T) σ' (upd H' T (.tup [x, y])) fun σ2 H2 => tu { D with nx := Pv (i + 1), ct := Pv (i + 1), bk := D.nx } σ2 H2) (hd : ∀ σ' H', Pv xs.length σ' H' → D.nx σ' H') : tFor (iZip K ta) g tu D σ H :=
  h H (Ex.refl H) _ fun H1 e => ⟨a, b, xs, ys, rfl, ex_l e hx, ex_l e hy, for_it (walk_zip (n := xs.length) (by rw [hl, Nat.min_self])) Pv (h0 H1 e) hq (fun i x σ' H' H2 hi p y => by
    obtain ⟨T, x1, x2, rfl, nT, rfl, e1, e2⟩ := y
    exact hs i x1 x2 T σ' H' e1 e2 p nT) hd⟩
end
theorem q_forZ {K : PySem.W.Frag} {σ : L2.St} {H : Hp} {D : Ends} {tz : TS} {tu : TS} {g : TG} {ta : TA} {a b : Addr} {xs ys : List V} (h : EvA ta σ H [.ref a, .ref b]) (hx : SqL K H a xs) (hy : SqL K H b ys) (hl : xs.length = ys.length) (Pv : Nat → L2.St → Hp → Prop) (h0 : ∀ H1, Ex H H1 → Pv 0 σ H1) (hq : ∀ i σ' H', i ≤ xs.length → Pv i σ' H' → SqL K H' a xs ∧ SqL K H' b ys)
    (hs : ∀ (i : Nat) x y T σ' H', xs[i]? = some x → ys[i]? = some y → Pv i σ' H' → H' T = none → g (.ref T) σ' (upd H' T (.tup [x, y])) fun σ2 H2 => tu { D with nx := Pv (i + 1), ct := Pv (i + 1), bk := tz D } σ2 H2) (hd : ∀ σ' H', Pv xs.length σ' H' → tz D σ' H') : tSeq (tFor (iZip K ta) g tu) tz D σ H := s_forZ (D := { D with nx := tz D }) h hx hy hl Pv h0 hq hs hd
theorem here_at {bench : Int} (h : bench = 1 ∨ bench = 2) (t : Th) : atI (iv t) (2 * bench - 2) = some (.int (hereOf bench t)) := by
  rcases h with rfl | rfl
  · exact atI_nat (j := 0) rfl
  · exact atI_nat (j := 2) rfl
theorem there_at {bench : Int} (h : bench = 1 ∨ bench = 2) (t : Th) : atI (iv t) (4 - 2 * bench) = some (.int (thereOf bench t)) := by
  rcases h with rfl | rfl
  · exact atI_nat (j := 2) rfl
  · exact atI_nat (j := 0) rfl
def marks (n : Nat) (ap : List Int) : List Bool := (List.range n).map (mkOf ap)
theorem marks_nil (n : Nat) : marks n [] = List.replicate n false := by
  unfold marks
  refine List.ext_getElem (by simp) fun i h1 h2 => ?_
  rw [List.getElem_map, List.getElem_replicate]
  rfl
theorem marks_set {n : Nat} {ap : List Int} {j : Nat} (hj : j < n) : (marks n ap).set j true = marks n (ap ++ [(j : Int)]) := by
  unfold marks
  refine List.ext_getElem (by simp) fun i h1 h2 => ?_
  rw [List.getElem_set, List.getElem_map, List.getElem_map, List.getElem_range]
  unfold mkOf
  by_cases e : j = i
  · subst e
    rw [if_pos rfl, decide_eq_true (by simp)]
  · rw [if_neg e]
    have : ((i : Int) ∈ ap) ↔ ((i : Int) ∈ ap ++ [(j : Int)]) := by
      simp only [List.mem_append, List.mem_singleton]
      refine ⟨.inl, fun h => h.elim id fun q => ?_⟩
      omega
    exact decide_eq_decide.mpr this
theorem marks_len (n : Nat) (ap : List Int) : (marks n ap).length = n := by unfold marks; rw [List.length_map, List.length_range]
theorem marks_get {n : Nat} {ap : List Int} {i : Nat} {x : V} (h : ((marks n ap).map V.bl)[i]? = some x) : i < n ∧ x = .bl (mkOf ap i) := by
  rw [List.getElem?_map] at h
  unfold marks at h
  rw [List.getElem?_map] at h
  by_cases hi : i < n
  · rw [List.getElem?_range hi] at h
    exact ⟨hi, (Option.some.inj h).symm⟩
  · rw [List.getElem?_eq_none (by rw [List.length_range]; omega)] at h
    cases h
theorem eqv_ints : ∀ a b : List Int, PyData.eqvAll (a.map PyData.int) (b.map PyData.int) = decide (a = b)
  | [], [] => rfl
  | [], _ :: _ => rfl
  | _ :: _, [] => rfl
  | x :: a, y :: b => by
    have ih := eqv_ints a b
    rw [List.map_cons, List.map_cons, PyData.eqvAll, ih]
    by_cases h : x = y <;> by_cases h2 : a = b <;> simp [PyData.eqv, h, h2]
theorem dpAll_ints {K : PySem.W.Frag} {H : Hp} : ∀ is : List Int, DpAll K H (is.map V.int) (is.map PyData.int)
  | [] => .nil
  | c :: r => .cons (.int _) (dpAll_ints r)
theorem sh_ints (is : List Int) : SeqAt.shaped (.list (is.map PyData.int)) = true := sh_map (f := PyData.int) (fun _ => rfl) (fun _ => by show 0 ≤ 1; decide) is
theorem rg_ints (n : Nat) : rgV 0 (n : Int) = (asI (List.range n)).map V.int := by
  rw [rg_ov]
  unfold ov asI
  rw [List.map_map]
  rfl
theorem ov_ints (o : List Nat) : ov o = (asI o).map V.int := by
  unfold ov asI
  rw [List.map_map]
  rfl

/-! ### targets, comprehensions with any target -/
def EvG (g : TG) (x : V) (σ : L2.St) (H : Hp) (σ2 : L2.St) : Prop := ∀ H1, Ex H H1 → ∀ Q : L2.St → Hp → Prop, Q σ2 H1 → g x σ H1 Q
section
variable {K : PySem.W.Frag} {σ σ2 σ3 σ4 : L2.St} {H : Hp} {tl te : TE} {t : TT} {ta : TA} {g g1 g2 g3 : TG} {D : Ends} {tu tz : TS}
theorem eg_name {i : Nat} {x : V} : EvG (gName i) x σ H (σ.set i (some x)) := fun _ _ _ q => q
theorem eg_2 {a : Addr} {x y : V} (h : SqT K H a [x, y]) (h1 : EvG g1 x σ H σ2) (h2 : EvG g2 y σ2 H σ3) : EvG (gTup K 2 (gCons g1 (gCons g2 gNil))) (.ref a) σ H σ3 := fun H1 e Q q =>
  ⟨a, _, rfl, ex_t e h, rfl, _, _, rfl, h1 H1 e _ ⟨_, _, rfl, h2 H1 e _ ⟨rfl, q⟩⟩⟩
theorem eg_3 {a : Addr} {x y z : V} (h : SqT K H a [x, y, z]) (h1 : EvG g1 x σ H σ2) (h2 : EvG g2 y σ2 H σ3) (h3 : EvG g3 z σ3 H σ4) : EvG (gTup K 3 (gCons g1 (gCons g2 (gCons g3 gNil)))) (.ref a) σ H σ4 := fun H1 e Q q =>
  ⟨a, _, rfl, ex_t e h, rfl, _, _, rfl, h1 H1 e _ ⟨_, _, rfl, h2 H1 e _ ⟨_, _, rfl, h3 H1 e _ ⟨rfl, q⟩⟩⟩⟩
/-- over a list -/
theorem el_lcG {a : Addr} {xs : List V} {vs : List Nat} (f : Nat → Bool) (v : Nat → V) (s : Nat → L2.St) (h : Ev tl σ H (.ref a)) (hx : SqL K H a xs) (hz : xs.length ≤ 40000) (hg : ∀ (i : Nat) (x : V) H1, Ex H H1 → xs[i]? = some x → EvG g x (wipe σ vs) H1 (s i)) (hw : ∀ i, i < xs.length → wipe (s i) vs = wipe σ vs)
    (ht : ∀ (i : Nat) (x : V) H1, Ex H H1 → xs[i]? = some x → EvT t (s i) H1 (f i)) (he : ∀ (i : Nat) (x : V) H1, Ex H H1 → xs[i]? = some x → f i = true → Ev te (s i) H1 (v i)) : EvL (tLc (iList K tl) g t te vs) σ H (given xs.length f v) := fun H0 e Q q => h H0 e _ fun H1 e1 => ⟨a, rfl, ⟨xs, ex_l (e.trans e1) hx⟩, fun Dl hD =>
  lc_list (xs := xs) (Cw H1 f v Dl) ⟨hD, Ex.new hD, upd_same⟩ (fun i H' _ p => ex_l ((e.trans e1).trans p.2.1) hx) (fun i x H' hi p => hg i x H1 (e.trans e1) hi H' p.2.1 _ ⟨hw i (List.getElem?_eq_some_iff.mp hi).1, cw_turn p (by have := (List.getElem?_eq_some_iff.mp hi).1; omega) (ht i x H1 (e.trans e1) hi) (fun hf => he i x H1 (e.trans e1) hi hf)⟩)
    (fun H' p => q Dl H' (fresh_back e1 p.1) (e1.trans p.2.1) p.2.2)⟩
/-- over a new list -/
theorem el_lcNG {xs : List V} {vs : List Nat} (f : Nat → Bool) (v : Nat → V) (s : Nat → L2.St) (h : EvL tl σ H xs) (hz : xs.length ≤ 40000) (hg : ∀ (i : Nat) (x : V) H1, Ex H H1 → xs[i]? = some x → EvG g x (wipe σ vs) H1 (s i)) (hw : ∀ i, i < xs.length → wipe (s i) vs = wipe σ vs)
    (ht : ∀ (i : Nat) (x : V) H1, Ex H H1 → xs[i]? = some x → EvT t (s i) H1 (f i)) (he : ∀ (i : Nat) (x : V) H1, Ex H H1 → xs[i]? = some x → f i = true → Ev te (s i) H1 (v i)) : EvL (tLc (iList K tl) g t te vs) σ H (given xs.length f v) := fun H0 e Q q => h H0 e _ fun a H1 ha e1 hx => ⟨a, rfl, ⟨xs, sq_of hx⟩, fun Dl hD =>
  lc_list (xs := xs) (Cw H1 f v Dl) ⟨hD, Ex.new hD, upd_same⟩ (fun i H' _ p => sq_of (p.2.1 a _ hx)) (fun i x H' hi p => hg i x H1 (e.trans e1) hi H' p.2.1 _ ⟨hw i (List.getElem?_eq_some_iff.mp hi).1, cw_turn p (by have := (List.getElem?_eq_some_iff.mp hi).1; omega) (ht i x H1 (e.trans e1) hi) (fun hf => he i x H1 (e.trans e1) hi hf)⟩)
    (fun H' p => q Dl H' (fresh_back e1 p.1) (e1.trans p.2.1) p.2.2)⟩
/-- a word of a comprehension over what makes a tuple a turn -/
theorem cw_new {H H' : Hp} {f : Nat → Bool} {v : Nat → V} {Dl T : Addr} {o : HO} {i : Nat} (p : Cw H f v Dl i H') (nT : H' T = none) : Cw H f v Dl i (upd H' T o) := by
  obtain ⟨p1, p2, p3⟩ := p
  exact ⟨p1, p2.trans (Ex.new nT), Ex.new nT _ _ p3⟩
/-- over enumerate(xs) -/
theorem el_lcE {a : Addr} {xs : List V} {vs : List Nat} (f : Nat → Bool) (v : Nat → V) (s : Nat → L2.St) (h : EvA ta σ H [.ref a]) (hx : SqL K H a xs) (hz : xs.length ≤ 40000) (hg : ∀ (i : Nat) (x : V) T H1, Ex H H1 → xs[i]? = some x → H1 T = some (.tup [.int (i : Int), x]) → EvG g (.ref T) (wipe σ vs) H1 (s i)) (hw : ∀ i, i < xs.length → wipe (s i) vs = wipe σ vs)
    (ht : ∀ (i : Nat) (x : V) H1, Ex H H1 → xs[i]? = some x → EvT t (s i) H1 (f i)) (he : ∀ (i : Nat) (x : V) H1, Ex H H1 → xs[i]? = some x → f i = true → Ev te (s i) H1 (v i)) : EvL (tLc (iEnum K ta) g t te vs) σ H (given xs.length f v) := fun H0 e Q q => h H0 e _ fun H1 e1 => ⟨a, xs, rfl, ex_l (e.trans e1) hx, fun Dl hD =>
  lc_it walk_enum (Cw H1 f v Dl) ⟨hD, Ex.new hD, upd_same⟩ (fun i H' _ p => ex_l ((e.trans e1).trans p.2.1) hx) (fun i x H' H'' hi p y => by
    obtain ⟨T, x1, x2, rfl, nT, rfl, y1, y2⟩ := y
    obtain rfl : x1 = .int (i : Int) := (Option.some.inj y1).symm
    have p2 := cw_new (o := .tup [.int (i : Int), x2]) p nT
    refine hg i x2 T (upd H' T (.tup [.int (i : Int), x2])) ((e.trans e1).trans p2.2.1) y2 upd_same _ (Ex.refl _) _ ⟨hw i hi, cw_turn p2 (by omega) (ht i x2 H1 (e.trans e1) y2) (fun hf => he i x2 H1 (e.trans e1) y2 hf)⟩)
    (fun H' p => q Dl H' (fresh_back e1 p.1) (e1.trans p.2.1) p.2.2)⟩
/-! ### fields and methods -/
theorem ev_fld {a C dx : Addr} {fs : List (Str × V)} {f : Str} {v : V} (h : Ev te σ H (.ref a)) (ha : H a = some (.ins C dx fs)) (c : Cls K C) (n : NoAttr K C f) (l : fs.lookup f = some v) : Ev (tFld K te f) σ H v := fun H1 e Q q => h H1 e _ fun H2 e2 => ⟨a, C, dx, fs, v, rfl, e2 _ _ (e _ _ ha), c, n, l, q H2 e2⟩
theorem ev_meth {a C dx : Addr} {fs : List (Str × V)} {m : Str} {z : V} {sp : Sp} {dvs vs : List V} {E : XK} (h : Ev te σ H (.ref a)) (ha : H a = some (.ins C dx fs)) (l : fs.lookup m = none) (hv : EvA ta σ H vs) (hs : SpV sp (.ref a :: (vs ++ dvs)) H z) : Ev (tMeth C m sp dvs E te ta) σ H z := fun H1 e Q q =>
  h H1 e _ fun H2 e2 => ⟨a, dx, fs, rfl, e2 _ _ (e _ _ ha), l, hv H2 (e.trans e2) _ fun H3 e3 => hs H3 ((e.trans e2).trans e3) Q (fun H4 e4 => q H4 ((e2.trans e3).trans e4)) E⟩
/-- all but what stands at x -/
def Exb (x : Addr) (H H' : Hp) : Prop := ∀ b o, b ≠ x → H b = some o → H' b = some o
theorem Exb.of {x : Addr} {H H' : Hp} (e : Ex H H') : Exb x H H' := fun b o _ h => e b o h
theorem Exb.trans {x : Addr} {H H1 H2 : Hp} (a : Exb x H H1) (b : Exb x H1 H2) : Exb x H H2 := fun c o n h => b c o n (a c o n h)
theorem Exb.set {x : Addr} {H : Hp} {o : HO} : Exb x H (upd H x o) := fun b u n h => by
  rw [upd_ne n]
  exact h
/-- what is new to H may change behind it -/
theorem Exb.ex {x : Addr} {H H1 H2 : Hp} (e : Ex H H1) (b : Exb x H1 H2) (n : H x = none) : Ex H H2 := fun c o h => b c o (ne_of_none h n) (e c o h)
theorem ty_ins {a C dx : Addr} {fs : List (Str × V)} (h : H a = some (.ins C dx fs)) (cl : Cls K C) (ha : PySem.W.findIn K (.ref C) "__class__" = some (some (.builtin "object.__class__"))) (hn : PySem.W.specialIn K (.builtin "object.__class__") "__get__" = some (some (.builtin "getset_descriptor.__get__")))
    (htk : PySem.W.takesIn K (.builtin "object.__class__") = some true) (hm : PySem.W.mroIn K C (.type "object") = some true) : ∀ H1, Ex H H1 → TyX K H1 (.ref a) (.ref C) := fun H1 e => .base (.ins (e _ _ h) cl ha hn htk hm)
/-- isinstance with a class of the program's own -/
theorem rc_isC {x : V} {C : Addr} {t : Value} {b : Bool} (ty : ∀ H1, Ex H H1 → TyX K H1 x t) (k : PySem.W.kitOne K t (.ref C) = some b) : RC (rIsi K) [x, .ref C] H (.bl b) := fun H1 e Q q => ⟨x, .ref C, t, .ref C, b, rfl, .own C, ty H1 e, k, q H1 (Ex.refl H1)⟩
end

/-! ### things made anew -/
structure MadeT (H0 H : Hp) (l : Addr) (zs : List (Addr × Th)) : Prop where
  ex : Ex H0 H
  ls : H l = some (.lst (tv zs))
  it : ∀ z ∈ zs, H z.1 = some (.tup (iv z.2))
theorem MadeT.more {H0 H H1 : Hp} {l : Addr} {zs : List (Addr × Th)} (m : MadeT H0 H l zs) (e : Ex H H1) : MadeT H0 H1 l zs := ⟨m.ex.trans e, e _ _ m.ls, fun z hz => e _ _ (m.it z hz)⟩
theorem MadeT.add {H0 H : Hp} {l p : Addr} {zs : List (Addr × Th)} {t : Th} (m : MadeT H0 H l zs) (nl : H0 l = none) (np : H p = none) : MadeT H0 (upd (upd H p (.tup (iv t))) l (.lst (tv zs ++ [.ref p]))) l (zs ++ [(p, t)]) := by
  have hl : (upd H p (.tup (iv t))) l = some (.lst (tv zs)) := Ex.new np _ _ m.ls
  refine ⟨Ex.mut (m.ex.trans (Ex.new np)) nl, ?_, fun z hz => ?_⟩
  · rw [upd_same, show [V.ref p] = tv [(p, t)] from rfl, tv_app]
  · rcases List.mem_append.mp hz with hz | hz
    · have a := m.it z hz
      rw [upd_ne (ne_of a m.ls (by intro z; cases z)), upd_ne (ne_of_none a np)]
      exact a
    · obtain rfl := List.mem_singleton.mp hz
      have h2 : (upd H p (.tup (iv t))) p = some (.tup (iv t)) := upd_same
      rw [upd_ne (ne_of h2 hl (by intro z; cases z)), upd_same]
section
variable {K : PySem.W.Frag} {σ : L2.St} {H : Hp}
/-- [(z, y, x) for x, y, z in things] -/
theorem el_turn {tl : TE} {l : Addr} {zs : List (Addr × Th)} {i j k : Nat} {vs : List Nat} {Q : VK} (h : Ev tl σ H (.ref l)) (hT : Ths K H l zs) (hi : ∀ x y z : V, ((((wipe σ vs).set i (some x)).set j (some y)).set k (some z))[i]? = some (some x)) (hj : ∀ x y z : V, ((((wipe σ vs).set i (some x)).set j (some y)).set k (some z))[j]? = some (some y))
    (hk : ∀ x y z : V, ((((wipe σ vs).set i (some x)).set j (some y)).set k (some z))[k]? = some (some z)) (hw : ∀ x y z : V, wipe ((((wipe σ vs).set i (some x)).set j (some y)).set k (some z)) vs = wipe σ vs)
    (q : ∀ p ws H', H p = none → Ex H H' → Ths K H' p ws → H' p = some (.lst (tv ws)) → ths ws = (ths zs).map turn → Q (.ref p) H') : tLc (iList K tl) (gTup K 3 (gCons (gName i) (gCons (gName j) (gCons (gName k) gNil)))) tYes (tTup (tCons (tVar k) (tCons (tVar j) (tCons (tVar i) tNil)))) vs σ H Q := by
  refine h H (Ex.refl H) _ fun H2 e2 => ?_
  have hT2 := hT.mono e2
  refine ⟨l, rfl, ⟨_, hT2.ls⟩, fun t nt => lc_list (K := K) (a := l) (xs := tv zs) (fun i H' => ∃ ws : List (Addr × Th), MadeT H2 H' t ws ∧ ths ws = ((ths zs).take i).map turn) ⟨[], ⟨Ex.new nt, upd_same, (fun z hz => nomatch hz)⟩, rfl⟩ (fun i H' _ ⟨ws, m, _⟩ => ex_l m.ex hT2.ls) ?_ ?_⟩
  · rintro c x H' hi' ⟨ws, m, hw'⟩
    obtain ⟨z, hzi, rfl⟩ := tv_get hi'
    have hzm : z ∈ zs := List.mem_of_getElem? hzi
    have hwl : ws.length ≤ zs.length := by
      rw [← ths_len ws, hw', List.length_map, List.length_take, ths_len]
      exact Nat.min_le_right _ _
    refine eg_3 (H := H') (ex_t m.ex (hT2.it z hzm)) eg_name eg_name eg_name H' (Ex.refl H') _ ⟨hw _ _ _, ?_⟩
    refine et_yes (H := H') H' (Ex.refl H') _ fun H4 e4 => ?_
    have m := m.more e4
    refine iteT ?_
    refine ⟨_, hk _ _ _, _, hj _ _ _, _, hi _ _ _, (by show 3 ≤ sizeLine; decide), fun p np => ⟨tv ws, Ex.new np _ _ m.ls, ?_, ws ++ [(p, turn z.2)], m.add (t := turn z.2) nt np, ?_⟩⟩
    · rw [tv_len]
      have := hT.le
      exact sz_lt (by omega)
    · have e : (ths zs)[c]? = some z.2 := by
        unfold ths
        rw [List.getElem?_map, hzi]
        rfl
      rw [List.take_add_one, e, List.map_append, ← hw']
      unfold ths
      rw [List.map_append]
      rfl
  · rintro H3 ⟨ws, m, hw'⟩
    rw [tv_len, ← ths_len zs, List.take_length] at hw'
    have hwl : ws.length = zs.length := by rw [← ths_len ws, hw', List.length_map, ths_len]
    refine q t ws H3 (fresh_back e2 nt) (e2.trans m.ex) ⟨sq_of m.ls, fun z hz => st_of (m.it z hz), fun z hz => ?_, by have := hT.le; omega⟩ m.ls hw'
    have : z.2 ∈ ths ws := List.mem_map.mpr ⟨z, hz, rfl⟩
    rw [hw'] at this
    obtain ⟨y, hy, e⟩ := List.mem_map.mp this
    rw [← e]
    exact (ths_nn hT y hy).turn
end
/-- some of the things, in their order -/
def subs (zs : List (Addr × Th)) (f : Nat → Bool) : List (Addr × Th) := ((List.range zs.length).filter f).map fun i => zs.getD i (0, th0)
theorem given_subs (zs : List (Addr × Th)) (f : Nat → Bool) : given zs.length f (fun i => .ref (zs.getD i (0, th0)).1) = tv (subs zs f) := by
  unfold given subs tv
  rw [List.map_map]
  rfl
theorem subs_mem {zs : List (Addr × Th)} {f : Nat → Bool} {z : Addr × Th} (h : z ∈ subs zs f) : z ∈ zs := by
  obtain ⟨i, hi, rfl⟩ := List.mem_map.mp h
  have := List.mem_range.mp (List.mem_filter.mp hi).1
  rw [List.getD_eq_getElem?_getD, List.getElem?_eq_getElem this]
  exact List.getElem_mem this
theorem subs_len (zs : List (Addr × Th)) (f : Nat → Bool) : (subs zs f).length ≤ zs.length := by
  unfold subs
  rw [List.length_map]
  have h := List.length_filter_le f (List.range zs.length)
  rw [List.length_range] at h
  exact h
theorem Ths.subs {K : PySem.W.Frag} {H : Hp} {l p : Addr} {zs : List (Addr × Th)} {f : Nat → Bool} (h : Ths K H l zs) (hp : H p = some (.lst (tv (Bp.subs zs f)))) : Ths K H p (Bp.subs zs f) :=
  ⟨sq_of hp, fun z hz => h.it z (subs_mem hz), fun z hz => h.nn z (subs_mem hz), Nat.le_trans (subs_len zs f) h.le⟩
theorem ths_subs {ts : List Th} {bench : Int} {zs : List (Addr × Th)} (h : ths zs = ts.map (facing bench)) (f : Nat → Bool) : ths (subs zs f) = sel ts bench f (List.range ts.length) := by
  have hl : zs.length = ts.length := by rw [← ths_len zs, h, List.length_map]
  unfold subs sel
  rw [hl]
  unfold ths at h ⊢
  rw [List.map_map]
  refine List.map_congr_left fun i hi => ?_
  have hi := List.mem_range.mp (List.mem_filter.mp hi).1
  show (zs.getD i (0, th0)).2 = facing bench (ts.getD i th0)
  have e : (zs.map fun z => z.2)[i]? = (ts.map (facing bench))[i]? := by rw [h]
  rw [List.getElem?_map, List.getElem?_map, List.getElem?_eq_getElem hi, List.getElem?_eq_getElem (by omega)] at e
  rw [List.getD_eq_getElem?_getD, List.getD_eq_getElem?_getD, List.getElem?_eq_getElem hi, List.getElem?_eq_getElem (by omega : i < zs.length)]
  exact Option.some.inj e
theorem given_bools {α : Type} (l : List α) (d : α) (f : α → Bool) : given l.length (fun _ => true) (fun i => .bl (f (l.getD i d))) = (l.map f).map V.bl := by
  rw [given_all, range_map l d (fun x => V.bl (f x)), List.map_map]
  rfl
theorem given_ints {α : Type} (l : List α) (d : α) (f : α → Int) : given l.length (fun _ => true) (fun i => .int (f (l.getD i d))) = (l.map f).map V.int := by
  rw [given_all, range_map l d (fun x => V.int (f x)), List.map_map]
  rfl
theorem tv_at {zs : List (Addr × Th)} {i : Nat} {x : V} (h : (tv zs)[i]? = some x) : i < zs.length ∧ x = .ref (zs.getD i (0, th0)).1 ∧ zs.getD i (0, th0) ∈ zs := by
  obtain ⟨z, hz, rfl⟩ := tv_get h
  have e : zs.getD i (0, th0) = z := by rw [List.getD_eq_getElem?_getD, hz]; rfl
  refine ⟨(List.getElem?_eq_some_iff.mp hz).1, by rw [e], ?_⟩
  rw [e]
  exact List.mem_of_getElem? hz
theorem ints_at {is : List Int} {i : Nat} {x : V} (h : (is.map V.int)[i]? = some x) : ∃ y, is[i]? = some y ∧ x = .int y := by
  rw [List.getElem?_map] at h
  cases hq : is[i]? with
  | none => rw [hq] at h; cases h
  | some y => rw [hq] at h; exact ⟨y, rfl, (Option.some.inj h).symm⟩
theorem A_sum (l : List Th) : A l = (l.map fun t => t.1).sum := by
  induction l with
  | nil => rfl
  | cons t r ih => rw [List.map_cons, List.sum_cons, ← ih]; rfl
/-- a bar, yes or no -/
noncomputable def barB (ts : List Th) (bench : Int) (ap : List Int) (L : Int) : Bool := @decide (BarW ts bench ap L) (Classical.propDecidable _)
theorem barB_iff {ts : List Th} {bench : Int} {ap : List Int} {L : Int} : barB ts bench ap L = true ↔ BarW ts bench ap L := by unfold barB; exact @decide_eq_true_iff _ (Classical.propDecidable _)
theorem barB_yes {ts : List Th} {bench : Int} {ap : List Int} {L : Int} (h : BarW ts bench ap L) : barB ts bench ap L = true := barB_iff.mpr h
theorem barB_no {ts : List Th} {bench : Int} {ap : List Int} {L : Int} (h : ¬ BarW ts bench ap L) : barB ts bench ap L = false := by
  cases e : barB ts bench ap L with
  | false => rfl
  | true => exact absurd (barB_iff.mp e) h
/-- isinstance of two classes of the program's own -/
theorem kit_one {K : PySem.W.Frag} {A B : Addr} {b : Bool} (h1 : PySem.W.subIn K (.ref A) (.ref B) = some b) (h2 : PySem.W.isClsIn K B = true) (h3 : PySem.W.typeIn K (.ref B) = some (.type "type")) (h4 : PySem.W.subIn K (.ref A) (.ref A) = some true) : PySem.W.kitOne K (.ref A) (.ref B) = some b := by
  unfold PySem.W.kitOne
  by_cases e : (Value.ref A == Value.ref B) = true
  · rw [if_pos e]
    have e2 : Value.ref A = Value.ref B := eq_of_beq e
    rw [e2, ← e2, h4] at h1
    exact h1
  · rw [if_neg e]
    have h5 : (PySem.W.clsIn K B).isSome = true := h2
    have h6 : ((PySem.W.clsIn K B).isSome && PySem.W.typeIn K (.ref B) == some (.type "type")) = true := by
      rw [h5, h3]
      decide +kernel
    show (if ((PySem.W.clsIn K B).isSome && PySem.W.typeIn K (.ref B) == some (.type "type")) = true then PySem.W.subIn K (.ref A) (.ref B) else none) = some b
    rw [if_pos h6]
    exact h1
end Bp
namespace Bp
open PySem L2 Evl
/-! ### what the laws of answers share -/
theorem Ths.some {K : PySem.W.Frag} {H : Hp} {l p : Addr} {zs us : List (Addr × Th)} (h : Ths K H l zs) (hp : SqL K H p (tv us)) (hm : ∀ u ∈ us, u ∈ zs) (hl : us.length ≤ 1000) : Ths K H p us := ⟨hp, fun z hz => h.it z (hm z hz), fun z hz => h.nn z (hm z hz), hl⟩
theorem tv_rev (zs : List (Addr × Th)) : (tv zs).reverse = tv zs.reverse := by unfold tv; rw [List.map_reverse]
theorem cut_drop (xs : List V) (k : Nat) : cutV xs (some (k : Int)) none = xs.drop k := by
  unfold cutV
  rw [HT.sIx_none, HT.sIx_nat, List.take_of_length_le (by rw [List.length_drop]; exact Nat.le_refl _)]
  rcases Nat.le_total k xs.length with h | h
  · rw [Nat.min_eq_left h]
  · rw [Nat.min_eq_right h, List.drop_of_length_le (Nat.le_refl _), List.drop_of_length_le h]
theorem cut_take (xs : List V) (k : Nat) : cutV xs none (some (k : Int)) = xs.take k := by
  unfold cutV
  rw [HT.sIx_none, HT.sIx_nat, List.drop_zero, Nat.sub_zero]
  rcases Nat.le_total k xs.length with h | h
  · rw [Nat.min_eq_left h]
  · rw [Nat.min_eq_right h, List.take_of_length_le (Nat.le_refl _), List.take_of_length_le h]
theorem tv_drop (zs : List (Addr × Th)) (k : Nat) : (tv zs).drop k = tv (zs.drop k) := by unfold tv; rw [List.map_drop]
theorem tv_take (zs : List (Addr × Th)) (k : Nat) : (tv zs).take k = tv (zs.take k) := by unfold tv; rw [List.map_take]
theorem rv_eqB {K : PySem.W.Frag} {H : Hp} {x y : V} {d e : PyData} (hx : DpX K H x d) (hy : DpX K H y e) (hs : SeqAt.shaped d = true) (hs2 : SeqAt.shaped e = true) : RV (rEqD K) x y H (.bl (PyData.eqv d e)) := fun H1 e1 Q q => ⟨d, e, hx H1 e1, hy H1 e1, hs, hs2, q H1 (Ex.refl H1)⟩
def rIsNotB : R2 := fun x y H Q => ∃ a b, x = .bl a ∧ y = .bl b ∧ Q (.bl (!decide (a = b))) H
theorem rv_isnB {H : Hp} {a b : Bool} : RV rIsNotB (.bl a) (.bl b) H (.bl (!decide (a = b))) := fun H1 _ Q q => ⟨a, b, rfl, rfl, q H1 (Ex.refl H1)⟩
theorem ev_callLX {σ : L2.St} {H : Hp} {sp1 sp2 : Sp} {dvs dvs2 vs2 xs : List V} {E E2 : XK} {t1 : TE} {ta2 : TA} {z : V} (h1 : EvL t1 σ H xs) (h2 : EvA ta2 σ H vs2) (k : ∀ p H1, Ex H H1 → H1 p = some (.lst xs) → ∀ Q : VK, (∀ H2, Ex H1 H2 → Q z H2) → sp2 (vs2 ++ dvs2) H1 (fun v H2 => sp1 ([.ref p, v] ++ dvs) H2 Q E) E2) :
    Ev (tCall sp1 dvs E (tCons t1 (tCons (tCall sp2 dvs2 E2 ta2) tNil))) σ H z := fun H1 e Q q =>
  h1 H1 e _ fun p H2 _ e2 hp => h2 H2 (e.trans e2) _ fun H3 e3 => k p H3 ((e.trans e2).trans e3) (e3 _ _ hp) Q fun H4 e4 => q H4 ((e2.trans e3).trans e4)
/-- f(a new list, x, g(..)) -/
theorem ev_callLVX {σ : L2.St} {H : Hp} {sp1 sp2 : Sp} {dvs dvs2 vs2 xs : List V} {E E2 : XK} {t1 tm : TE} {ta2 : TA} {y z : V} (h1 : EvL t1 σ H xs) (hm : Ev tm σ H y) (h2 : EvA ta2 σ H vs2) (k : ∀ p H1, Ex H H1 → H1 p = some (.lst xs) → ∀ Q : VK, (∀ H2, Ex H1 H2 → Q z H2) → sp2 (vs2 ++ dvs2) H1 (fun v H2 => sp1 ([.ref p, y, v] ++ dvs) H2 Q E) E2) :
    Ev (tCall sp1 dvs E (tCons t1 (tCons tm (tCons (tCall sp2 dvs2 E2 ta2) tNil)))) σ H z := fun H1 e Q q =>
  h1 H1 e _ fun p H2 _ e2 hp => hm H2 (e.trans e2) _ fun H2' e2' => h2 H2' ((e.trans e2).trans e2') _ fun H3 e3 => k p H3 (((e.trans e2).trans e2').trans e3) ((e2'.trans e3) _ _ hp) Q fun H4 e4 => q H4 (((e2.trans e2').trans e3).trans e4)
/-- f(x, g(..).a) and its like: the last argument by a continuation -/
theorem ev_callVC {σ : L2.St} {H : Hp} {sp1 : Sp} {dvs : List V} {E : XK} {t1 t2 : TE} {x z : V} (h1 : Ev t1 σ H x) (k : ∀ H1, Ex H H1 → ∀ Q : VK, (∀ H2, Ex H1 H2 → Q z H2) → t2 σ H1 (fun v H2 => sp1 ([x, v] ++ dvs) H2 Q E)) : Ev (tCall sp1 dvs E (tCons t1 (tCons t2 tNil))) σ H z := fun H1 e Q q =>
  h1 H1 e _ fun H2 e2 => k H2 (e.trans e2) Q fun H3 e3 => q H3 (e2.trans e3)
theorem q_turn {K : PySem.W.Frag} {σ : L2.St} {H : Hp} {D : Ends} {tz : TS} {tl : TE} {l : Addr} {zs : List (Addr × Th)} {i j k m : Nat} {vs : List Nat} (h : Ev tl σ H (.ref l)) (hT : Ths K H l zs) (hi : ∀ x y z : V, ((((wipe σ vs).set i (some x)).set j (some y)).set k (some z))[i]? = some (some x)) (hj : ∀ x y z : V, ((((wipe σ vs).set i (some x)).set j (some y)).set k (some z))[j]? = some (some y))
    (hk : ∀ x y z : V, ((((wipe σ vs).set i (some x)).set j (some y)).set k (some z))[k]? = some (some z)) (hw : ∀ x y z : V, wipe ((((wipe σ vs).set i (some x)).set j (some y)).set k (some z)) vs = wipe σ vs)
    (q : ∀ p ws H', H p = none → Ex H H' → Ths K H' p ws → H' p = some (.lst (tv ws)) → ths ws = (ths zs).map turn → tz D (σ.set m (some (.ref p))) H') : tSeq (tAsg (tLc (iList K tl) (gTup K 3 (gCons (gName i) (gCons (gName j) (gCons (gName k) gNil)))) tYes (tTup (tCons (tVar k) (tCons (tVar j) (tCons (tVar i) tNil)))) vs) (gName m)) tz D σ H :=
  el_turn (Q := fun v H1 => gName m v σ H1 (fun σ2 H2 => tz D σ2 H2)) h hT hi hj hk hw q
/-- for x in (a, b, ..), the tuple made on the way -/
theorem s_forU {K : PySem.W.Frag} {σ : L2.St} {H : Hp} {D : Ends} {tu : TS} {g : TG} {ta : TA} {xs : List V} (h : EvA ta σ H xs) (hz : xs.length ≤ 100000) (Pv : Addr → Nat → L2.St → Hp → Prop) (h0 : ∀ tp H1, H tp = none → Ex H H1 → H1 tp = some (.tup xs) → Pv tp 0 σ H1) (hl : ∀ tp i σ' H', Pv tp i σ' H' → SqT K H' tp xs)
    (hs : ∀ tp i x σ' H', xs[i]? = some x → Pv tp i σ' H' → g x σ' H' fun σ2 H2 => tu { D with nx := Pv tp (i + 1), ct := Pv tp (i + 1), bk := D.nx } σ2 H2) (hd : ∀ tp σ' H', Pv tp xs.length σ' H' → D.nx σ' H') : tFor (iTup K (tTup ta)) g tu D σ H :=
  h H (Ex.refl H) _ fun H1 e1 => ⟨sz_of hz, fun tp ntp => ⟨tp, rfl, ⟨_, st_of upd_same⟩, for_tup (Pv tp) (h0 tp _ (fresh_back e1 ntp) (e1.trans (Ex.new ntp)) upd_same) (fun i σ' H' _ p => hl tp i σ' H' p) (hs tp) (hd tp)⟩⟩
theorem q_forU {K : PySem.W.Frag} {σ : L2.St} {H : Hp} {D : Ends} {tu tz : TS} {g : TG} {ta : TA} {xs : List V} (h : EvA ta σ H xs) (hz : xs.length ≤ 100000) (Pv : Addr → Nat → L2.St → Hp → Prop) (h0 : ∀ tp H1, H tp = none → Ex H H1 → H1 tp = some (.tup xs) → Pv tp 0 σ H1) (hl : ∀ tp i σ' H', Pv tp i σ' H' → SqT K H' tp xs)
    (hs : ∀ tp i x σ' H', xs[i]? = some x → Pv tp i σ' H' → g x σ' H' fun σ2 H2 => tu { D with nx := Pv tp (i + 1), ct := Pv tp (i + 1), bk := tz D } σ2 H2) (hd : ∀ tp σ' H', Pv tp xs.length σ' H' → tz D σ' H') : tSeq (tFor (iTup K (tTup ta)) g tu) tz D σ H := s_forU (D := { D with nx := tz D }) h hz Pv h0 hl hs hd
end Bp
namespace Bp
open PySem L2 Evl
/-! ### the text by places -/
def top (i : Nat) : Stmt := PySem.Challenge.pw_benchpair_k04_answers_by_hand.main.body.getD i (.Pass ⟨0, 0, 0, 0⟩)
abbrev sWhole : Stmt := top 4
abbrev sLen : Stmt := top 5
abbrev sThing : Stmt := top 6
abbrev sOrder : Stmt := top 7
abbrev sCkT : Stmt := top 8
abbrev sMake : Stmt := top 9
abbrev sRising : Stmt := top 11
abbrev sSeen : Stmt := top 12
abbrev sPart : Stmt := top 13
abbrev sStand : Stmt := top 14
abbrev sReach : Stmt := top 15
abbrev sIsBar : Stmt := top 16
abbrev sWorth : Stmt := top 17
abbrev kAnswer : Stmt := top 19
abbrev kSoonest : Stmt := top 20
abbrev iSoonest : Stmt := inClass (top 20) 0
abbrev mSoonest : Stmt := inClass (top 20) 1
abbrev kWithin : Stmt := top 21
abbrev iWithin : Stmt := inClass (top 21) 0
abbrev mWithin : Stmt := inClass (top 21) 1
abbrev kNever : Stmt := top 22
abbrev iNever : Stmt := inClass (top 22) 0
abbrev mNever : Stmt := inClass (top 22) 1
abbrev sJo : Stmt := top 24
abbrev sLast : Stmt := top 25
abbrev sFind : Stmt := top 26
abbrev sSoonest : Stmt := top 27
abbrev sCell : Stmt := top 29
abbrev sDraw : Stmt := top 30
abbrev sThings : Stmt := top 31
abbrev sLdone : Stmt := top 32
abbrev sLorder : Stmt := top 33
abbrev sLworth : Stmt := top 34
abbrev sLwhole : Stmt := top 35
abbrev sSays : Stmt := top 36
abbrev sBent : Stmt := top 37
abbrev sRight : Stmt := top 38
abbrev sLaw : Stmt := top 39
end Bp
namespace Bp
open PySem L2 Evl
/-! ### promises -/
def spWhole : Sp := fun vs H Q _ => ∃ i : Int, vs = [.int i] ∧ RetV (.bl true) H Q
def spLen : Sp := fun vs H Q _ => ∃ i : Int, vs = [.int i] ∧ RetV (.bl (decide (0 ≤ i))) H Q
def spThing (K : PySem.W.Frag) : Sp := fun vs H Q _ => ∃ (a : Addr) (t : Th), vs = [.ref a] ∧ SqT K H a (iv t) ∧ Nn t ∧ RetV (.bl true) H Q
def spOrder (K : PySem.W.Frag) : Sp := fun vs H Q _ => ∃ (a : Addr) (is : List Int) (n : Nat), vs = [.ref a, .int (n : Int)] ∧ SqL K H a (is.map V.int) ∧ is.length ≤ 1000 ∧ n ≤ 1000 ∧ RetV (.bl (ordB n is)) H Q
def spCkT (K : PySem.W.Frag) : Sp := fun vs H Q _ => ∃ (l : Addr) (zs : List (Addr × Th)), vs = [.ref l] ∧ Ths K H l zs ∧ RetV .non H Q
def spMake (K : PySem.W.Frag) : Sp := fun vs H Q _ => ∃ (l a : Addr) (zs : List (Addr × Th)) (o : List Nat), vs = [.ref l, .ref a] ∧ Ths K H l zs ∧ SqL K H a (ov o) ∧ Ord zs.length o ∧
  ∀ (p q : Addr) (bs : List (Addr × (Int × Int))) (H' : Hp), Ex H H' → H q = none → Prs H' q bs → ths bs = (going (ths zs) o).1 → H' p = some (.tup [.ref q, .int (going (ths zs) o).2.2]) → Q (.ref p) H'
/-- the built-ins that the text names -/
structure Bn (mg : Str → Option Value) : Prop where
  isi : mg "isinstance" = none
  int : mg "int" = none
  bool : mg "bool" = none
  tuple : mg "tuple" = none
  len : mg "len" = none
  all : mg "all" = none
  list : mg "list" = none
  enum : mg "enumerate" = none
  max : mg "max" = none
  range : mg "range" = none
  sum : mg "sum" = none
  sorted : mg "sorted" = none
  rev : mg "reversed" = none
section
variable {P : Program} {w : World} {K : PySem.W.Frag} {mg : Str → Option Value} {base : Heap}
theorem scWhole : FnScope ["value"] ["value"] (defScope sWhole) := ⟨rfl, rfl, rfl, by decide +kernel, rfl, by decide +kernel, by decide +kernel⟩
theorem ok_whole {f : Addr} {fd : FuncData} (F : Fun K "is_whole" "is_whole" sWhole f fd) (T : Bn mg) : FnOk P w K mg base CX0 1 f fd ["value"] spWhole := by
  refine F.ok scWhole (fun vs H Q E h => ?_) (fun cdv A outer s H vs Q E hr h => ?_)
  · obtain ⟨i, rfl, _⟩ := h
    rfl
  · obtain ⟨i, rfl, k⟩ := h
    refine ⟨_, pss_one (ps_ret (pe_and (pe_callB call_isi (by rfl) T.isi (by decide +kernel) (pa_cons (pv 0) (pa_cons (pe_bltn (v := .ty "int") (by rfl) T.int PyProof.Rows.boot_int rfl) pa_nil)))
      (pe_one (pe_not (pe_callB call_isi (by rfl) T.isi (by decide +kernel) (pa_cons (pv 0) (pa_cons (pe_bltn (v := .ty "bool") (by rfl) T.bool PyProof.Rows.boot_bool rfl) pa_nil))))))), ?_⟩
    refine s_ret (v := .bl (true && !false)) (ev_andV (ev_cb (ea_cons (ev_var rfl) (ea_cons ev_c ea_nil)) (rc_isi ty_int (by decide +kernel))) fun _ =>
      ev_notV (ev_cb (ea_cons (ev_var rfl) (ea_cons ev_c ea_nil)) (rc_isi ty_int (by decide +kernel)))) fun H1 e => k.go e
theorem scLen : FnScope ["value"] ["value"] (defScope sLen) := ⟨rfl, rfl, rfl, by decide +kernel, rfl, by decide +kernel, by decide +kernel⟩
theorem ok_len {f fW : Addr} {fd fdW : FuncData} (F : Fun K "is_length" "is_length" sLen f fd) (T : Bn mg) (gW : mg "is_whole" = some (.ref fW)) (FW : Fun K "is_whole" "is_whole" sWhole fW fdW) (bW : Binds K fdW ["value"] []) : FnOk P w K mg base CX0 2 f fd ["value"] spLen := by
  have GW : FnOk P w K mg base CX0 1 fW fdW ["value"] spWhole := ok_whole FW T
  refine F.ok scLen (fun vs H Q E h => ?_) (fun cdv A outer s H vs Q E hr h => ?_)
  · obtain ⟨i, rfl, _⟩ := h
    rfl
  · obtain ⟨i, rfl, k⟩ := h
    refine ⟨_, pss_one (ps_ret (pe_and (pe_call GW hr (by rfl) gW FW.kp bW .nil pass0 (pa_cons (pv 0) pa_nil)) (pe_one (pe_cmpR op_ge (pv 0) pe_int (nomark _))))), ?_⟩
    refine s_ret (v := .bl (true && decide (0 ≤ i))) (ev_andV (ev_call (ea_cons (ev_var rfl) ea_nil) fun H1 e Q q E => ⟨i, rfl, q⟩) fun _ => ev_op (ev_var rfl) ev_c rv_I0) fun H1 e => k.go e
theorem scThing : FnScope ["value", "part"] ["value"] (defScope sThing) := ⟨rfl, rfl, rfl, by decide +kernel, rfl, by decide +kernel, by decide +kernel⟩
theorem ok_thing {f fL : Addr} {fd fdL : FuncData} (F : Fun K "is_thing" "is_thing" sThing f fd) (T : Bn mg) (gL : mg "is_length" = some (.ref fL)) (FL : Fun K "is_length" "is_length" sLen fL fdL) (bL : Binds K fdL ["value"] []) (GL : FnOk P w K mg base CX0 2 fL fdL ["value"] spLen) : FnOk P w K mg base CX0 3 f fd ["value"] (spThing K) := by
  refine F.ok scThing (fun vs H Q E h => ?_) (fun cdv A outer s H vs Q E hr h => ?_)
  · obtain ⟨a, t, rfl, _⟩ := h
    rfl
  · obtain ⟨a, t, rfl, hS, hn, k⟩ := h
    refine ⟨_, pss_cons (ps_if (PW.pt (pw_or (pt_not (pt_val (pe_callB call_isi (by rfl) T.isi (by decide +kernel) (pa_cons (pv 0) (pa_cons (pe_bltn (v := .ty "tuple") (by rfl) T.tuple PyProof.Rows.boot_tuple rfl) pa_nil)))))
        (pw_or1 (pt_cmpR op_ne (pe_callB call_len_seq (by rfl) T.len PySem.boot_len (pa_cons (pv 0) pa_nil)) pe_int (nomark _))))) (pss_one (ps_ret pe_bl)) pss_nil)
      (pss_one (ps_ret (pe_callB (cr_all rfl) (by rfl) T.all (by decide +kernel) (pa_cons (pe_lc (own := [("part", 1)]) (g := gName 1) (tt := tYes) rfl scThing.nd (pi_tup (pv 0)) (blkOk_by (N := ["value", "part"]) (sc := defScope sThing) (by decide +kernel))
        (fun _ _ _ _ _ => pg_name (i := 1) scThing.nd rfl (Or.inl rfl)) (fun _ _ _ _ _ => pts_nil) (fun _ _ _ _ _ => pe_call GL hr (by rfl) gL FL.kp bL .nil pass0 (pa_cons (pv 1) pa_nil))) pa_nil)))), ?_⟩
    refine q_when (b := false) (et_is (et_or (et_not (et_B (ev_cb (ea_cons (ev_var rfl) (ea_cons ev_c ea_nil)) (rc_isi (ty_tup hS) (b := true) (by decide +kernel))))) fun _ =>
      et_test (ev_op (ev_cb (ea_cons (ev_var rfl) ea_nil) (rc_lenT hS)) ev_c (rv_ne rfl))) (by show (!true || !decide (V.int 3 = V.int 3)) = false; decide +kernel)) (fun q => by cases q) fun _ H1 e1 => ?_
    refine s_ret (v := .bl true) (ev_cbL (el_lcT (xs := iv t) (fun _ => true) (fun _ => .bl true) (ev_var rfl) (ex_t e1 hS) (by show 3 ≤ 40000; decide) (fun x => rfl) (fun i x H2 e2 hi => et_yes) fun i x H2 e2 hi _ => ?_) fun p H2 e2 h2 => ?_) fun H2 e2 => k.go (e1.trans e2)
    · refine ev_call (ea_cons (ev_var rfl) ea_nil) fun H3 e3 Q q E => ?_
      match i, hi with
      | 0, hi => obtain rfl := Option.some.inj hi; exact ⟨_, rfl, by rw [decide_eq_true hn.1]; exact q⟩
      | 1, hi => obtain rfl := Option.some.inj hi; exact ⟨_, rfl, by rw [decide_eq_true hn.2.1]; exact q⟩
      | 2, hi => obtain rfl := Option.some.inj hi; exact ⟨_, rfl, by rw [decide_eq_true hn.2.2]; exact q⟩
      | i + 3, hi => cases hi
    · exact rc_all (bs := [true, true, true]) (sq_of h2)
theorem scOrder : FnScope ["value", "many", "told", "count"] ["value", "many"] (defScope sOrder) := ⟨rfl, rfl, rfl, by decide +kernel, rfl, by decide +kernel, by decide +kernel⟩
theorem ok_order {f fW : Addr} {fd fdW : FuncData} (F : Fun K "is_order" "is_order" sOrder f fd) (T : Bn mg) (gW : mg "is_whole" = some (.ref fW)) (FW : Fun K "is_whole" "is_whole" sWhole fW fdW) (bW : Binds K fdW ["value"] []) (GW : FnOk P w K mg base CX0 1 fW fdW ["value"] spWhole) : FnOk P w K mg base CX0 2 f fd ["value", "many"] (spOrder K) := by
  refine F.ok scOrder (fun vs H Q E h => ?_) (fun cdv A outer s H vs Q E hr h => ?_)
  · obtain ⟨a, is, n, rfl, _⟩ := h
    rfl
  · obtain ⟨a, is, n, rfl, hS, hsz, hz, k⟩ := h
    refine ⟨_, pss_cons (ps_if (PW.pt (pw_or (pt_not (pt_val (pe_callB call_isi (by rfl) T.isi (by decide +kernel) (pa_cons (pv 0) (pa_cons (pe_bltn (v := .ty "list") (by rfl) T.list PyProof.Rows.boot_list rfl) pa_nil)))))
        (pw_or1 (pt_cmpR op_ne (pe_callB call_len_seq (by rfl) T.len PySem.boot_len (pa_cons (pv 0) pa_nil)) (pv 1) (nomark _))))) (pss_one (ps_ret pe_bl)) pss_nil)
      (pss_cons (ps_set (i := 2) scOrder.nd rfl (Or.inl rfl) (pe_op op_rep (pe_lst (pa_cons pe_bl pa_nil)) (pv 1)))
      (pss_cons (ps_for PassesOwn.never rfl (pi_list (pv 0)) (pg_name (i := 3) scOrder.nd rfl (Or.inl rfl))
        (pss_cons (ps_if (PW.pt (pw_or (pt_not (pt_val (pe_call GW hr (by rfl) gW FW.kp bW .nil pass0 (pa_cons (pv 3) pa_nil)))) (pw_or (pt_not (pt_chain op_le op_lt pe_int (pv 3) (pv 1))) (pw_or1 (pt_val (pe_ix ix_list (pv 2) (pv 3) (fun _ _ => rfl))))))) (pss_one (ps_ret pe_bl)) pss_nil)
        (pss_one (ps_asg pe_bl (pg_sub (pv 2) (pv 3) set_list)))))
      (pss_one (ps_ret pe_bl)))), ?_⟩
    refine q_when (et_or (et_not (et_B (ev_cb (ea_cons (ev_var rfl) (ea_cons ev_c ea_nil)) (rc_isi (ty_lst hS) (b := true) (by decide +kernel))))) fun _ =>
      et_test (ev_op (ev_cb (ea_cons (ev_var rfl) ea_nil) (rc_lenL hS)) (ev_var rfl) (rv_ne rfl))) (fun hb H1 e1 => ?_) (fun hb H1 e1 => ?_)
    · refine s_ret ev_c fun H2 e2 => ?_
      have hn : is.length ≠ n := fun e => by
        rw [List.length_map, e, decide_eq_true rfl] at hb
        cases hb
      rw [ordB_no fun h => hn h.1] at k
      exact k.go (e1.trans e2)
    have hl : is.length = n := by
      rw [List.length_map] at hb
      have : decide (V.int (is.length : Int) = V.int (n : Int)) = true := by simpa using hb
      have := V.int.inj (of_decide_eq_true this)
      omega
    clear hb
    refine q_asgL (el_rep (n := n) (el_lst (ea_cons ev_c ea_nil) (by decide)) (fun H2 e2 => ev_var rfl) hz) fun m H2 nm e2 h2 => ?_
    have nm0 : H m = none := fresh_back e1 nm
    refine q_forLn (a := a) (xs := is.map V.int) (ev_var rfl) (ex_l (e1.trans e2) hS) (fun i σ' H' => ∃ v : Option V, σ' = [some (.ref a), some (.int (n : Int)), some (.ref m), v] ∧ Ex H H' ∧ H' m = some (.lst ((marks n (is.take i)).map V.bl)) ∧ Fine n (is.take i))
      (fun H3 e3 => ⟨none, rfl, (e1.trans e2).trans e3, ?_, ⟨List.nodup_nil, fun _ h => nomatch h⟩⟩) (fun i σ' H' _ ⟨_, _, e', _⟩ => ex_l e' hS) ?_ ?_
    · rw [e3 m _ h2, List.take_zero, marks_nil, List.map_replicate]
    · rintro i x σ' H' hi ⟨v, rfl, e', hm, hF⟩
      rw [List.getElem?_map] at hi
      cases hq : is[i]? with
      | none => rw [hq] at hi; cases hi
      | some y =>
        rw [hq] at hi
        obtain rfl := Option.some.inj hi
        refine q_when (b := !true || (!(decide (0 ≤ y) && decide (y < (n : Int))) || mkOf (is.take i) y.toNat)) (et_or (et_not (et_B (ev_call (z := .bl true) (ea_cons (ev_var rfl) ea_nil) fun H3 e3 Q q E => ⟨y, rfl, q⟩))) fun _ =>
          et_or (et_not (et_B (ev_chain ev_c (ev_var rfl) rv_I0 (ev_var rfl) rv_I0))) fun hb => et_B (ev_op (ev_var rfl) (ev_var rfl) (rv_ixL (sq_of hm) ?_))) (fun hb H3 e3 => ?_) (fun hb H3 e3 => ?_)
        · have h : 0 ≤ y ∧ y < (n : Int) := by simpa using hb
          obtain ⟨j, rfl⟩ : ∃ j : Nat, y = (j : Int) := ⟨y.toNat, by omega⟩
          refine atI_nat (j := j) ?_
          rw [List.getElem?_map]
          unfold marks
          rw [List.getElem?_map, List.getElem?_range (by omega), Int.toNat_natCast]
          rfl
        · refine s_ret ev_c fun H4 e4 => ?_
          have hno : ¬ (is.length = n ∧ is.Nodup ∧ ∀ x ∈ is, 0 ≤ x ∧ x < (n : Int)) := fun ⟨_, h2, h3⟩ => by
            have h := h3 y (List.mem_of_getElem? hq)
            rw [decide_eq_true h.1, decide_eq_true h.2] at hb
            have hk : mkOf (is.take i) y.toNat = true := by simpa using hb
            have := of_decide_eq_true hk
            rw [show ((y.toNat : Nat) : Int) = y by omega] at this
            exact twice hq this h2
          rw [ordB_no hno] at k
          exact k.go ((e'.trans e3).trans e4)
        · simp only [Bool.not_true, Bool.false_or, Bool.or_eq_false_iff, Bool.not_eq_false', Bool.and_eq_true, decide_eq_true_eq] at hb
          obtain ⟨⟨h1, h2⟩, h3⟩ := hb
          obtain ⟨j, rfl⟩ : ∃ j : Nat, y = (j : Int) := ⟨y.toNat, by omega⟩
          have hnot : (j : Int) ∉ is.take i := of_decide_eq_false (by simpa [mkOf] using h3)
          refine s_setL (l := m) (j := j) (e3 m _ hm) ev_c (ev_var rfl) (ev_var rfl) (by rw [List.length_map, marks_len]; omega) fun H4 e4 => ⟨_, rfl, Ex.mut ((e'.trans e3).trans e4) nm0, ?_, hF.more hq ⟨h1, h2⟩ hnot⟩
          rw [upd_same, ← List.map_set, marks_set (by omega), take_snoc hq]
    · rintro σ' H' ⟨v, rfl, e', hm, hF⟩
      rw [List.length_map, List.take_length] at hF
      refine s_ret ev_c fun H3 e3 => ?_
      rw [ordB_yes hl hF.nd hF.rg] at k
      exact k.go (e'.trans e3)
theorem scCkT : FnScope ["things", "count", "thing"] ["things"] (defScope sCkT) := ⟨rfl, rfl, rfl, by decide +kernel, rfl, by decide +kernel, by decide +kernel⟩
theorem ok_ckT {f fT : Addr} {fd fdT : FuncData} (F : Fun K "check_things" "check_things" sCkT f fd) (T : Bn mg) (gT : mg "is_thing" = some (.ref fT)) (FT : Fun K "is_thing" "is_thing" sThing fT fdT) (bT : Binds K fdT ["value"] []) (GT : FnOk P w K mg base CX0 3 fT fdT ["value"] (spThing K)) : FnOk P w K mg base CX0 4 f fd ["things"] (spCkT K) := by
  refine F.ok scCkT (fun vs H Q E h => ?_) (fun cdv A outer s H vs Q E hr h => ?_)
  · obtain ⟨a, t, rfl, _⟩ := h
    rfl
  · obtain ⟨l, zs, rfl, hT, k⟩ := h
    refine ⟨_, pss_cons (ps_if (pt_not (pt_val (pe_callB call_isi (by rfl) T.isi (by decide +kernel) (pa_cons (pv 0) (pa_cons (pe_bltn (v := .ty "list") (by rfl) T.list PyProof.Rows.boot_list rfl) pa_nil))))) pss_never pss_nil)
      (pss_one (ps_for PassesOwn.never rfl (pi_enum (by rfl) T.enum (pa_cons (pv 0) pa_nil)) (pg_tup rfl (pgs_cons (pg_name (i := 1) scCkT.nd rfl (Or.inl rfl)) (pgs_cons (pg_name (i := 2) scCkT.nd rfl (Or.inl rfl)) pgs_nil)))
        (pss_one (ps_if (pt_not (pt_val (pe_call GT hr (by rfl) gT FT.kp bT .nil pass0 (pa_cons (pv 2) pa_nil)))) pss_never pss_nil)))), ?_⟩
    refine q_when (b := false) (et_is (et_not (et_B (ev_cb (ea_cons (ev_var rfl) (ea_cons ev_c ea_nil)) (rc_isi (ty_lst hT.ls) (b := true) (by decide +kernel))))) rfl) (fun q => by cases q) fun _ H1 e1 => ?_
    refine s_forE (a := l) (xs := tv zs) (ea_cons (ev_var rfl) ea_nil) (ex_l e1 hT.ls) (fun i σ' H' => ∃ v1 v2 : Option V, σ' = [some (.ref l), v1, v2] ∧ Ex H H') (fun H2 e2 => ⟨none, none, rfl, e1.trans e2⟩) (fun i σ' H' _ ⟨_, _, _, e'⟩ => ex_l e' hT.ls) ?_ ?_
    · rintro i x t σ' H' hi ⟨v1, v2, rfl, e'⟩ nt
      obtain ⟨z, hz, rfl⟩ := tv_get hi
      refine ⟨t, _, rfl, st_of upd_same, rfl, _, _, rfl, _, _, rfl, rfl, ?_⟩
      have e2 : Ex H (upd H' t (.tup [.int (i : Int), .ref z.1])) := e'.trans (Ex.new nt)
      refine s_when (b := false) (et_is (et_not (et_B (ev_call (z := .bl true) (ea_cons (ev_var rfl) ea_nil) fun H3 e3 Q q E => ⟨z.1, z.2, rfl, ex_t (e2.trans e3) (hT.it z (List.mem_of_getElem? hz)), hT.nn z (List.mem_of_getElem? hz), q⟩))) rfl) (fun q => by cases q) fun _ H3 e3 => ⟨_, _, rfl, e2.trans e3⟩
    · rintro σ' H' ⟨v1, v2, rfl, e'⟩
      exact k.go e'
theorem scMake : FnScope ["things", "order", "begins", "free_first", "free_second", "count", "first", "drying", "second", "begin_second"] ["things", "order"] (defScope sMake) := ⟨rfl, rfl, rfl, by decide +kernel, rfl, by decide +kernel, by decide +kernel⟩
theorem ok_make {f : Addr} {fd : FuncData} (F : Fun K "make_in_order" "make_in_order" sMake f fd) (T : Bn mg) : FnOk P w K mg base CX0 1 f fd ["things", "order"] (spMake K) := by
  refine F.ok scMake (fun vs H Q E h => ?_) (fun cdv A outer s H vs Q E hr h => ?_)
  · obtain ⟨l, a, zs, o, rfl, _⟩ := h
    rfl
  · obtain ⟨l, a, zs, o, rfl, hT, hS, ho, k⟩ := h
    have hl := ho.len
    have hz := hT.le
    refine ⟨_, pss_cons (ps_set (i := 2) scMake.nd rfl (Or.inl rfl) (pe_op op_rep (pe_lst (pa_cons (pe_tup (pa_cons pe_int (pa_cons pe_int pa_nil))) pa_nil)) (pe_callB call_len_seq (by rfl) T.len PySem.boot_len (pa_cons (pv 0) pa_nil))))
      (pss_cons (ps_set (i := 3) scMake.nd rfl (Or.inl rfl) pe_int)
      (pss_cons (ps_set (i := 4) scMake.nd rfl (Or.inl rfl) pe_int)
      (pss_cons (ps_for PassesOwn.never rfl (pi_list (pv 1)) (pg_name (i := 5) scMake.nd rfl (Or.inl rfl))
        (pss_cons (ps_asg (pe_ix ix_list (pv 0) (pv 5) (fun _ _ => rfl)) (pg_tup rfl (pgs_cons (pg_name (i := 6) scMake.nd rfl (Or.inl rfl)) (pgs_cons (pg_name (i := 7) scMake.nd rfl (Or.inl rfl)) (pgs_cons (pg_name (i := 8) scMake.nd rfl (Or.inl rfl)) pgs_nil)))))
        (pss_cons (ps_set (i := 9) scMake.nd rfl (Or.inl rfl) (pe_callB (call_max2 rfl) (by rfl) T.max PyProof.Rows.boot_max (pa_cons (pe_op op_add (pe_op op_add (pv 3) (pv 6)) (pv 7)) (pa_cons (pv 4) pa_nil))))
        (pss_cons (ps_asg (pe_tup (pa_cons (pv 3) (pa_cons (pv 9) pa_nil))) (pg_sub (pv 2) (pv 5) set_list))
        (pss_cons (ps_aug (i := 3) scMake.nd rfl (Or.inl rfl) (pv 6) ip_add)
        (pss_one (ps_set (i := 4) scMake.nd rfl (Or.inl rfl) (pe_op op_add (pv 9) (pv 8)))))))))
      (pss_one (ps_ret (pe_tup (pa_cons (pv 2) (pa_cons (pv 4) pa_nil)))))))), ?_⟩
    -- begins = [(0, 0)] * len(things)
    refine ⟨(by show 2 ≤ sizeLine; decide), fun t nt => ⟨(by show 1 ≤ sizeLine; decide), fun p0 np0 => ⟨.ref l, rfl, l, tv zs, rfl, .inl ?_, p0, ((tv zs).length : Int), _, rfl, rfl, upd_same, ?_, ?_, ?_, fun q nq => ?_⟩⟩⟩
    · exact ex_l ((Ex.new nt).trans (Ex.new np0)) hT.ls
    · omega
    · rw [tv_len]; omega
    · show 1 * ((tv zs).length : Int).toNat ≤ sizeLine
      rw [Int.toNat_natCast, Nat.one_mul, tv_len]
      exact sz_of (by omega)
    have e1 : Ex H (upd (upd H t (.tup [.int 0, .int 0])) p0 (.lst [.ref t])) := (Ex.new nt).trans (Ex.new np0)
    generalize hH1 : upd (upd H t (.tup [.int 0, .int 0])) p0 (.lst [.ref t]) = H1 at nq e1
    have ht : H1 t = some (.tup [.int 0, .int 0]) := by
      rw [← hH1, upd_ne (fun z => by rw [z, upd_same] at np0; cases np0), upd_same]
    rw [Int.toNat_natCast, flat1, tv_len]
    have nq0 : H q = none := fresh_back e1 nq
    refine q_asg ev_c fun H2 e2 => q_asg ev_c fun H3 e3 => ?_
    refine q_forLn (a := a) (xs := ov o) (ev_var rfl) (ex_l (((e1.trans (Ex.new nq)).trans e2).trans e3) hS) (fun i σ' H' => ∃ (bs : List (Addr × (Int × Int))) (v5 v6 v7 v8 v9 : Option V), σ' = [some (.ref l), some (.ref a), some (.ref q), some (.int (going (ths zs) (o.take i)).2.1), some (.int (going (ths zs) (o.take i)).2.2), v5, v6, v7, v8, v9] ∧ Ex H H' ∧ Prs H' q bs ∧ ths bs = (going (ths zs) (o.take i)).1)
      (fun H4 e4 => ⟨List.replicate zs.length (t, (0, 0)), none, none, none, none, none, rfl, (((e1.trans (Ex.new nq)).trans e2).trans e3).trans e4, ⟨?_, ?_⟩, ?_⟩) (fun i σ' H' _ ⟨_, _, _, _, _, _, _, e', _⟩ => ex_l e' hS) ?_ ?_
    · rw [e4 _ _ (e3 _ _ (e2 _ _ upd_same))]
      unfold tv
      rw [List.map_replicate]
    · intro z hz
      obtain rfl := List.eq_of_mem_replicate hz
      exact e4 _ _ (e3 _ _ (e2 _ _ (Ex.new nq _ _ ht)))
    · show ths (List.replicate zs.length (t, ((0, 0) : Int × Int))) = List.replicate (ths zs).length (0, 0)
      unfold ths
      rw [List.map_replicate, List.length_map]
    · rintro i x σ' H' hi ⟨bs, v5, v6, v7, v8, v9, rfl, e', hP, hb⟩
      obtain ⟨c, hc, rfl⟩ := ov_get hi
      have hcn : c < zs.length := ho.lt (List.mem_of_getElem? hc)
      obtain ⟨z, hz⟩ : ∃ z, zs[c]? = some z := ⟨_, List.getElem?_eq_getElem hcn⟩
      have hzt : (ths zs).getD c th0 = z.2 := by
        unfold ths
        rw [List.getD_eq_getElem?_getD, List.getElem?_map, hz]
        rfl
      have hbl : bs.length = zs.length := by
        rw [← ths_len bs, hb, going_len, ths_len]
      have step : going (ths zs) (o.take (i + 1)) = stp (ths zs) (going (ths zs) (o.take i)) c := fold_more hc
      -- first, drying, second = things[count]
      refine ⟨.ref l, rfl, .int (c : Int), rfl, l, tv zs, (c : Int), .ref z.1, rfl, rfl, ex_l e' hT.ls, atI_nat (by unfold tv; rw [List.getElem?_map, hz]; rfl), z.1, iv z.2, rfl, ex_t e' (hT.it z (List.mem_of_getElem? hz)), rfl, _, _, rfl, _, _, rfl, _, _, rfl, rfl, ?_⟩
      refine q_asg (ev_cb (r := rMax2) (ea_cons (ev_op (ev_op (ev_var rfl) (ev_var rfl) rv_I0) (ev_var rfl) rv_I0) (ea_cons (ev_var rfl) ea_nil)) fun H1 e Q q => ⟨_, _, rfl, q H1 (Ex.refl H1)⟩) fun H5 e5 => ?_
      -- begins[count] = (free_first, begin_second)
      refine ⟨_, rfl, _, rfl, (by show 2 ≤ sizeLine; decide), fun r nr => ⟨_, rfl, _, rfl, q, tv bs, (c : Int), c, rfl, rfl, ?_, ixN_nat ?_, ?_⟩⟩
      · exact Ex.new nr _ _ (e5 _ _ hP.1)
      · rw [tv_len, hbl]; exact hcn
      have nrq : r ≠ q := fun z => by rw [z, e5 _ _ hP.1] at nr; cases nr
      have hE : Ex H (upd (upd H5 r (.tup [.int (going (ths zs) (o.take i)).2.1, .int (if (going (ths zs) (o.take i)).2.2 > (going (ths zs) (o.take i)).2.1 + z.2.1 + z.2.2.1 then (going (ths zs) (o.take i)).2.2 else (going (ths zs) (o.take i)).2.1 + z.2.1 + z.2.2.1)])) q (.lst ((tv bs).set c (.ref r)))) :=
        Ex.mut ((e'.trans e5).trans (Ex.new nr)) nq0
      refine q_aug rfl (ev_var rfl) fun H6 e6 => s_asg (ev_op (ev_var rfl) (ev_var rfl) rv_I0) fun H7 e7 => ⟨bs.set c (r, ((going (ths zs) (o.take i)).2.1, (if (going (ths zs) (o.take i)).2.2 > (going (ths zs) (o.take i)).2.1 + z.2.1 + z.2.2.1 then (going (ths zs) (o.take i)).2.2 else (going (ths zs) (o.take i)).2.1 + z.2.1 + z.2.2.1))), some (.int (c : Int)), some (.int z.2.1), some (.int z.2.2.1), some (.int z.2.2.2), some (.int (if (going (ths zs) (o.take i)).2.2 > (going (ths zs) (o.take i)).2.1 + z.2.1 + z.2.2.1 then (going (ths zs) (o.take i)).2.2 else (going (ths zs) (o.take i)).2.1 + z.2.1 + z.2.2.1)), ?_, (hE.trans e6).trans e7, ⟨?_, ?_⟩, ?_⟩
      · rw [step, stp_py hzt]
        rfl
      · rw [e7 _ _ (e6 _ _ upd_same), set_tv]
      · intro y hy
        refine e7 _ _ (e6 _ _ ?_)
        rcases List.mem_or_eq_of_mem_set hy with hy | rfl
        · have h1 := e5 _ _ (hP.2 y hy)
          rw [upd_ne (ne_of h1 (e5 _ _ hP.1) (by intro z; cases z)), upd_ne (ne_of_none h1 nr)]
          exact h1
        · rw [upd_ne nrq, upd_same]
      · rw [set_ths, hb, step, stp_py hzt]
    · rintro σ' H' ⟨bs, v5, v6, v7, v8, v9, rfl, e', hP, hb⟩
      rw [ov_len, List.take_length] at hb ⊢
      refine s_retU (eu_tup (ea_cons (ev_var rfl) (ea_cons (ev_var rfl) ea_nil)) (by show 2 ≤ 100000; decide)) fun p H1 np e1 hp => ?_
      exact k p q bs H1 (e'.trans e1) nq0 ⟨e1 _ _ hP.1, fun z hz => e1 _ _ (hP.2 z hz)⟩ hb hp
end
end Bp
namespace Bp
open PySem L2 Evl
/-! ### bars -/
def spRising (K : PySem.W.Frag) : Sp := fun vs H Q _ => ∃ (a : Addr) (ap : List Int) (n : Nat), vs = [.ref a, .int (n : Int)] ∧ SqL K H a (ap.map V.int) ∧ RetV (.bl (decide (Rises n ap))) H Q
def spSeen (K : PySem.W.Frag) : Sp := fun vs H Q _ => ∃ (l : Addr) (zs : List (Addr × Th)) (bench : Int), vs = [.ref l, .int bench] ∧ Ths K H l zs ∧ (bench = 1 ∨ bench = 2) ∧
  ∀ (p : Addr) (ws : List (Addr × Th)) (H' : Hp), Ex H H' → Ths K H' p ws → ths ws = (ths zs).map (facing bench) → Q (.ref p) H'
def spPart (K : PySem.W.Frag) : Sp := fun vs H Q _ => ∃ (l c : Addr) (zs : List (Addr × Th)) (bench : Int) (ap : List Int), vs = [.ref l, .int bench, .ref c] ∧ Ths K H l zs ∧ SqL K H c (ap.map V.int) ∧ (bench = 1 ∨ bench = 2) ∧ (∀ x ∈ ap, 0 ≤ x ∧ x < (zs.length : Int)) ∧
  ∀ (p i j : Addr) (us ws : List (Addr × Th)) (H' : Hp), Ex H H' → Ths K H' i us → Ths K H' j ws → ths us = sel (ths zs) bench (mkOf ap) (List.range (ths zs).length) → ths ws = sel (ths zs) bench (fun c => !mkOf ap c) (List.range (ths zs).length) → H' p = some (.tup [.ref i, .ref j]) → Q (.ref p) H'
def spStand (K : PySem.W.Frag) : Sp := fun vs H Q _ => ∃ (l : Addr) (zs : List (Addr × Th)), vs = [.ref l] ∧ Ths K H l zs ∧ RetV (.bl (standB (ths zs))) H Q
def spReach (K : PySem.W.Frag) : Sp := fun vs H Q _ => ∃ (l : Addr) (zs : List (Addr × Th)) (L : Int), vs = [.ref l, .int L] ∧ Ths K H l zs ∧ RetV (.bl (rchB (ths zs) L)) H Q
def spIsBar (K : PySem.W.Frag) : Sp := fun vs H Q _ => ∃ (l c : Addr) (zs : List (Addr × Th)) (bench L : Int) (ap : List Int), vs = [.ref l, .int bench, .ref c, .int L] ∧ Ths K H l zs ∧ SqL K H c (ap.map V.int) ∧ RetV (.bl (barB (ths zs) bench ap L)) H Q
def spWorth (K : PySem.W.Frag) : Sp := fun vs H Q _ => ∃ (l c : Addr) (zs : List (Addr × Th)) (bench L : Int) (ap : List Int), vs = [.ref l, .int bench, .ref c, .int L] ∧ Ths K H l zs ∧ SqL K H c (ap.map V.int) ∧ BarW (ths zs) bench ap L ∧ RetV (.int (lawW (ths zs) bench ap L)) H Q
section
variable {P : Program} {w : World} {K : PySem.W.Frag} {mg : Str → Option Value} {base : Heap}
theorem scRising : FnScope ["value", "many", "least", "count"] ["value", "many"] (defScope sRising) := ⟨rfl, rfl, rfl, by decide +kernel, rfl, by decide +kernel, by decide +kernel⟩
theorem ok_rising {f fW : Addr} {fd fdW : FuncData} (F : Fun K "is_rising" "is_rising" sRising f fd) (T : Bn mg) (gW : mg "is_whole" = some (.ref fW)) (FW : Fun K "is_whole" "is_whole" sWhole fW fdW) (bW : Binds K fdW ["value"] []) (GW : FnOk P w K mg base CX0 1 fW fdW ["value"] spWhole) : FnOk P w K mg base CX0 2 f fd ["value", "many"] (spRising K) := by
  refine F.ok scRising (fun vs H Q E h => ?_) (fun cdv A outer s H vs Q E hr h => ?_)
  · obtain ⟨a, ap, n, rfl, _⟩ := h
    rfl
  · obtain ⟨a, ap, n, rfl, hS, k⟩ := h
    refine ⟨_, pss_cons (ps_if (pt_not (pt_val (pe_callB call_isi (by rfl) T.isi (by decide +kernel) (pa_cons (pv 0) (pa_cons (pe_bltn (v := .ty "list") (by rfl) T.list PyProof.Rows.boot_list rfl) pa_nil))))) (pss_one (ps_ret pe_bl)) pss_nil)
      (pss_cons (ps_set (i := 2) scRising.nd rfl (Or.inl rfl) pe_int)
      (pss_cons (ps_for PassesOwn.never rfl (pi_list (pv 0)) (pg_name (i := 3) scRising.nd rfl (Or.inl rfl))
        (pss_cons (ps_if (PW.pt (pw_or (pt_not (pt_val (pe_call GW hr (by rfl) gW FW.kp bW .nil pass0 (pa_cons (pv 3) pa_nil)))) (pw_or1 (pt_not (pt_chain op_le op_lt (pv 2) (pv 3) (pv 1)))))) (pss_one (ps_ret pe_bl)) pss_nil)
        (pss_one (ps_set (i := 2) scRising.nd rfl (Or.inl rfl) (pe_op op_add (pv 3) pe_int)))))
      (pss_one (ps_ret pe_bl)))), ?_⟩
    refine q_when (b := false) (et_is (et_not (et_B (ev_cb (ea_cons (ev_var rfl) (ea_cons ev_c ea_nil)) (rc_isi (ty_lst hS) (b := true) (by decide +kernel))))) rfl) (fun q => by cases q) fun _ H1 e1 => ?_
    refine q_asg ev_c fun H2 e2 => ?_
    refine q_forLn (a := a) (xs := ap.map V.int) (ev_var rfl) (ex_l (e1.trans e2) hS) (fun i σ' H' => ∃ (m : Int) (v : Option V), σ' = [some (.ref a), some (.int (n : Int)), some (.int m), v] ∧ Ex H H' ∧ Ris n (ap.take i) m)
      (fun H3 e3 => ⟨0, none, rfl, (e1.trans e2).trans e3, Ris.nil n⟩) (fun i σ' H' _ ⟨_, _, _, e', _⟩ => ex_l e' hS) ?_ ?_
    · rintro i x σ' H' hi ⟨m, v, rfl, e', hR⟩
      obtain ⟨y, hy, rfl⟩ := ints_at hi
      refine q_when (b := !true || !(decide (m ≤ y) && decide (y < (n : Int)))) (et_or (et_not (et_B (ev_call (z := .bl true) (ea_cons (ev_var rfl) ea_nil) fun H3 e3 Q q E => ⟨y, rfl, q⟩))) fun _ =>
        et_not (et_B (ev_chain (ev_var rfl) (ev_var rfl) rv_I0 (ev_var rfl) rv_I0))) (fun hb H3 e3 => ?_) (fun hb H3 e3 => ?_)
      · refine s_ret ev_c fun H4 e4 => ?_
        have hno : ¬ (m ≤ y ∧ y < (n : Int)) := fun ⟨h1, h2⟩ => by
          rw [decide_eq_true h1, decide_eq_true h2] at hb
          cases hb
        rw [decide_eq_false (hR.stop hy hno)] at k
        exact k.go ((e'.trans e3).trans e4)
      · have h : m ≤ y ∧ y < (n : Int) := by simpa using hb
        refine s_asg (ev_op (ev_var rfl) ev_c rv_I0) fun H4 e4 => ⟨_, _, rfl, (e'.trans e3).trans e4, ?_⟩
        rw [take_snoc hy]
        exact hR.more h.1 h.2
    · rintro σ' H' ⟨m, v, rfl, e', hR⟩
      rw [List.length_map, List.take_length] at hR
      refine s_ret ev_c fun H3 e3 => ?_
      rw [decide_eq_true hR.ok] at k
      exact k.go (e'.trans e3)
theorem scSeen : FnScope ["things", "bench", "first", "drying", "second"] ["things", "bench"] (defScope sSeen) := ⟨rfl, rfl, rfl, by decide +kernel, rfl, by decide +kernel, by decide +kernel⟩
theorem ok_seen {f : Addr} {fd : FuncData} (F : Fun K "seen_from" "seen_from" sSeen f fd) : FnOk P w K mg base CX0 1 f fd ["things", "bench"] (spSeen K) := by
  refine F.ok scSeen (fun vs H Q E h => ?_) (fun cdv A outer s H vs Q E hr h => ?_)
  · obtain ⟨l, zs, bench, rfl, _⟩ := h
    rfl
  · obtain ⟨l, zs, bench, rfl, hT, hb, k⟩ := h
    refine ⟨_, pss_cons (ps_if (pt_cmpR op_eq (pv 1) pe_int (nomark _)) (pss_one (ps_ret (pv 0))) pss_nil)
      (pss_one (ps_ret (pe_lc (own := [("first", 2), ("drying", 3), ("second", 4)]) (g := gTup K 3 (gCons (gName 2) (gCons (gName 3) (gCons (gName 4) gNil)))) (tt := tYes) rfl scSeen.nd (pi_list (pv 0)) (blkOk_by (N := ["things", "bench", "first", "drying", "second"]) (sc := defScope sSeen) (by decide +kernel))
        (fun _ _ _ _ _ => pg_tup rfl (pgs_cons (pg_name (i := 2) scSeen.nd rfl (Or.inl rfl)) (pgs_cons (pg_name (i := 3) scSeen.nd rfl (Or.inl rfl)) (pgs_cons (pg_name (i := 4) scSeen.nd rfl (Or.inl rfl)) pgs_nil)))) (fun _ _ _ _ _ => pts_nil) (fun _ _ _ _ _ => (pe_tup (pa_cons (pv 4) (pa_cons (pv 3) (pa_cons (pv 2) pa_nil)))))))), ?_⟩
    refine q_when (et_test (ev_op (ev_var rfl) ev_c (rv_eq rfl))) (fun hc H1 e1 => ?_) (fun hc H1 e1 => ?_)
    · have hb1 : bench = 1 := V.int.inj (of_decide_eq_true hc)
      refine s_ret (ev_var rfl) fun H2 e2 => k l zs H2 (e1.trans e2) (hT.mono (e1.trans e2)) ?_
      rw [show facing bench = id from funext fun t => by unfold facing; rw [if_pos hb1]; rfl, List.map_id]
    · have hb1 : ¬ bench = 1 := fun e => of_decide_eq_false hc (by rw [e])
      refine el_turn (l := l) (zs := zs) (ev_var rfl) (hT.mono e1) (fun _ _ _ => rfl) (fun _ _ _ => rfl) (fun _ _ _ => rfl) (fun _ _ _ => rfl) fun p ws H2 np e2 hW hl hw => k p ws H2 (e1.trans e2) hW ?_
      rw [hw, show facing bench = turn from funext fun t => by unfold facing; rw [if_neg hb1]]
abbrev nPart : List Str := ["things", "bench", "apart", "told", "count", "seen", "inside", "others", "thing"]
theorem scPart : FnScope nPart ["things", "bench", "apart"] (defScope sPart) := ⟨rfl, rfl, rfl, by decide +kernel, rfl, by decide +kernel, by decide +kernel⟩
theorem ok_part {f fS : Addr} {fd fdS : FuncData} (F : Fun K "part_things" "part_things" sPart f fd) (T : Bn mg) (gS : mg "seen_from" = some (.ref fS)) (FS : Fun K "seen_from" "seen_from" sSeen fS fdS) (bS : Binds K fdS ["things", "bench"] []) (GS : FnOk P w K mg base CX0 1 fS fdS ["things", "bench"] (spSeen K)) : FnOk P w K mg base CX0 2 f fd ["things", "bench", "apart"] (spPart K) := by
  refine F.ok scPart (fun vs H Q E h => ?_) (fun cdv A outer s H vs Q E hr h => ?_)
  · obtain ⟨l, c, zs, bench, ap, rfl, _⟩ := h
    rfl
  · obtain ⟨l, c, zs, bench, ap, rfl, hT, hS, hb, hrg, k⟩ := h
    have hzl := hT.le
    refine ⟨_, pss_cons (ps_set (i := 3) scPart.nd rfl (Or.inr rfl) (pe_op op_rep (pe_lst (pa_cons pe_bl pa_nil)) (pe_callB call_len_seq (by rfl) T.len PySem.boot_len (pa_cons (pv 0) pa_nil))))
      (pss_cons (ps_for PassesOwn.never rfl (pi_list (pv 2)) (pg_name (i := 4) scPart.nd rfl (Or.inl rfl)) (pss_one (ps_asg pe_bl (pg_sub (pv 3) (pv 4) set_list))))
      (pss_cons (ps_set (i := 5) scPart.nd rfl (Or.inl rfl) (pe_call GS hr (by rfl) gS FS.kp bS .nil pass0 (pa_cons (pv 0) (pa_cons (pv 1) pa_nil))))
      (pss_cons (ps_setLc (i := 6) (own := [("count", 4), ("thing", 8)]) (g := gTup K 2 (gCons (gName 4) (gCons (gName 8) gNil))) (by rfl) scPart.nd rfl rfl (sw_true rfl rfl rfl (by decide +kernel)) (pi_enum (by rfl) T.enum (pa_cons (pv 5) pa_nil)) (blkOk_by (N := nPart) (sc := defScope sPart) (by decide +kernel))
        (fun _ _ _ _ _ => pg_tup rfl (pgs_cons (pg_name (i := 4) scPart.nd rfl (Or.inl rfl)) (pgs_cons (pg_name (i := 8) scPart.nd rfl (Or.inl rfl)) pgs_nil))) (fun _ _ _ _ _ => pts_one (pt_val (pe_ix (show IxR _ (rIxL K) from ix_list) (pv 3) (pv 4) (fun _ _ => rfl)))) (fun _ _ _ _ _ => pv 8))
      (pss_cons (ps_setLc (i := 7) (own := [("count", 4), ("thing", 8)]) (g := gTup K 2 (gCons (gName 4) (gCons (gName 8) gNil))) (by rfl) scPart.nd rfl rfl (sw_true rfl rfl rfl (by decide +kernel)) (pi_enum (by rfl) T.enum (pa_cons (pv 5) pa_nil)) (blkOk_by (N := nPart) (sc := defScope sPart) (by decide +kernel))
        (fun _ _ _ _ _ => pg_tup rfl (pgs_cons (pg_name (i := 4) scPart.nd rfl (Or.inl rfl)) (pgs_cons (pg_name (i := 8) scPart.nd rfl (Or.inl rfl)) pgs_nil))) (fun _ _ _ _ _ => pts_one (pt_not (pt_val (pe_ix (show IxR _ (rIxL K) from ix_list) (pv 3) (pv 4) (fun _ _ => rfl))))) (fun _ _ _ _ _ => pv 8))
      (pss_one (ps_ret (pe_tup (pa_cons (pv 6) (pa_cons (pv 7) pa_nil))))))))), ?_⟩
    refine q_asgL (el_rep (n := zs.length) (el_lst (ea_cons ev_c ea_nil) (by show 1 ≤ 100000; decide)) (fun H3 e3 => ev_is (ev_cb (ea_cons (ev_var rfl) ea_nil) (rc_lenL (ex_l e3 hT.ls))) (by rw [tv_len])) hzl) fun m H1 nm e1 hm => ?_
    refine q_forLn (a := c) (xs := ap.map V.int) (ev_var rfl) (ex_l e1 hS) (fun i σ' H' => ∃ v4 : Option V, σ' = [some (.ref l), some (.int bench), some (.ref c), some (.ref m), v4, none, none, none, none] ∧ Ex H H' ∧ H' m = some (.lst ((marks zs.length (ap.take i)).map V.bl)))
      (fun H2 e2 => ⟨none, rfl, e1.trans e2, by rw [e2 _ _ hm, List.take_zero, marks_nil, List.map_replicate]⟩) (fun i σ' H' _ ⟨_, _, e', _⟩ => ex_l e' hS) ?_ ?_
    · rintro i x σ' H' hi ⟨v4, rfl, e', hm'⟩
      obtain ⟨y, hy, rfl⟩ := ints_at hi
      obtain ⟨g1, g2⟩ := hrg y (List.mem_of_getElem? hy)
      obtain ⟨j, rfl⟩ : ∃ j : Nat, y = (j : Int) := ⟨y.toNat, by omega⟩
      refine s_setL (l := m) (j := j) hm' ev_c (ev_var rfl) (ev_var rfl) (by rw [List.length_map, marks_len]; omega) fun H4 e4 => ⟨_, rfl, Ex.mut (e'.trans e4) nm, ?_⟩
      rw [upd_same, ← List.map_set, marks_set (by omega), take_snoc hy]
    · rintro σ' H2 ⟨v4, rfl, e2, hm2⟩
      rw [List.length_map, List.take_length] at hm2
      refine q_asgX (ea_cons (ev_var rfl) (ea_cons (ev_var rfl) ea_nil)) fun H3 e3 => ⟨l, zs, bench, rfl, hT.mono (e2.trans e3), hb, fun q ws H4 e4 hW hw => ?_⟩
      have e34 := e3.trans e4
      have hm4 : SqL K H4 m ((marks zs.length ap).map V.bl) := sq_of (e34 _ _ hm2)
      have hwl : ws.length = zs.length := by rw [← ths_len ws, hw, List.length_map, ths_len]
      have hmk : ∀ {i : Nat}, i < ws.length → ((marks zs.length ap).map V.bl)[i]? = some (.bl (mkOf ap i)) := fun {i} hi => by
        rw [List.getElem?_map]
        unfold marks
        rw [List.getElem?_map, List.getElem?_range (by omega)]
        rfl
      refine q_asgL (xs := tv (subs ws (mkOf ap))) (fun H5 e5 Q qq => el_lcE (a := q) (xs := tv ws) (mkOf ap) (fun i => .ref (ws.getD i (0, th0)).1) (fun i => [some (.ref l), some (.int bench), some (.ref c), some (.ref m), some (.int (i : Int)), some (.ref q), none, none, some (.ref (ws.getD i (0, th0)).1)]) (ea_cons (ev_var rfl) ea_nil) hW.ls (by rw [tv_len]; omega) (fun i x T H6 e6 hi hT6 => ?_) (fun i hi => rfl) (fun i x H6 e6 hi => ?_) (fun i x H6 e6 hi _ => ev_var rfl) H5 e5 Q fun p H6 np e6 hp => qq p H6 np e6 (by rw [hp, tv_len, given_subs])) fun u H5 nu e5 hu => ?_
      · obtain ⟨_, rfl, _⟩ := tv_at hi
        exact eg_2 (st_of hT6) eg_name eg_name
      · exact et_B (ev_op (ev_var rfl) (ev_var rfl) (rv_ixL (ex_l e6 hm4) (atI_nat (hmk (by have := (tv_at hi).1; omega)))))
      refine q_asgL (xs := tv (subs ws fun c => !mkOf ap c)) (fun H6 e6 Q qq => el_lcE (a := q) (xs := tv ws) (fun c => !mkOf ap c) (fun i => .ref (ws.getD i (0, th0)).1) (fun i => [some (.ref l), some (.int bench), some (.ref c), some (.ref m), some (.int (i : Int)), some (.ref q), some (.ref u), none, some (.ref (ws.getD i (0, th0)).1)]) (ea_cons (ev_var rfl) ea_nil) (ex_l e5 hW.ls) (by rw [tv_len]; omega) (fun i x T H7 e7 hi hT7 => ?_) (fun i hi => rfl) (fun i x H7 e7 hi => ?_) (fun i x H7 e7 hi _ => ev_var rfl) H6 e6 Q fun p H7 np e7 hp => qq p H7 np e7 (by rw [hp, tv_len, given_subs])) fun r H6 nr e6 hr6 => ?_
      · obtain ⟨_, rfl, _⟩ := tv_at hi
        exact eg_2 (st_of hT7) eg_name eg_name
      · exact et_not (et_B (ev_op (ev_var rfl) (ev_var rfl) (rv_ixL (ex_l (e5.trans e7) hm4) (atI_nat (hmk (by have := (tv_at hi).1; omega))))))
      refine s_retU (eu_tup (ea_cons (ev_var rfl) (ea_cons (ev_var rfl) ea_nil)) (by show 2 ≤ 100000; decide)) fun p H7 np e7 hp => ?_
      have hW7 := hW.mono ((e5.trans e6).trans e7)
      exact k p u r _ _ H7 ((((e2.trans e34).trans e5).trans e6).trans e7) (hW7.subs (e7 _ _ (e6 _ _ hu))) (hW7.subs (e7 _ _ hr6)) (ths_subs hw _) (ths_subs hw _) hp
end
end Bp
namespace Bp
open PySem L2 Evl
section
variable {P : Program} {w : World} {K : PySem.W.Frag} {mg : Str → Option Value} {base : Heap}
theorem scStand : FnScope ["inside", "here", "_", "there"] ["inside"] (defScope sStand) := ⟨rfl, rfl, rfl, by decide +kernel, rfl, by decide +kernel, by decide +kernel⟩
theorem ok_stand {f : Addr} {fd : FuncData} (F : Fun K "may_stand_apart" "may_stand_apart" sStand f fd) (T : Bn mg) : FnOk P w K mg base CX0 1 f fd ["inside"] (spStand K) := by
  refine F.ok scStand (fun vs H Q E h => ?_) (fun cdv A outer s H vs Q E hr h => ?_)
  · obtain ⟨l, zs, rfl, _⟩ := h
    rfl
  · obtain ⟨l, zs, rfl, hT, k⟩ := h
    have hzl := hT.le
    refine ⟨_, pss_one (ps_ret (pe_callB (cr_all rfl) (by rfl) T.all (by decide +kernel) (pa_cons (pe_lc (own := [("here", 1), ("_", 2), ("there", 3)]) (g := gTup K 3 (gCons (gName 1) (gCons (gName 2) (gCons (gName 3) gNil)))) (tt := tYes) rfl scStand.nd (pi_list (pv 0)) (blkOk_by (N := ["inside", "here", "_", "there"]) (sc := defScope sStand) (by decide +kernel))
        (fun _ _ _ _ _ => pg_tup rfl (pgs_cons (pg_name (i := 1) scStand.nd rfl (Or.inl rfl)) (pgs_cons (pg_name (i := 2) scStand.nd rfl (Or.inl rfl)) (pgs_cons (pg_name (i := 3) scStand.nd rfl (Or.inl rfl)) pgs_nil)))) (fun _ _ _ _ _ => pts_nil) (fun _ _ _ _ _ => pe_cmpR op_le (pv 1) (pv 3) (nomark _))) pa_nil))), ?_⟩
    refine s_ret (ev_cbL (el_lcG (a := l) (xs := tv zs) (fun _ => true) (fun i => .bl (decide ((zs.getD i (0, th0)).2.1 ≤ (zs.getD i (0, th0)).2.2.2))) (fun i => [some (.ref l), some (.int (zs.getD i (0, th0)).2.1), some (.int (zs.getD i (0, th0)).2.2.1), some (.int (zs.getD i (0, th0)).2.2.2)]) (ev_var rfl) hT.ls (by rw [tv_len]; omega) (fun i x H1 e1 hi => ?_) (fun i hi => rfl) (fun i x H1 e1 hi => et_yes) fun i x H1 e1 hi _ => ev_op (ev_var rfl) (ev_var rfl) rv_I0) fun p H1 e1 hp => ?_) fun H1 e1 => k.go e1
    · obtain ⟨_, rfl, hm⟩ := tv_at hi
      exact eg_3 (ex_t e1 (hT.it _ hm)) eg_name eg_name eg_name
    · rw [tv_len, given_bools zs (0, th0) (fun z => decide (z.2.1 ≤ z.2.2.2))] at hp
      have := rc_all (K := K) (sq_of hp)
      rw [List.all_map] at this
      have e : (zs.all (id ∘ fun z : Addr × Th => decide (z.2.1 ≤ z.2.2.2))) = standB (ths zs) := by
        unfold standB ths
        rw [List.all_map]
        rfl
      rw [e] at this
      exact this
theorem scReach : FnScope ["others", "length", "reached", "here", "drying", "there"] ["others", "length"] (defScope sReach) := ⟨rfl, rfl, rfl, by decide +kernel, rfl, by decide +kernel, by decide +kernel⟩
theorem ok_reach {f : Addr} {fd : FuncData} (F : Fun K "reach_length" "reach_length" sReach f fd) (T : Bn mg) : FnOk P w K mg base CX0 1 f fd ["others", "length"] (spReach K) := by
  refine F.ok scReach (fun vs H Q E h => ?_) (fun cdv A outer s H vs Q E hr h => ?_)
  · obtain ⟨l, zs, L, rfl, _⟩ := h
    rfl
  · obtain ⟨l, zs, L, rfl, hT, k⟩ := h
    refine ⟨_, pss_cons (ps_set (i := 2) scReach.nd rfl (Or.inl rfl) (pe_cmpR op_eq (pv 1) pe_int (nomark _)))
      (pss_cons (ps_for PassesOwn.never rfl (pi_list (pv 0)) (pg_tup rfl (pgs_cons (pg_name (i := 3) scReach.nd rfl (Or.inl rfl)) (pgs_cons (pg_name (i := 4) scReach.nd rfl (Or.inl rfl)) (pgs_cons (pg_name (i := 5) scReach.nd rfl (Or.inl rfl)) pgs_nil))))
        (pss_one (ps_if (pt_cmpR op_ge (pe_op op_add (pv 3) (pv 4)) (pv 1) (nomark _)) (pss_one (ps_set (i := 2) scReach.nd rfl (Or.inl rfl) pe_bl))
          (pss_one (ps_if (pt_cmpR op_lt (pv 3) (pv 5) (nomark _)) (pss_one (ps_ret pe_bl)) pss_nil)))))
      (pss_one (ps_ret (pv 2)))), ?_⟩
    refine q_asg (ev_op (ev_var rfl) ev_c (rv_eq rfl)) fun H1 e1 => ?_
    refine q_forL (a := l) (xs := tv zs) (ev_var rfl) (ex_l e1 hT.ls) (fun i σ' H' => ∃ (v3 v4 v5 : Option V), σ' = [some (.ref l), some (.int L), some (.bl (decide (L = 0) || ((ths zs).take i).any fun t => decide (L ≤ t.1 + t.2.1))), v3, v4, v5] ∧ Ex H H' ∧ (((ths zs).take i).all fun t => decide (L ≤ t.1 + t.2.1) || decide (t.2.2 ≤ t.1)) = true)
      (fun H2 e2 => ⟨none, none, none, ?_, e1.trans e2, rfl⟩) (fun i σ' H' _ ⟨_, _, _, _, e', _⟩ => ex_l e' hT.ls) ?_ ?_
    · have : decide (V.int L = V.int 0) = (decide (L = 0) || ((ths zs).take 0).any fun t => decide (L ≤ t.1 + t.2.1)) := by
        rw [List.take_zero, List.any_nil, Bool.or_false]
        exact decide_eq_decide.mpr ⟨fun h => V.int.inj h, fun h => by rw [h]⟩
      rw [← this]
      rfl
    · rintro i x σ' H' hi ⟨v3, v4, v5, rfl, e', hg⟩
      obtain ⟨z, hz, rfl⟩ := tv_get hi
      have hzm := List.mem_of_getElem? hz
      have hzt : (ths zs)[i]? = some z.2 := by unfold ths; rw [List.getElem?_map, hz]; rfl
      refine eg_3 (ex_t e' (hT.it z hzm)) eg_name eg_name eg_name H' (Ex.refl _) _ ?_
      have at1 : ∀ f : Th → Bool, ((ths zs).take (i + 1)).any f = (((ths zs).take i).any f || f z.2) := fun f => by rw [take_snoc hzt, List.any_append, List.any_cons, List.any_nil, Bool.or_false]
      have at2 : ∀ f : Th → Bool, ((ths zs).take (i + 1)).all f = (((ths zs).take i).all f && f z.2) := fun f => by rw [take_snoc hzt, List.all_append, List.all_cons, List.all_nil, Bool.and_true]
      refine s_if (et_test (ev_op (ev_op (ev_var rfl) (ev_var rfl) rv_I0) (ev_var rfl) rv_I0)) (fun hb H2 e2 => ?_) (fun hb H2 e2 => ?_)
      · have hb : L ≤ z.2.1 + z.2.2.1 := of_decide_eq_true hb
        refine s_asg ev_c fun H3 e3 => ⟨some (.int z.2.1), some (.int z.2.2.1), some (.int z.2.2.2), ?_, (e'.trans e2).trans e3, ?_⟩
        · rw [at1, decide_eq_true hb, Bool.or_true, Bool.or_true]
          rfl
        · rw [at2, hg, decide_eq_true hb]
          rfl
      · have hb : ¬ L ≤ z.2.1 + z.2.2.1 := of_decide_eq_false hb
        refine s_when (et_test (ev_op (ev_var rfl) (ev_var rfl) rv_I0)) (fun hc H3 e3 => ?_) (fun hc H3 e3 => ?_)
        · have hc : z.2.1 < z.2.2.2 := of_decide_eq_true hc
          refine s_ret ev_c fun H4 e4 => ?_
          have hf : rchB (ths zs) L = false := by
            unfold rchB
            rw [Bool.and_eq_false_iff]
            refine .inl (List.all_eq_false.mpr ⟨z.2, List.mem_of_getElem? hzt, ?_⟩)
            rw [decide_eq_false hb, decide_eq_false (by omega)]
            decide
          rw [hf] at k
          exact k.go (((e'.trans e2).trans e3).trans e4)
        · have hc : ¬ z.2.1 < z.2.2.2 := of_decide_eq_false hc
          refine ⟨some (.int z.2.1), some (.int z.2.2.1), some (.int z.2.2.2), ?_, (e'.trans e2).trans e3, ?_⟩
          · rw [at1, decide_eq_false hb, Bool.or_false]
            rfl
          · rw [at2, hg, decide_eq_true (show z.2.2.2 ≤ z.2.1 by omega), Bool.or_true]
            rfl
    · rintro σ' H' ⟨v3, v4, v5, rfl, e', hg⟩
      rw [tv_len, ← ths_len zs, List.take_length] at hg ⊢
      refine s_ret (v := .bl (rchB (ths zs) L)) (ev_is (ev_var rfl) ?_) fun H2 e2 => k.go (e'.trans e2)
      unfold rchB
      rw [hg, Bool.true_and]
/-- what is_bar and bar_worth call -/
structure Bks (K : PySem.W.Frag) (mg : Str → Option Value) (P : Program) (w : World) (base : Heap) (fW fL fR fP fS fH : Addr) (dW dL dR dP dS dH : FuncData) : Prop where
  gW : mg "is_whole" = some (.ref fW)
  FW : Fun K "is_whole" "is_whole" sWhole fW dW
  bW : Binds K dW ["value"] []
  GW : FnOk P w K mg base CX0 1 fW dW ["value"] spWhole
  gL : mg "is_length" = some (.ref fL)
  FL : Fun K "is_length" "is_length" sLen fL dL
  bL : Binds K dL ["value"] []
  GL : FnOk P w K mg base CX0 2 fL dL ["value"] spLen
  gR : mg "is_rising" = some (.ref fR)
  FR : Fun K "is_rising" "is_rising" sRising fR dR
  bR : Binds K dR ["value", "many"] []
  GR : FnOk P w K mg base CX0 2 fR dR ["value", "many"] (spRising K)
  gP : mg "part_things" = some (.ref fP)
  FP : Fun K "part_things" "part_things" sPart fP dP
  bP : Binds K dP ["things", "bench", "apart"] []
  GP : FnOk P w K mg base CX0 2 fP dP ["things", "bench", "apart"] (spPart K)
  gS : mg "may_stand_apart" = some (.ref fS)
  FS : Fun K "may_stand_apart" "may_stand_apart" sStand fS dS
  bS : Binds K dS ["inside"] []
  GS : FnOk P w K mg base CX0 1 fS dS ["inside"] (spStand K)
  gH : mg "reach_length" = some (.ref fH)
  FH : Fun K "reach_length" "reach_length" sReach fH dH
  bH : Binds K dH ["others", "length"] []
  GH : FnOk P w K mg base CX0 1 fH dH ["others", "length"] (spReach K)
theorem scIsBar : FnScope ["things", "bench", "apart", "length", "inside", "others"] ["things", "bench", "apart", "length"] (defScope sIsBar) := ⟨rfl, rfl, rfl, by decide +kernel, rfl, by decide +kernel, by decide +kernel⟩
theorem bench_in {bench : Int} : inV (.int bench) [.int 1, .int 2] = true ↔ (bench = 1 ∨ bench = 2) := by
  unfold inV
  simp only [List.any_cons, List.any_nil, Bool.or_false, Bool.or_eq_true]
  refine ⟨fun h => h.elim (fun h => .inl ?_) (fun h => .inr ?_), fun h => h.elim (fun h => .inl ?_) (fun h => .inr ?_)⟩
  · exact (of_decide_eq_true (show decide ((1 : Int) = bench) = true from h)).symm
  · exact (of_decide_eq_true (show decide ((2 : Int) = bench) = true from h)).symm
  · show decide ((1 : Int) = bench) = true
    exact decide_eq_true h.symm
  · show decide ((2 : Int) = bench) = true
    exact decide_eq_true h.symm
theorem ok_isbar {f fW fL fR fP fS fH : Addr} {fd dW dL dR dP dS dH : FuncData} (F : Fun K "is_bar" "is_bar" sIsBar f fd) (T : Bn mg) (C : Bks K mg P w base fW fL fR fP fS fH dW dL dR dP dS dH) : FnOk P w K mg base CX0 3 f fd ["things", "bench", "apart", "length"] (spIsBar K) := by
  refine F.ok scIsBar (fun vs H Q E h => ?_) (fun cdv A outer s H vs Q E hr h => ?_)
  · obtain ⟨l, c, zs, bench, L, ap, rfl, _⟩ := h
    rfl
  · obtain ⟨l, c, zs, bench, L, ap, rfl, hT, hS, k⟩ := h
    have hr1 := hr.mono (show 1 ≤ 2 by decide)
    refine ⟨_, pss_cons (ps_if (PW.pt (pw_or (pt_not (pt_val (pe_call C.GW hr1 (by rfl) C.gW C.FW.kp C.bW .nil pass0 (pa_cons (pv 1) pa_nil)))) (pw_or (pt_cmpR op_notIn_seq (pv 1) (pe_tup (pa_cons pe_int (pa_cons pe_int pa_nil))) (by rfl)) (pw_or1 (pt_not (pt_val (pe_call C.GL hr (by rfl) C.gL C.FL.kp C.bL .nil pass0 (pa_cons (pv 3) pa_nil)))))))) (pss_one (ps_ret pe_bl)) pss_nil)
      (pss_cons (ps_if (pt_not (pt_val (pe_call C.GR hr (by rfl) C.gR C.FR.kp C.bR .nil pass0 (pa_cons (pv 2) (pa_cons (pe_callB call_len_seq (by rfl) T.len PySem.boot_len (pa_cons (pv 0) pa_nil)) pa_nil))))) (pss_one (ps_ret pe_bl)) pss_nil)
      (pss_cons (ps_asg (pe_call C.GP hr (by rfl) C.gP C.FP.kp C.bP .nil pass0 (pa_cons (pv 0) (pa_cons (pv 1) (pa_cons (pv 2) pa_nil)))) (pg_tup rfl (pgs_cons (pg_name (i := 4) scIsBar.nd rfl (Or.inl rfl)) (pgs_cons (pg_name (i := 5) scIsBar.nd rfl (Or.inl rfl)) pgs_nil))))
      (pss_one (ps_ret (pe_and (pe_call C.GS hr1 (by rfl) C.gS C.FS.kp C.bS .nil pass0 (pa_cons (pv 4) pa_nil)) (pe_one (pe_call C.GH hr1 (by rfl) C.gH C.FH.kp C.bH .nil pass0 (pa_cons (pv 5) (pa_cons (pv 3) pa_nil))))))))), ?_⟩
    have no : ¬ BarW (ths zs) bench ap L → ∀ H1, Ex H H1 → Q (.bl false) H1 := fun hb H1 e => by
      rw [barB_no hb] at k
      exact k.go e
    refine q_when (b := !true || ((!inV (.int bench) [.int 1, .int 2]) || !decide (0 ≤ L))) (et_or (et_not (et_B (ev_call (z := .bl true) (ea_cons (ev_var rfl) ea_nil) fun H3 e3 Q q E => ⟨bench, rfl, q⟩))) fun _ => et_or (et_test (ev_niU (ev_var rfl) (eu_tup (ea_cons ev_c (ea_cons ev_c ea_nil)) (by show 2 ≤ 100000; decide)) rfl rfl)) fun _ => et_not (et_B (ev_call (ea_cons (ev_var rfl) ea_nil) fun H3 e3 Q q E => ⟨L, rfl, q⟩))) (fun hb H1 e1 => ?_) (fun hb H1 e1 => ?_)
    · refine s_ret ev_c fun H2 e2 => no (fun hB => ?_) H2 (e1.trans e2)
      rw [bench_in.mpr hB.two, decide_eq_true hB.ok.len] at hb
      cases hb
    simp only [Bool.not_true, Bool.false_or, Bool.or_eq_false_iff, Bool.not_eq_false', decide_eq_true_eq] at hb
    obtain ⟨hb1, hL⟩ := hb
    have hbench := bench_in.mp hb1
    refine q_when (b := !decide (Rises zs.length ap)) (et_not (et_B (ev_call (ea_cons (ev_var rfl) (ea_cons (ev_cb (ea_cons (ev_var rfl) ea_nil) (rc_lenL (ex_l e1 hT.ls))) ea_nil)) fun H3 e3 Q q E => ⟨c, ap, zs.length, by rw [tv_len]; rfl, ex_l (e1.trans e3) hS, q⟩))) (fun hb H2 e2 => ?_) (fun hb H2 e2 => ?_)
    · refine s_ret ev_c fun H3 e3 => no (fun hB => ?_) H3 ((e1.trans e2).trans e3)
      have : Rises zs.length ap := ⟨hB.rise, fun x hx => by have := hB.inn x hx; rw [ths_len] at this; exact this⟩
      rw [decide_eq_true this] at hb
      cases hb
    have hris : Rises zs.length ap := by simpa using hb
    have e12 := e1.trans e2
    refine ⟨_, rfl, _, rfl, _, rfl, l, c, zs, bench, ap, rfl, hT.mono e12, ex_l e12 hS, hbench, hris.2, fun p i j us ws H3 e3 hU hW hu hw hp => ?_⟩
    refine eg_2 (st_of hp) eg_name eg_name H3 (Ex.refl _) _ ?_
    have e13 := e12.trans e3
    refine s_ret (v := .bl (standB (ths us) && rchB (ths ws) L)) (ev_andV (ev_call (ea_cons (ev_var rfl) ea_nil) fun H4 e4 Q q E => ⟨i, us, rfl, hU.mono e4, q⟩) fun _ => ev_call (ea_cons (ev_var rfl) (ea_cons (ev_var rfl) ea_nil)) fun H4 e4 Q q E => ⟨j, ws, L, rfl, hW.mono e4, q⟩) fun H4 e4 => ?_
    rw [hu, hw]
    have hbar := barOk_iff (ts := ths zs) (bench := bench) (mk := mkOf ap) hL
    cases hv : standB (sel (ths zs) bench (mkOf ap) (List.range (ths zs).length)) && rchB (sel (ths zs) bench (fun c => !mkOf ap c) (List.range (ths zs).length)) L with
    | true =>
      rw [barB_yes ⟨hbench, hris.1, fun x hx => by rw [ths_len]; exact hris.2 x hx, hbar.mp hv⟩] at k
      exact k.go (e13.trans e4)
    | false =>
      exact no (fun hB => by rw [hbar.mpr hB.ok] at hv; cases hv) H4 (e13.trans e4)
theorem scWorth : FnScope ["things", "bench", "apart", "length", "inside", "others", "thing"] ["things", "bench", "apart", "length"] (defScope sWorth) := ⟨rfl, rfl, rfl, by decide +kernel, rfl, by decide +kernel, by decide +kernel⟩
theorem ok_worth {f fP : Addr} {fd dP : FuncData} (F : Fun K "bar_worth" "bar_worth" sWorth f fd) (T : Bn mg) (gP : mg "part_things" = some (.ref fP)) (FP : Fun K "part_things" "part_things" sPart fP dP) (bP : Binds K dP ["things", "bench", "apart"] []) (GP : FnOk P w K mg base CX0 2 fP dP ["things", "bench", "apart"] (spPart K)) : FnOk P w K mg base CX0 3 f fd ["things", "bench", "apart", "length"] (spWorth K) := by
  refine F.ok scWorth (fun vs H Q E h => ?_) (fun cdv Ar outer s H vs Q E hr h => ?_)
  · obtain ⟨l, c, zs, bench, L, ap, rfl, _⟩ := h
    rfl
  · obtain ⟨l, c, zs, bench, L, ap, rfl, hT, hS, hB, k⟩ := h
    refine ⟨_, pss_cons (ps_asg (pe_call GP hr (by rfl) gP FP.kp bP .nil pass0 (pa_cons (pv 0) (pa_cons (pv 1) (pa_cons (pv 2) pa_nil)))) (pg_tup rfl (pgs_cons (pg_name (i := 4) scWorth.nd rfl (Or.inl rfl)) (pgs_cons (pg_name (i := 5) scWorth.nd rfl (Or.inl rfl)) pgs_nil))))
      (pss_one (ps_ret (pe_op op_add (pe_op op_add (pe_callB (cr_sum rfl) (by rfl) T.sum PyProof.Rows.boot_sum
        (pa_cons (pe_lc (own := [("thing", 6)]) (g := gName 6) (tt := tYes) rfl scWorth.nd (pi_list (pv 4)) (blkOk_by (N := ["things", "bench", "apart", "length", "inside", "others", "thing"]) (sc := defScope sWorth) (by decide +kernel)) (fun _ _ _ _ _ => pg_name (i := 6) scWorth.nd rfl (Or.inl rfl)) (fun _ _ _ _ _ => pts_nil) (fun _ _ _ _ _ => pe_ix (show IxR _ (rIxT K) from ix_tup) (pv 6) pe_int (fun _ _ => rfl))) pa_nil)) (pv 3))
        (pe_callB (cr_sum rfl) (by rfl) T.sum PyProof.Rows.boot_sum
        (pa_cons (pe_lc (own := [("thing", 6)]) (g := gName 6) (tt := tYes) rfl scWorth.nd (pi_list (pv 5)) (blkOk_by (N := ["things", "bench", "apart", "length", "inside", "others", "thing"]) (sc := defScope sWorth) (by decide +kernel)) (fun _ _ _ _ _ => pg_name (i := 6) scWorth.nd rfl (Or.inl rfl)) (fun _ _ _ _ _ => pts_nil) (fun _ _ _ _ _ => pe_ix (show IxR _ (rIxT K) from ix_tup) (pv 6) pe_int (fun _ _ => rfl))) pa_nil))))), ?_⟩
    refine ⟨_, rfl, _, rfl, _, rfl, l, c, zs, bench, ap, rfl, hT, hS, hB.two, (fun x hx => by have := hB.inn x hx; rw [ths_len] at this; exact this), fun p i j us ws H3 e3 hU hW hu hw hp => ?_⟩
    refine eg_2 (st_of hp) eg_name eg_name H3 (Ex.refl _) _ ?_
    have hul := hU.le
    have hwl := hW.le
    have sumU : ∀ {σ : L2.St} {H' : Hp} {te : TE}, Ex H3 H' → wipe σ [6] = σ → (∀ x, wipe ((wipe σ [6]).set 6 (some x)) [6] = wipe σ [6]) → (∀ x, ((wipe σ [6]).set 6 (some x))[6]? = some (some x)) → Ev te σ H' (.ref i) → Ev (tCB (rSum K) (tCons (tLc (iList K te) (gName 6) tYes (tOp (rIxT K) (tVar 6) (tC (.int 0))) [6]) tNil)) σ H' (.int (A (ths us))) := fun {σ H' te} e hw0 hw1 hv h => by
      refine ev_cbL (el_lcL (a := i) (xs := tv us) (fun _ => true) (fun n => .int (us.getD n (0, th0)).2.1) h (hU.mono e).ls (by rw [tv_len]; omega) hw1 (fun n x H1 e1 hi => et_yes) fun n x H1 e1 hi _ => ?_) fun p H1 e1 hp => ?_
      · obtain ⟨_, rfl, hm⟩ := tv_at hi
        exact ev_op (ev_var (hv _)) ev_c (rv_ixT (ex_t (e.trans e1) (hU.it _ hm)) (atI_nat (j := 0) rfl))
      · rw [tv_len, given_ints us (0, th0) (fun z => z.2.1)] at hp
        have := rc_sum (K := K) (H := H1) (sq_of hp)
        rw [A_sum]
        unfold ths
        rw [List.map_map]
        exact this
    have sumW : ∀ {σ : L2.St} {H' : Hp} {te : TE}, Ex H3 H' → wipe σ [6] = σ → (∀ x, wipe ((wipe σ [6]).set 6 (some x)) [6] = wipe σ [6]) → (∀ x, ((wipe σ [6]).set 6 (some x))[6]? = some (some x)) → Ev te σ H' (.ref j) → Ev (tCB (rSum K) (tCons (tLc (iList K te) (gName 6) tYes (tOp (rIxT K) (tVar 6) (tC (.int 2))) [6]) tNil)) σ H' (.int (B (ths ws))) := fun {σ H' te} e hw0 hw1 hv h => by
      refine ev_cbL (el_lcL (a := j) (xs := tv ws) (fun _ => true) (fun n => .int (ws.getD n (0, th0)).2.2.2) h (hW.mono e).ls (by rw [tv_len]; omega) hw1 (fun n x H1 e1 hi => et_yes) fun n x H1 e1 hi _ => ?_) fun p H1 e1 hp => ?_
      · obtain ⟨_, rfl, hm⟩ := tv_at hi
        exact ev_op (ev_var (hv _)) ev_c (rv_ixT (ex_t (e.trans e1) (hW.it _ hm)) (atI_nat (j := 2) rfl))
      · rw [tv_len, given_ints ws (0, th0) (fun z => z.2.2.2)] at hp
        have := rc_sum (K := K) (H := H1) (sq_of hp)
        rw [B_sum]
        unfold ths
        rw [List.map_map]
        exact this
    refine s_ret (ev_op (ev_op (sumU (Ex.refl _) rfl (fun _ => rfl) (fun _ => rfl) (ev_var rfl)) (ev_var rfl) rv_I0) (sumW (Ex.refl _) rfl (fun _ => rfl) (fun _ => rfl) (ev_var rfl)) rv_I0) fun H4 e4 => ?_
    have : A (ths us) + L + B (ths ws) = lawW (ths zs) bench ap L := by
      rw [lawW_yes hB, hu, hw]
      unfold barWorth
      rw [← sel_worth]
      omega
    rw [this]
    exact k.go (e3.trans e4)
end
end Bp
namespace Bp
open PySem L2 Evl
/-! ### the classes of answers -/
/-- a class whose objects are told apart by isinstance -/
structure KI (K : PySem.W.Frag) (C : Addr) : Prop where
  cl : Cls K C
  ha : PySem.W.findIn K (.ref C) "__class__" = some (some (.builtin "object.__class__"))
  hn : PySem.W.specialIn K (.builtin "object.__class__") "__get__" = some (some (.builtin "getset_descriptor.__get__"))
  htk : PySem.W.takesIn K (.builtin "object.__class__") = some true
  hm : PySem.W.mroIn K C (.type "object") = some true
theorem KI.ty {K : PySem.W.Frag} {C a dx : Addr} {H : Hp} {fs : List (Str × V)} (k : KI K C) (h : H a = some (.ins C dx fs)) : ∀ H1, Ex H H1 → TyX K H1 (.ref a) (.ref C) := ty_ins h k.cl k.ha k.hn k.htk k.hm
def fSo (o : Addr) (bench : Int) (c : Addr) (L : Int) : List (Str × V) := putF "length" (.int L) (putF "apart" (.ref c) (putF "bench" (.int bench) (putF "order" (.ref o) [])))
theorem fSo_order (o : Addr) (bench : Int) (c : Addr) (L : Int) : (fSo o bench c L).lookup ("order" : Str) = some (.ref o) := by
  unfold fSo
  rw [lookup_putF, if_neg (by decide +kernel), lookup_putF, if_neg (by decide +kernel), lookup_putF, if_neg (by decide +kernel), lookup_putF, if_pos rfl]
theorem fSo_bench (o : Addr) (bench : Int) (c : Addr) (L : Int) : (fSo o bench c L).lookup ("bench" : Str) = some (.int bench) := by
  unfold fSo
  rw [lookup_putF, if_neg (by decide +kernel), lookup_putF, if_neg (by decide +kernel), lookup_putF, if_pos rfl]
theorem fSo_apart (o : Addr) (bench : Int) (c : Addr) (L : Int) : (fSo o bench c L).lookup ("apart" : Str) = some (.ref c) := by
  unfold fSo
  rw [lookup_putF, if_neg (by decide +kernel), lookup_putF, if_pos rfl]
theorem fSo_length (o : Addr) (bench : Int) (c : Addr) (L : Int) : (fSo o bench c L).lookup ("length" : Str) = some (.int L) := by
  unfold fSo
  rw [lookup_putF, if_pos rfl]
theorem fSo_shows (o : Addr) (bench : Int) (c : Addr) (L : Int) : (fSo o bench c L).lookup ("shows" : Str) = none := by
  unfold fSo
  rw [lookup_putF, if_neg (by decide +kernel), lookup_putF, if_neg (by decide +kernel), lookup_putF, if_neg (by decide +kernel), lookup_putF, if_neg (by decide +kernel)]
  rfl
structure KSo (K : PySem.W.Frag) (mg : Str → Option Value) (C : Addr) : Prop where
  ki : KI K C
  nO : NoAttr K C "order"
  nB : NoAttr K C "bench"
  nA : NoAttr K C "apart"
  nL : NoAttr K C "length"
  mgC : mg "Soonest" = some (.ref C)
theorem exb_l {K : PySem.W.Frag} {H H' : Hp} {x C dx b : Addr} {fs : List (Str × V)} {ys : List V} (hx : H x = some (.ins C dx fs)) (e : Exb x H H') (h : SqL K H b ys) : SqL K H' b ys := by
  rcases h with (h | ⟨o, h⟩) | h
  · exact .inl (.inl (e _ _ (ne_of h hx (by intro z; cases z)) h))
  · exact .inl (.inr ⟨o, e _ _ (ne_of h hx (by intro z; cases z)) h⟩)
  · exact .inr h
def spInitSo (K : PySem.W.Frag) (C : Addr) : Sp := fun vs H Q _ => ∃ (x dx a b : Addr) (xs ys : List V) (bench L : Int), vs = [.ref x, .ref a, .int bench, .ref b, .int L] ∧ H x = some (.ins C dx []) ∧ SqL K H a xs ∧ SqL K H b ys ∧
  ∀ (o c : Addr) (H' : Hp), H o = none → H c = none → o ≠ c → Exb x H H' → H' x = some (.ins C dx (fSo o bench c L)) → H' o = some (.lst xs) → H' c = some (.lst ys) → Q .non H'
def spShowsSo (K : PySem.W.Frag) (C : Addr) : Sp := fun vs H Q _ => ∃ (x dx o c l : Addr) (zs : List (Addr × Th)) (is ap : List Int) (bench L : Int), vs = [.ref x, .ref l] ∧ H x = some (.ins C dx (fSo o bench c L)) ∧ SqL K H o (is.map V.int) ∧ SqL K H c (ap.map V.int) ∧ Ths K H l zs ∧ is.length ≤ 1000 ∧
  RetV (.bl (soB (ths zs) is bench ap L)) H Q
section
variable {K : PySem.W.Frag} {σ : L2.St} {H : Hp} {D : Ends} {tz : TS} {dvs : List V} {E : XK} {sp : Sp}
theorem q_callG {g : TG} {ta : TA} {vs : List V} (h : EvA ta σ H vs) (k : ∀ H1, Ex H H1 → sp (vs ++ dvs) H1 (fun v H2 => g v σ H2 (fun σ2 H3 => tz D σ2 H3)) E) : tSeq (tAsg (tCall sp dvs E ta) g) tz D σ H := h H (Ex.refl H) _ k
end
section
variable {P : Program} {w : World} {K : PySem.W.Frag} {mg : Str → Option Value} {base : Heap}
theorem sciSo : FnScope ["self", "order", "bench", "apart", "length"] ["self", "order", "bench", "apart", "length"] (defScope iSoonest) := ⟨rfl, rfl, rfl, by decide +kernel, rfl, by decide +kernel, by decide +kernel⟩
theorem ok_initSo {f C : Addr} {fd : FuncData} (F : Fun K "__init__" "Soonest.__init__" iSoonest f fd) (T : Bn mg) (N : KSo K mg C) : FnOk P w K mg base CX0 1 f fd ["self", "order", "bench", "apart", "length"] (spInitSo K C) := by
  refine F.ok sciSo (fun vs H Q E h => ?_) (fun cdv Ar outer s H vs Q E hr h => ?_)
  · obtain ⟨x, dx, a, b, xs, ys, bench, L, rfl, _⟩ := h
    rfl
  · obtain ⟨x, dx, a, b, xs, ys, bench, L, rfl, hx, hA, hB, k⟩ := h
    refine ⟨_, pss_cons (ps_fld (pv 0) (pe_callTy call_list_of (by rfl) T.list PyProof.Rows.boot_list (pa_cons (pv 1) pa_nil)) rfl) (pss_cons (ps_fld (pv 0) (pv 2) rfl)
      (pss_cons (ps_fld (pv 0) (pe_callTy call_list_of (by rfl) T.list PyProof.Rows.boot_list (pa_cons (pv 3) pa_nil)) rfl) (pss_one (ps_fld (pv 0) (pv 4) rfl)))), ?_⟩
    refine ⟨.ref a, rfl, a, xs, rfl, .inl hA, fun o no => ?_⟩
    have nxo : x ≠ o := ne_of_none hx no
    refine ⟨.ref x, rfl, x, C, dx, [], rfl, (by rw [upd_ne nxo]; exact hx), N.ki.cl, N.nO, (by show 0 < 1000; decide), ?_⟩
    have l1 := length_putF ("order" : Str) (V.ref o) []
    refine ⟨.int bench, rfl, .ref x, rfl, x, C, dx, _, rfl, upd_same, N.ki.cl, N.nB, (by have : ([] : List (Str × V)).length = 0 := rfl; omega), ?_⟩
    have l2 := length_putF ("bench" : Str) (V.int bench) (putF "order" (V.ref o) [])
    rw [upd_upd]
    have b1 : Exb x H (upd (upd H o (.lst xs)) x (.ins C dx (putF "bench" (.int bench) (putF "order" (.ref o) [])))) := (Exb.of (Ex.new no)).trans Exb.set
    have ho1 : (upd (upd H o (.lst xs)) x (.ins C dx (putF "bench" (.int bench) (putF "order" (.ref o) [])))) o = some (.lst xs) := by rw [upd_ne nxo.symm, upd_same]
    have hx1 : (upd (upd H o (.lst xs)) x (.ins C dx (putF "bench" (.int bench) (putF "order" (.ref o) [])))) x = some (.ins C dx (putF "bench" (.int bench) (putF "order" (.ref o) []))) := upd_same
    have nb1 : ∀ q, (upd (upd H o (.lst xs)) x (.ins C dx (putF "bench" (.int bench) (putF "order" (.ref o) [])))) q = none → H q = none := fun q hq => by
      cases e : H q with
      | none => rfl
      | some u =>
        have : q ≠ x := fun z => by rw [z, hx1] at hq; cases hq
        rw [b1 _ _ this e] at hq
        cases hq
    generalize upd (upd H o (.lst xs)) x (.ins C dx (putF "bench" (.int bench) (putF "order" (.ref o) []))) = H1 at b1 ho1 hx1 nb1
    refine ⟨.ref b, rfl, b, ys, rfl, .inl (exb_l hx b1 hB), fun c nc => ?_⟩
    have nxc : x ≠ c := ne_of_none hx1 nc
    refine ⟨.ref x, rfl, x, C, dx, _, rfl, (by rw [upd_ne nxc]; exact hx1), N.ki.cl, N.nA, (by have : ([] : List (Str × V)).length = 0 := rfl; omega), ?_⟩
    have l3 := length_putF ("apart" : Str) (V.ref c) (putF "bench" (V.int bench) (putF "order" (V.ref o) []))
    refine ⟨.int L, rfl, .ref x, rfl, x, C, dx, _, rfl, upd_same, N.ki.cl, N.nL, (by have : ([] : List (Str × V)).length = 0 := rfl; omega), ?_⟩
    rw [upd_upd]
    have noc : o ≠ c := ne_of_none ho1 nc
    exact k o c _ no (nb1 c nc) noc (b1.trans ((Exb.of (Ex.new nc)).trans Exb.set)) upd_same (by rw [upd_ne nxo.symm, upd_ne noc]; exact ho1) (by rw [upd_ne nxc.symm, upd_same])
/-- what the three shows call -/
structure Sks (K : PySem.W.Frag) (mg : Str → Option Value) (P : Program) (w : World) (base : Heap) (fO fB fM fW : Addr) (dO dB dM dW : FuncData) : Prop where
  gO : mg "is_order" = some (.ref fO)
  FO : Fun K "is_order" "is_order" sOrder fO dO
  bO : Binds K dO ["value", "many"] []
  GO : FnOk P w K mg base CX0 2 fO dO ["value", "many"] (spOrder K)
  gB : mg "is_bar" = some (.ref fB)
  FB : Fun K "is_bar" "is_bar" sIsBar fB dB
  bB : Binds K dB ["things", "bench", "apart", "length"] []
  GB : FnOk P w K mg base CX0 3 fB dB ["things", "bench", "apart", "length"] (spIsBar K)
  gM : mg "make_in_order" = some (.ref fM)
  FM : Fun K "make_in_order" "make_in_order" sMake fM dM
  bM : Binds K dM ["things", "order"] []
  GM : FnOk P w K mg base CX0 1 fM dM ["things", "order"] (spMake K)
  gW : mg "bar_worth" = some (.ref fW)
  FW : Fun K "bar_worth" "bar_worth" sWorth fW dW
  bW : Binds K dW ["things", "bench", "apart", "length"] []
  GW : FnOk P w K mg base CX0 3 fW dW ["things", "bench", "apart", "length"] (spWorth K)
theorem scmSo : FnScope ["self", "things", "_", "end"] ["self", "things"] (defScope mSoonest) := ⟨rfl, rfl, rfl, by decide +kernel, rfl, by decide +kernel, by decide +kernel⟩
theorem ok_showsSo {f C fO fB fM fW : Addr} {fd dO dB dM dW : FuncData} (F : Fun K "shows" "Soonest.shows" mSoonest f fd) (T : Bn mg) (N : KSo K mg C) (S : Sks K mg P w base fO fB fM fW dO dB dM dW) : FnOk P w K mg base CX0 4 f fd ["self", "things"] (spShowsSo K C) := by
  refine F.ok scmSo (fun vs H Q E h => ?_) (fun cdv Ar outer s H vs Q E hr h => ?_)
  · obtain ⟨x, dx, o, c, l, zs, is, ap, bench, L, rfl, _⟩ := h
    rfl
  · obtain ⟨x, dx, o, c, l, zs, is, ap, bench, L, rfl, hx, hO, hC, hT, hz, k⟩ := h
    have hzl := hT.le
    refine ⟨_, pss_cons (ps_if (pt_not (pt_val (pe_call S.GO (hr.mono (by decide)) (by rfl) S.gO S.FO.kp S.bO .nil pass0 (pa_cons (pe_fld (pv 0) rfl) (pa_cons (pe_callB call_len_seq (by rfl) T.len PySem.boot_len (pa_cons (pv 1) pa_nil)) pa_nil))))) (pss_one (ps_ret pe_bl)) pss_nil)
      (pss_cons (ps_if (pt_not (pt_val (pe_call S.GB hr (by rfl) S.gB S.FB.kp S.bB .nil pass0 (pa_cons (pv 1) (pa_cons (pe_fld (pv 0) rfl) (pa_cons (pe_fld (pv 0) rfl) (pa_cons (pe_fld (pv 0) rfl) pa_nil))))))) (pss_one (ps_ret pe_bl)) pss_nil)
      (pss_cons (ps_asg (pe_call S.GM (hr.mono (by decide)) (by rfl) S.gM S.FM.kp S.bM .nil pass0 (pa_cons (pv 1) (pa_cons (pe_fld (pv 0) rfl) pa_nil))) (pg_tup rfl (pgs_cons (pg_name (i := 2) scmSo.nd rfl (Or.inl rfl)) (pgs_cons (pg_name (i := 3) scmSo.nd rfl (Or.inl rfl)) pgs_nil))))
      (pss_one (ps_ret (pe_cmpR op_eq (pv 3) (pe_call S.GW hr (by rfl) S.gW S.FW.kp S.bW .nil pass0 (pa_cons (pv 1) (pa_cons (pe_fld (pv 0) rfl) (pa_cons (pe_fld (pv 0) rfl) (pa_cons (pe_fld (pv 0) rfl) pa_nil))))) (nomark _)))))), ?_⟩
    have fld : ∀ {σ : L2.St} {H1 : Hp} {te : TE} {g : Str} {v : V}, Ex H H1 → NoAttr K C g → (fSo o bench c L).lookup g = some v → Ev te σ H1 (.ref x) → Ev (tFld K te g) σ H1 v := fun e n lk h => ev_fld h (e _ _ hx) N.ki.cl n lk
    refine q_when (b := !ordB zs.length is) (et_not (et_B (ev_call (ea_cons (fld (Ex.refl H) N.nO (fSo_order _ _ _ _) (ev_var rfl)) (ea_cons (ev_cb (ea_cons (ev_var rfl) ea_nil) (rc_lenL hT.ls)) ea_nil)) fun H3 e3 Q q E => ⟨o, is, zs.length, by rw [tv_len]; rfl, ex_l e3 hO, hz, hzl, q⟩))) (fun hb H1 e1 => ?_) (fun hb H1 e1 => ?_)
    · refine s_ret ev_c fun H2 e2 => ?_
      have h : ordB (ths zs).length is = false := by rw [ths_len]; simpa using hb
      unfold soB at k
      rw [h, Bool.false_and] at k
      exact k.go (e1.trans e2)
    have hord : ordB zs.length is = true := by simpa using hb
    refine q_when (b := !barB (ths zs) bench ap L) (et_not (et_B (ev_call (ea_cons (ev_var rfl) (ea_cons (fld e1 N.nB (fSo_bench _ _ _ _) (ev_var rfl)) (ea_cons (fld e1 N.nA (fSo_apart _ _ _ _) (ev_var rfl)) (ea_cons (fld e1 N.nL (fSo_length _ _ _ _) (ev_var rfl)) ea_nil)))) fun H3 e3 Q q E => ⟨l, c, zs, bench, L, ap, rfl, hT.mono (e1.trans e3), ex_l (e1.trans e3) hC, q⟩))) (fun hb2 H2 e2 => ?_) (fun hb2 H2 e2 => ?_)
    · refine s_ret ev_c fun H3 e3 => ?_
      have h : ¬ BarW (ths zs) bench ap L := fun hB => by
        rw [barB_yes hB] at hb2
        cases hb2
      rw [soB_no (ths_nn hT) h] at k
      exact k.go ((e1.trans e2).trans e3)
    have hB : BarW (ths zs) bench ap L := barB_iff.mp (by simpa using hb2)
    have e12 := e1.trans e2
    obtain ⟨ord, rfl, ho⟩ := ordB_ord hord
    refine q_callG (ea_cons (ev_var rfl) (ea_cons (fld e12 N.nO (fSo_order _ _ _ _) (ev_var rfl)) ea_nil)) fun H3 e3 => ⟨l, o, zs, ord, rfl, hT.mono (e12.trans e3), by rw [ov_ints]; exact ex_l (e12.trans e3) hO, ho, fun p q bs H4 e4 nq hP hbs hp => eg_2 (st_of hp) eg_name eg_name H4 (Ex.refl _) _ ?_⟩
    have e14 := (e12.trans e3).trans e4
    refine s_ret (ev_op (ev_var rfl) (ev_call (ea_cons (ev_var rfl) (ea_cons (fld e14 N.nB (fSo_bench _ _ _ _) (ev_var rfl)) (ea_cons (fld e14 N.nA (fSo_apart _ _ _ _) (ev_var rfl)) (ea_cons (fld e14 N.nL (fSo_length _ _ _ _) (ev_var rfl)) ea_nil)))) fun H5 e5 Q q E => ⟨l, c, zs, bench, L, ap, rfl, hT.mono (e14.trans e5), ex_l (e14.trans e5) hC, hB, q⟩) (rv_eq rfl)) fun H5 e5 => ?_
    have h : soB (ths zs) (asI ord) bench ap L = decide (V.int (going (ths zs) ord).2.2 = V.int (lawW (ths zs) bench ap L)) := by
      unfold soB
      rw [ths_len, hord, Bool.true_and, asI_back, going_W (ths_nn hT)]
      exact decide_eq_decide.mpr ⟨fun h => by rw [h], fun h => (V.int.inj h).symm⟩
    rw [h] at k
    exact k.go (e14.trans e5)
end
end Bp
namespace Bp
open PySem L2 Evl
/-! ### the soonest order -/
theorem Prs.mono {H H' : Hp} {q : Addr} {bs : List (Addr × (Int × Int))} (h : Prs H q bs) (e : Ex H H') : Prs H' q bs := ⟨e _ _ h.1, fun z hz => e _ _ (h.2 z hz)⟩
theorem Prs.add {H H1 : Hp} {q p : Addr} {bs : List (Addr × (Int × Int))} {x y : Int} (h : Prs H q bs) (e : Ex H H1) (hp : H1 p = some (.tup [.int x, .int y])) : Prs (upd H1 q (.lst (tv bs ++ [.ref p]))) q (bs ++ [(p, (x, y))]) := by
  have hq := e _ _ h.1
  refine ⟨by rw [upd_same, ← tv_app]; rfl, fun z hz => ?_⟩
  rcases List.mem_append.mp hz with hz | hz
  · have := e _ _ (h.2 z hz)
    rw [upd_ne (ne_of this hq (by intro z; cases z))]
    exact this
  · obtain rfl := List.mem_singleton.mp hz
    rw [upd_ne (ne_of hp hq (by intro z; cases z))]
    exact hp
theorem Prs.keep {H : Hp} {q r : Addr} {bs : List (Addr × (Int × Int))} {xs ys : List V} (h : Prs H q bs) (hr : H r = some (.lst xs)) (n : q ≠ r) : Prs (upd H r (.lst ys)) q bs := by
  refine ⟨by rw [upd_ne n]; exact h.1, fun z hz => ?_⟩
  have := h.2 z hz
  rw [upd_ne (ne_of this hr (by intro z; cases z))]
  exact this
/-! the two ints of the tuple at x -/
def kV2 : Option HO → Int × Int
  | some (.tup [.int i, .int j]) => (i, j)
  | _ => (0, 0)
def kH (H : Hp) : V → Int × Int
  | .ref a => kV2 (H a)
  | _ => (0, 0)
theorem kH_of {H : Hp} {a : Addr} {i j : Int} (h : H a = some (.tup [.int i, .int j])) : kH H (.ref a) = (i, j) := by
  show kV2 (H a) = (i, j)
  rw [h]
  rfl
theorem sorted_part {p : Nat → Bool} {key : Nat → Int} {n : Nat} {es : List (Addr × (Int × Int))} {k : V → Int × Int} {ys : List V} (hes : ths es = ((List.range n).filter p).map fun (c : Nat) => (key c, (c : Int))) (hk : ∀ z ∈ es, k (.ref z.1) = z.2)
    (hs : SrtO.Srtd (ltP k) ys) (hp : SrtO.Stb (ltP k) ys (tv es)) : ∃ e : List Nat, (ys.map fun y => V.int (k y).2) = ov e ∧ e.Perm ((List.range n).filter p) ∧ e.Pairwise fun a b => key a ≤ key b := by
  have mem : ∀ y ∈ ys, ∃ c : Nat, k y = (key c, (c : Int)) := fun y hy => by
    have h1 := hp.perm.mem_iff.mp hy
    obtain ⟨z, hz, rfl⟩ := List.mem_map.mp h1
    rw [hk z hz]
    have : z.2 ∈ ths es := List.mem_map.mpr ⟨z, hz, rfl⟩
    rw [hes] at this
    obtain ⟨c, _, e⟩ := List.mem_map.mp this
    exact ⟨c, e.symm⟩
  refine ⟨ys.map fun y => (k y).2.toNat, ?_, ?_, ?_⟩
  · unfold ov
    rw [List.map_map]
    refine List.map_congr_left fun y hy => ?_
    obtain ⟨c, e⟩ := mem y hy
    show V.int (k y).2 = V.int (((k y).2.toNat : Nat) : Int)
    rw [e]
    rfl
  · refine (hp.perm.map _).trans ?_
    have : (tv es).map (fun y => (k y).2.toNat) = (ths es).map fun t => t.2.toNat := by
      unfold tv ths
      rw [List.map_map, List.map_map]
      refine List.map_congr_left fun z hz => ?_
      show (k (.ref z.1)).2.toNat = z.2.2.toNat
      rw [hk z hz]
    rw [this, hes, List.map_map]
    have : ((fun (t : Int × Int) => t.2.toNat) ∘ fun (c : Nat) => (key c, (c : Int))) = id := funext fun c => rfl
    rw [this, List.map_id]
  · refine List.pairwise_map.mpr (List.Pairwise.imp_of_mem (fun {x y} hx hy h => ?_) hs)
    obtain ⟨c, ec⟩ := mem x hx
    obtain ⟨d, ed⟩ := mem y hy
    have := SrtO.lexB_no.mp h
    rw [ec, ed] at this ⊢
    show key ((c : Int)).toNat ≤ key ((d : Int)).toNat
    rw [Int.toNat_natCast, Int.toNat_natCast]
    have h2 : ¬ (key d < key c ∨ (key d = key c ∧ (d : Int) < (c : Int))) := this
    omega
theorem filter_succ {α : Type} (p : Nat → Bool) (f : Nat → α) (i : Nat) : (((List.range (i + 1)).filter p).map f) = if p i then ((List.range i).filter p).map f ++ [f i] else ((List.range i).filter p).map f := by
  rw [List.range_succ, List.filter_append, List.map_append]
  cases h : p i with
  | true => rw [List.filter_cons_of_pos h]; rfl
  | false => rw [List.filter_cons_of_neg (by rw [h]; decide)]; simp
def earlyB (ts : List Th) (c : Nat) : Bool := decide (fr ts c ≤ se ts c)
def spJo (K : PySem.W.Frag) : Sp := fun vs H Q _ => ∃ (l : Addr) (zs : List (Addr × Th)), vs = [.ref l] ∧ Ths K H l zs ∧ ∀ (a : Addr) (o : List Nat) (H' : Hp), Ex H H' → H a = none → H' a = some (.lst (ov o)) → Jo (ths zs) o → Q (.ref a) H'
section
variable {K : PySem.W.Frag} {σ σ2 : L2.St} {H : Hp} {D : Ends} {tz : TS} {te : TE} {g : TG} {v : V}
theorem q_asgG (h : Ev te σ H v) (hg : ∀ H1, Ex H H1 → EvG g v σ H1 σ2) (k : ∀ H1, Ex H H1 → tz D σ2 H1) : tSeq (tAsg te g) tz D σ H := h H (Ex.refl H) _ fun H1 e => hg H1 e H1 (Ex.refl _) _ (k H1 e)
def rIsNone : R2 := fun x y H Q => y = .non ∧ Q (.bl (decide (x = .non))) H
theorem rv_isN {x : V} : RV rIsNone x .non H (.bl (decide (x = .non))) := fun H1 _ _ q => ⟨rfl, q H1 (Ex.refl H1)⟩
end
section
variable {P : Program} {w : World} {K : PySem.W.Frag} {mg : Str → Option Value} {base : Heap}
abbrev nJo : List Str := ["things", "early", "late", "count", "first", "drying", "second", "_"]
theorem scJo : FnScope nJo ["things"] (defScope sJo) := ⟨rfl, rfl, rfl, by decide +kernel, rfl, by decide +kernel, by decide +kernel⟩
theorem ok_jo {f : Addr} {fd : FuncData} (F : Fun K "soonest_order" "soonest_order" sJo f fd) (T : Bn mg) : FnOk P w K mg base CX0 1 f fd ["things"] (spJo K) := by
  refine F.ok scJo (fun vs H Q E h => ?_) (fun cdv Ar outer s H vs Q E hr h => ?_)
  · obtain ⟨l, zs, rfl, _⟩ := h
    rfl
  · obtain ⟨l, zs, rfl, hT, k⟩ := h
    have hzl := hT.le
    refine ⟨_, pss_cons (ps_set (i := 1) scJo.nd rfl (Or.inl rfl) (pe_lst pa_nil))
      (pss_cons (ps_set (i := 2) scJo.nd rfl (Or.inl rfl) (pe_lst pa_nil))
      (pss_cons (ps_for PassesOwn.never rfl (pi_enum (by rfl) T.enum (pa_cons (pv 0) pa_nil)) (pg_tup rfl (pgs_cons (pg_name (i := 3) scJo.nd rfl (Or.inl rfl)) (pgs_cons (pg_tup rfl (pgs_cons (pg_name (i := 4) scJo.nd rfl (Or.inl rfl)) (pgs_cons (pg_name (i := 5) scJo.nd rfl (Or.inl rfl)) (pgs_cons (pg_name (i := 6) scJo.nd rfl (Or.inl rfl)) pgs_nil)))) pgs_nil)))
        (pss_one (ps_if (pt_cmpR op_le (pv 4) (pv 6) (nomark _))
          (pss_one (ps_expr (pe_bm PySem.F.plainAttrs_list PySem.F.slot_list_append PySem.F.type_list_append mt_append (pv 1) (pa_cons (pe_tup (pa_cons (pe_op op_add (pv 4) (pv 5)) (pa_cons (pv 3) pa_nil))) pa_nil))))
          (pss_one (ps_expr (pe_bm PySem.F.plainAttrs_list PySem.F.slot_list_append PySem.F.type_list_append mt_append (pv 2) (pa_cons (pe_tup (pa_cons (pe_un un_neg (pe_op op_add (pv 5) (pv 6))) (pa_cons (pv 3) pa_nil))) pa_nil)))))))
      (pss_one (ps_ret (pe_lc (own := [("_", 7), ("count", 3)]) (g := gTup K 2 (gCons (gName 7) (gCons (gName 3) gNil))) (tt := tYes) rfl scJo.nd (pi_list (pe_op op_cat (pe_callB cr_sortedPO (by rfl) T.sorted (by decide +kernel) (pa_cons (pv 1) pa_nil)) (pe_callB cr_sortedPO (by rfl) T.sorted (by decide +kernel) (pa_cons (pv 2) pa_nil)))) (blkOk_by (N := nJo) (sc := defScope sJo) (by decide +kernel))
        (fun _ _ _ _ _ => pg_tup rfl (pgs_cons (pg_name (i := 7) scJo.nd rfl (Or.inl rfl)) (pgs_cons (pg_name (i := 3) scJo.nd rfl (Or.inl rfl)) pgs_nil))) (fun _ _ _ _ _ => pts_nil) (fun _ _ _ _ _ => pv 3)))))), ?_⟩
    refine q_asgL (el_lst ea_nil (by show 0 ≤ 100000; decide)) fun a H1 na e1 ha => ?_
    refine q_asgL (el_lst ea_nil (by show 0 ≤ 100000; decide)) fun b H2 nb e2 hb => ?_
    have nab : a ≠ b := ne_of_none ha nb
    have nb0 := fresh_back e1 nb
    have hzt : ∀ {i : Nat}, i < zs.length → (ths zs).getD i th0 = (zs.getD i (0, th0)).2 := fun {i} hi => by
      unfold ths
      rw [List.getD_eq_getElem?_getD, List.getD_eq_getElem?_getD, List.getElem?_map, List.getElem?_eq_getElem hi]
      rfl
    refine for_it_seqE (a := l) (xs := tv zs) (ea_cons (ev_var rfl) ea_nil) (ex_l (e1.trans e2) hT.ls) (fun i σ' H' => ∃ (es ds : List (Addr × (Int × Int))) (v3 v4 v5 v6 v7 : Option V), σ' = [some (.ref l), some (.ref a), some (.ref b), v3, v4, v5, v6, v7] ∧ Ex H H' ∧ Prs H' a es ∧ Prs H' b ds ∧
        (ths es = ((List.range i).filter (earlyB (ths zs))).map fun (c : Nat) => (fr (ths zs) c + dr (ths zs) c, (c : Int))) ∧ (ths ds = ((List.range i).filter fun c => !earlyB (ths zs) c).map fun (c : Nat) => (-(dr (ths zs) c + se (ths zs) c), (c : Int))))
      (fun H3 e3 => ⟨[], [], none, none, none, none, none, rfl, (e1.trans e2).trans e3, ⟨e3 _ _ (e2 _ _ ha), (fun z hz => nomatch hz)⟩, ⟨e3 _ _ hb, (fun z hz => nomatch hz)⟩, rfl, rfl⟩) (fun i σ' H' _ ⟨_, _, _, _, _, _, _, _, e', _⟩ => ex_l e' hT.ls) ?_ ?_
    · rintro i x t σ' H' hi ⟨es, ds, v3, v4, v5, v6, v7, rfl, e', hE, hD, hes, hds⟩ nt
      obtain ⟨hil, rfl, hm⟩ := tv_at hi
      have ht := hzt hil
      generalize hz : zs.getD i (0, th0) = z at hm ht
      have eT : Ex H' (upd H' t (.tup [.int (i : Int), .ref z.1])) := Ex.new nt
      have hel : es.length ≤ i := by
        rw [← ths_len es, hes, List.length_map]
        exact Nat.le_trans (List.length_filter_le _ _) (by rw [List.length_range]; exact Nat.le_refl _)
      have hdl : ds.length ≤ i := by
        rw [← ths_len ds, hds, List.length_map]
        exact Nat.le_trans (List.length_filter_le _ _) (by rw [List.length_range]; exact Nat.le_refl _)
      have ef : fr (ths zs) i = z.2.1 := by unfold fr; rw [ht]
      have ed : dr (ths zs) i = z.2.2.1 := by unfold dr; rw [ht]
      have es' : se (ths zs) i = z.2.2.2 := by unfold se; rw [ht]
      refine eg_2 (σ2 := [some (.ref l), some (.ref a), some (.ref b), some (.int (i : Int)), v4, v5, v6, v7]) (st_of upd_same) eg_name (eg_3 (ex_t (e'.trans eT) (hT.it z hm)) eg_name eg_name eg_name) _ (Ex.refl _) _ ?_
      have hE := hE.mono eT
      have hD := hD.mono eT
      have eHT := e'.trans eT
      generalize upd H' t (.tup [.int (i : Int), .ref z.1]) = HT at eT hE hD eHT
      refine s_if (et_test (ev_op (ev_var rfl) (ev_var rfl) rv_I0)) (fun hc H3 e3 => ?_) (fun hc H3 e3 => ?_)
      · have hearly : earlyB (ths zs) i = true := by unfold earlyB; rw [ef, es']; exact hc
        refine s_appU (hE.mono e3).1 (ev_var rfl) (eu_tup (ea_cons (ev_op (ev_var rfl) (ev_var rfl) rv_I0) (ea_cons (ev_var rfl) ea_nil)) (by show 2 ≤ 100000; decide)) (by rw [tv_len]; omega) fun p H4 np e4 hp => ?_
        have e34 := e3.trans e4
        refine ⟨es ++ [(p, (z.2.1 + z.2.2.1, (i : Int)))], ds, some (.int (i : Int)), some (.int z.2.1), some (.int z.2.2.1), some (.int z.2.2.2), v7, rfl, Ex.mut (eHT.trans e34) na, hE.add e34 hp, (hD.mono e34).keep (e34 _ _ hE.1) nab.symm, ?_, ?_⟩
        · rw [filter_succ, hearly, if_pos rfl, ← hes, ef, ed]
          unfold ths
          rw [List.map_append]
          rfl
        · rw [filter_succ, hearly, hds]
          rfl
      · have hearly : earlyB (ths zs) i = false := by unfold earlyB; rw [ef, es']; exact hc
        refine s_appU (hD.mono e3).1 (ev_var rfl) (eu_tup (ea_cons (ev_un (ev_op (ev_var rfl) (ev_var rfl) rv_I0) ru_neg) (ea_cons (ev_var rfl) ea_nil)) (by show 2 ≤ 100000; decide)) (by rw [tv_len]; omega) fun p H4 np e4 hp => ?_
        have e34 := e3.trans e4
        refine ⟨es, ds ++ [(p, (-(z.2.2.1 + z.2.2.2), (i : Int)))], some (.int (i : Int)), some (.int z.2.1), some (.int z.2.2.1), some (.int z.2.2.2), v7, rfl, Ex.mut (eHT.trans e34) nb0, (hE.mono e34).keep (e34 _ _ hD.1) nab, hD.add e34 hp, ?_, ?_⟩
        · rw [filter_succ, hearly, hes]
          rfl
        · rw [filter_succ, hearly]
          show _ = ((List.range i).filter fun c => !earlyB (ths zs) c).map _ ++ _
          rw [← hds, es', ed]
          unfold ths
          rw [List.map_append]
          rfl
    · rintro σ' H3 ⟨es, ds, v3, v4, v5, v6, v7, rfl, e3, hE, hD, hes, hds⟩
      rw [tv_len] at hes hds
      have hel : es.length ≤ zs.length := by
        rw [← ths_len es, hes, List.length_map]
        exact Nat.le_trans (List.length_filter_le _ _) (by rw [List.length_range]; exact Nat.le_refl _)
      have hdl : ds.length ≤ zs.length := by
        rw [← ths_len ds, hds, List.length_map]
        exact Nat.le_trans (List.length_filter_le _ _) (by rw [List.length_range]; exact Nat.le_refl _)
      have hkE : ∀ z ∈ es, kH H3 (.ref z.1) = z.2 := fun z hz => kH_of (hE.2 z hz)
      have hkD : ∀ z ∈ ds, kH H3 (.ref z.1) = z.2 := fun z hz => kH_of (hD.2 z hz)
      -- sorted(early) + sorted(late), at once
      refine ⟨.ref a, rfl, a, tv es, kH H3, rfl, sq_of hE.1, fun x hx => ?_, fun ys p hs hp np => ⟨.ref b, rfl, b, tv ds, kH H3, rfl, sq_of (Ex.new np _ _ hD.1), fun x hx => ?_, fun us r hs2 hp2 nr => ?_⟩⟩
      · obtain ⟨z, hz, rfl⟩ := List.mem_map.mp hx
        rw [hkE z hz]
        exact ⟨z.1, rfl, hE.2 z hz⟩
      · obtain ⟨z, hz, rfl⟩ := List.mem_map.mp hx
        rw [hkD z hz]
        exact ⟨z.1, rfl, Ex.new np _ _ (hD.2 z hz)⟩
      obtain ⟨e, he1, he2, he3⟩ := sorted_part hes hkE hs hp
      obtain ⟨d, hd1, hd2, hd3⟩ := sorted_part hds hkD hs2 hp2
      have hJ : Jo (ths zs) (e ++ d) := by
        refine jo_of (by rw [ths_len]; exact he2) (by rw [ths_len]; exact hd2) he3 (hd3.imp fun {a b} h => by omega)
      have hyl : ys.length = es.length := by rw [hp.perm.length_eq, tv_len]
      have hul : us.length = ds.length := by rw [hp2.perm.length_eq, tv_len]
      have hpH := Ex.new (o := .lst us) nr _ _ (upd_same (H := H3) (a := p) (o := .lst ys))
      have hrH := upd_same (H := upd H3 p (.lst ys)) (a := r) (o := .lst us)
      have e5 := (Ex.new (o := .lst ys) np).trans (Ex.new (o := .lst us) nr)
      generalize upd (upd H3 p (.lst ys)) r (.lst us) = H5 at hpH hrH e5
      refine ⟨p, r, ys, us, rfl, rfl, hpH, hrH, sz_of (by omega), fun q nq => ?_⟩
      have hqH := upd_same (H := H5) (a := q) (o := .lst (ys ++ us))
      have e6 := e5.trans (Ex.new (o := .lst (ys ++ us)) nq)
      have eq6 := Ex.new (o := .lst (ys ++ us)) nq
      generalize upd H5 q (.lst (ys ++ us)) = H6 at hqH e6 eq6
      have mem : ∀ y ∈ ys ++ us, ∃ t, y = .ref t ∧ H6 t = some (.tup [.int (kH H3 y).1, .int (kH H3 y).2]) := fun y hy => by
        rcases List.mem_append.mp hy with hy | hy
        · obtain ⟨z, hz, rfl⟩ := List.mem_map.mp (hp.perm.mem_iff.mp hy)
          rw [hkE z hz]
          exact ⟨z.1, rfl, e6 _ _ (hE.2 z hz)⟩
        · obtain ⟨z, hz, rfl⟩ := List.mem_map.mp (hp2.perm.mem_iff.mp hy)
          rw [hkD z hz]
          exact ⟨z.1, rfl, e6 _ _ (hD.2 z hz)⟩
      have fin : ∀ (a : Addr) (H' : Hp), H3 a = none → Ex H3 H' → H' a = some (.lst (ov (e ++ d))) → Q (.ref a) H' := fun a H' na e' ha' => k a _ H' (e3.trans e') (fresh_back e3 na) ha' hJ
      refine ⟨q, rfl, ⟨_, sq_of hqH⟩, fun Dl hD => lc_list (xs := ys ++ us) (Cw H6 (fun _ => true) (fun i => .int (kH H3 ((ys ++ us).getD i .non)).2) Dl) ⟨hD, Ex.new hD, upd_same⟩ (fun i H' _ p => sq_of (p.2.1 _ _ hqH)) (fun i x H' hi p => ?_) (fun H' p => ?_)⟩
      · have hx : (ys ++ us).getD i .non = x := by rw [List.getD_eq_getElem?_getD, hi]; rfl
        obtain ⟨t, rfl, ht⟩ := mem x (List.mem_of_getElem? hi)
        refine eg_2 (st_of (p.2.1 _ _ ht)) eg_name eg_name H' (Ex.refl _) _ ⟨rfl, cw_turn p (by have := (List.getElem?_eq_some_iff.mp hi).1; rw [List.length_append] at this; omega) et_yes fun _ => ?_⟩
        rw [hx]
        exact ev_var rfl
      · refine fin Dl H' (fresh_back e6 p.1) (e6.trans p.2.1) ?_
        have h3 := p.2.2
        rw [given_all, range_map (ys ++ us) V.non (fun y => V.int (kH H3 y).2), List.map_append, he1, hd1] at h3
        rw [h3]
        unfold ov
        rw [List.map_append]
end
end Bp
namespace Bp
open PySem L2 Evl
/-! ### where bench 2 waits last; the bar out of it; Soonest -/
def spLast (K : PySem.W.Frag) : Sp := fun vs H Q _ => ∃ (l a : Addr) (zs : List (Addr × Th)) (o : List Nat), vs = [.ref l, .ref a] ∧ Ths K H l zs ∧ SqL K H a (ov o) ∧ Ord zs.length o ∧
  ∀ (v : V) (H' : Hp), Ex H H' → ((zs.length = 0 ∧ v = .non) ∨ ∃ i c : Nat, o[i]? = some c ∧ v = .int (i : Int) ∧ W (path (ths zs) o) = A (path (ths zs) (o.take i)) + fr (ths zs) c + dr (ths zs) c + se (ths zs) c + B (path (ths zs) (o.drop (i + 1)))) → Q v H'
def spFind (K : PySem.W.Frag) : Sp := fun vs H Q _ => ∃ (l a : Addr) (zs : List (Addr × Th)) (o : List Nat), vs = [.ref l, .ref a] ∧ Ths K H l zs ∧ SqL K H a (ov o) ∧ Jo (ths zs) o ∧
  ∀ (p c : Addr) (bench L : Int) (ap : List Int) (H' : Hp), Ex H H' → H c = none → H' c = some (.lst (ap.map V.int)) → H' p = some (.tup [.int bench, .ref c, .int L]) → BarW (ths zs) bench ap L → lawW (ths zs) bench ap L = W (path (ths zs) o) → ap.length ≤ zs.length → Q (.ref p) H'
/-- a Soonest at x, with its order and its bar -/
structure SoNew (C : Addr) (H H' : Hp) (x o c : Addr) (ts : List Th) (ord : List Nat) (bench L : Int) (ap : List Int) : Prop where
  ex : Ex H H'
  nx : H x = none
  no : H o = none
  nc : H c = none
  oc : o ≠ c
  ob : ∃ dx, H' x = some (.ins C dx (fSo o bench c L))
  ol : H' o = some (.lst (ov ord))
  cl : H' c = some (.lst (ap.map V.int))
  jo : Jo ts ord
  bar : BarW ts bench ap L
  wor : lawW ts bench ap L = W (path ts ord)
  few : ap.length ≤ ts.length
def spSoonest (K : PySem.W.Frag) (C : Addr) : Sp := fun vs H Q _ => ∃ (l : Addr) (zs : List (Addr × Th)), vs = [.ref l] ∧ Ths K H l zs ∧
  ∀ (x o c : Addr) (ord : List Nat) (bench L : Int) (ap : List Int) (H' : Hp), SoNew C H H' x o c (ths zs) ord bench L ap → Q (.ref x) H'
section
variable {P : Program} {w : World} {K : PySem.W.Frag} {mg : Str → Option Value} {base : Heap}
abbrev nLast : List Str := ["things", "order", "begins", "_", "place", "first", "drying", "begin_first", "begin_second"]
theorem scLast : FnScope nLast ["things", "order"] (defScope sLast) := ⟨rfl, rfl, rfl, by decide +kernel, rfl, by decide +kernel, by decide +kernel⟩
theorem ok_last {f fM : Addr} {fd dM : FuncData} (F : Fun K "find_last_wait" "find_last_wait" sLast f fd) (T : Bn mg) (gM : mg "make_in_order" = some (.ref fM)) (FM : Fun K "make_in_order" "make_in_order" sMake fM dM) (bM : Binds K dM ["things", "order"] []) (GM : FnOk P w K mg base CX0 1 fM dM ["things", "order"] (spMake K)) : FnOk P w K mg base CX0 2 f fd ["things", "order"] (spLast K) := by
  refine F.ok scLast (fun vs H Q E h => ?_) (fun cdv Ar outer s H vs Q E hr h => ?_)
  · obtain ⟨l, a, zs, o, rfl, _⟩ := h
    rfl
  · obtain ⟨l, a, zs, o, rfl, hT, hS, ho, k⟩ := h
    have hzl := hT.le
    have hl := ho.len
    have hnn := ths_nn hT
    refine ⟨_, pss_cons (ps_asg (pe_call GM hr (by rfl) gM FM.kp bM .nil pass0 (pa_cons (pv 0) (pa_cons (pv 1) pa_nil))) (pg_tup rfl (pgs_cons (pg_name (i := 2) scLast.nd rfl (Or.inl rfl)) (pgs_cons (pg_name (i := 3) scLast.nd rfl (Or.inl rfl)) pgs_nil))))
      (pss_cons (ps_for PassesOwn.never rfl (pi_revR (by rfl) T.rev (prg_1 (by rfl) T.range (pe_callB call_len_seq (by rfl) T.len PySem.boot_len (pa_cons (pv 1) pa_nil)))) (pg_name (i := 4) scLast.nd rfl (Or.inl rfl))
        (pss_cons (ps_asg (pe_ix ix_list (pv 0) (pe_ix ix_list (pv 1) (pv 4) (fun _ _ => rfl)) (fun _ _ => rfl)) (pg_tup rfl (pgs_cons (pg_name (i := 5) scLast.nd rfl (Or.inl rfl)) (pgs_cons (pg_name (i := 6) scLast.nd rfl (Or.inl rfl)) (pgs_cons (pg_name (i := 3) scLast.nd rfl (Or.inl rfl)) pgs_nil)))))
        (pss_cons (ps_asg (pe_ix ix_list (pv 2) (pe_ix ix_list (pv 1) (pv 4) (fun _ _ => rfl)) (fun _ _ => rfl)) (pg_tup rfl (pgs_cons (pg_name (i := 7) scLast.nd rfl (Or.inl rfl)) (pgs_cons (pg_name (i := 8) scLast.nd rfl (Or.inl rfl)) pgs_nil))))
        (pss_one (ps_if (pt_cmpR op_eq (pv 8) (pe_op op_add (pe_op op_add (pv 7) (pv 5)) (pv 6)) (nomark _)) (pss_one (ps_ret (pv 4))) pss_nil)))))
      (pss_one (ps_ret pe_non))), ?_⟩
    refine q_callG (ea_cons (ev_var rfl) (ea_cons (ev_var rfl) ea_nil)) fun H1 e1 => ⟨l, a, zs, o, rfl, hT.mono e1, ex_l e1 hS, ho, fun p q bs H2 e2 nq hP hbs hp => eg_2 (st_of hp) eg_name eg_name H2 (Ex.refl _) _ ?_⟩
    have e12 := e1.trans e2
    have hS2 := ex_l e12 hS
    have hbl : bs.length = zs.length := by rw [← ths_len bs, hbs, going_len, ths_len]
    refine ⟨.ref a, rfl, a, ov o, rfl, .inl hS2, _, rfl, by decide, by decide, by rw [ov_len]; omega, by rw [ov_len]; omega, ?_⟩
    rw [show (((ov o).length : Int) - 0).toNat = zs.length by rw [ov_len]; omega]
    refine for_rangeC (fun i σ' H' => ∃ v3 v4 v5 v6 v7 v8 : Option V, σ' = [some (.ref l), some (.ref a), some (.ref q), v3, v4, v5, v6, v7, v8] ∧ Ex H2 H' ∧ ∀ j, zs.length - i ≤ j → j < zs.length → ¬ waitsAt (ths zs) o j)
      ⟨some (.int (going (ths zs) o).2.2), none, none, none, none, none, rfl, Ex.refl _, fun j h1 h2 => by omega⟩ ?_ ?_
    · rintro i σ' H' hi ⟨v3, v4, v5, v6, v7, v8, rfl, e', hno⟩
      obtain ⟨j, hj⟩ : ∃ j : Nat, (0 : Int) + (zs.length : Int) - 1 + (i : Int) * (-1) = (j : Int) := ⟨zs.length - 1 - i, by omega⟩
      rw [hj]
      have hjl : j < zs.length := by omega
      obtain ⟨c, hc⟩ : ∃ c, o[j]? = some c := ⟨_, List.getElem?_eq_getElem (by omega)⟩
      have hcn : c < zs.length := ho.lt (List.mem_of_getElem? hc)
      have hoc : (ov o)[j]? = some (.int (c : Int)) := by
        unfold ov
        rw [List.getElem?_map, hc]
        rfl
      have eH := e12.trans e'
      obtain ⟨z, hz, hzt, hzv⟩ := things_at (hT.mono eH) hcn
      have hga := going_at (ts := ths zs) ho.nd hc (by rw [ths_len]; exact hcn)
      rw [← hbs] at hga
      obtain ⟨b, hb, hbv⟩ : ∃ b : Addr × (Int × Int), bs[c]? = some b ∧ b.2 = ((going (ths zs) (o.take j)).2.1, max ((going (ths zs) (o.take j)).2.1 + fr (ths zs) c + dr (ths zs) c) (going (ths zs) (o.take j)).2.2) := by
        unfold ths at hga
        rw [List.getElem?_map] at hga
        cases hq : bs[c]? with
        | none => rw [hq] at hga; cases hga
        | some b => rw [hq] at hga; exact ⟨b, rfl, Option.some.inj hga⟩
      have hbq : (tv bs)[c]? = some (.ref b.1) := by
        unfold tv
        rw [List.getElem?_map, hb]
        rfl
      have hP' := hP.mono e'
      refine q_asgG (ev_op (ev_var rfl) (ev_op (ev_var rfl) (ev_var rfl) (rv_ixL (ex_l e' hS2) (atI_nat hoc))) (rv_ixL (hT.mono eH).ls (atI_nat hzv))) (fun H5 e5 => eg_3 (ex_t e5 ((hT.mono eH).it z (List.mem_of_getElem? hz))) eg_name eg_name eg_name) fun H5 e5 => ?_
      refine q_asgG (ev_op (ev_var rfl) (ev_op (ev_var rfl) (ev_var rfl) (rv_ixL (ex_l (e'.trans e5) hS2) (atI_nat hoc))) (rv_ixL (sq_of (e5 _ _ hP'.1)) (atI_nat hbq))) (fun H6 e6 => eg_2 (st_of (e6 _ _ (e5 _ _ (hP'.2 b (List.mem_of_getElem? hb))))) eg_name eg_name) fun H6 e6 => ?_
      have hfr : fr (ths zs) c = z.2.1 := by unfold fr; rw [hzt]
      have hdr : dr (ths zs) c = z.2.2.1 := by unfold dr; rw [hzt]
      refine s_when (et_test (ev_op (ev_var rfl) (ev_op (ev_op (ev_var rfl) (ev_var rfl) rv_I0) (ev_var rfl) rv_I0) (rv_eq rfl))) (fun hw H7 e7 => ?_) (fun hw H7 e7 => ?_)
      · have hw := V.int.inj (of_decide_eq_true hw)
        rw [hbv] at hw
        have hwait : waitsAt (ths zs) o j := (waits_iff hc).mpr (by rw [hfr, hdr] at hw ⊢; exact hw)
        refine s_ret (ev_var rfl) fun H8 e8 => k _ H8 ((((eH.trans e5).trans e6).trans e7).trans e8) (.inr ⟨j, c, hc, rfl, last_W hnn hc hwait fun j' h1 h2 => hno j' (by omega) (by omega)⟩)
      · have hw : ¬ (b.2.2 = b.2.1 + z.2.1 + z.2.2.1) := fun h => of_decide_eq_false hw (by rw [h])
        rw [hbv] at hw
        have hwait : ¬ waitsAt (ths zs) o j := fun h => hw (by have := (waits_iff hc).mp h; rw [hfr, hdr] at this ⊢; exact this)
        refine ⟨some (.int z.2.2.2), some (.int (j : Int)), some (.int z.2.1), some (.int z.2.2.1), some (.int b.2.1), some (.int b.2.2), rfl, ((e'.trans e5).trans e6).trans e7, fun j' h1 h2 => ?_⟩
        by_cases h : j' = j
        · rw [h]
          exact hwait
        · exact hno j' (by omega) h2
    · rintro σ' H' ⟨v3, v4, v5, v6, v7, v8, rfl, e', hno⟩
      dsimp only
      refine s_ret (v := .non) ev_c fun H3 e3 => ?_
      refine k _ H3 ((e12.trans e').trans e3) (.inl ⟨?_, rfl⟩)
      by_cases h : zs.length = 0
      · exact h
      · exact absurd (waits_first hnn o) (hno 0 (by omega) (by omega))
theorem scFind : FnScope ["things", "order", "place", "first", "drying", "second"] ["things", "order"] (defScope sFind) := ⟨rfl, rfl, rfl, by decide +kernel, rfl, by decide +kernel, by decide +kernel⟩
theorem ok_find {f fL : Addr} {fd dL : FuncData} (F : Fun K "find_bar" "find_bar" sFind f fd) (T : Bn mg) (gL : mg "find_last_wait" = some (.ref fL)) (FL : Fun K "find_last_wait" "find_last_wait" sLast fL dL) (bL : Binds K dL ["things", "order"] []) (GL : FnOk P w K mg base CX0 2 fL dL ["things", "order"] (spLast K)) : FnOk P w K mg base CX0 3 f fd ["things", "order"] (spFind K) := by
  refine F.ok scFind (fun vs H Q E h => ?_) (fun cdv Ar outer s H vs Q E hr h => ?_)
  · obtain ⟨l, a, zs, o, rfl, _⟩ := h
    rfl
  · obtain ⟨l, a, zs, o, rfl, hT, hS, hJ, k⟩ := h
    have hzl := hT.le
    have ho := hJ.ord
    rw [ths_len] at ho
    have hl := ho.len
    have hnn := ths_nn hT
    refine ⟨_, pss_cons (ps_set (i := 2) scFind.nd rfl (Or.inl rfl) (pe_call GL hr (by rfl) gL FL.kp bL .nil pass0 (pa_cons (pv 0) (pa_cons (pv 1) pa_nil))))
      (pss_cons (ps_if (pt_cmpR (show OpR _ _ rIsNone from op_isN) (pv 2) pe_non (nomark _)) (pss_one (ps_ret (pe_tup (pa_cons pe_int (pa_cons (pe_lst pa_nil) (pa_cons pe_int pa_nil)))))) pss_nil)
      (pss_cons (ps_asg (pe_ix ix_list (pv 0) (pe_ix ix_list (pv 1) (pv 2) (fun _ _ => rfl)) (fun _ _ => rfl)) (pg_tup rfl (pgs_cons (pg_name (i := 3) scFind.nd rfl (Or.inl rfl)) (pgs_cons (pg_name (i := 4) scFind.nd rfl (Or.inl rfl)) (pgs_cons (pg_name (i := 5) scFind.nd rfl (Or.inl rfl)) pgs_nil)))))
      (pss_cons (ps_if (pt_cmpR op_le (pv 3) (pv 5) (nomark _)) (pss_one (ps_ret (pe_tup (pa_cons pe_int (pa_cons (pe_callB cr_sortedI (by rfl) T.sorted (by decide +kernel) (pa_cons (pe_slice sl_list (pv 1) po_none (po_some (pv 2))) pa_nil)) (pa_cons (pe_op op_add (pv 3) (pv 4)) pa_nil)))))) pss_nil)
      (pss_one (ps_ret (pe_tup (pa_cons pe_int (pa_cons (pe_callB cr_sortedI (by rfl) T.sorted (by decide +kernel) (pa_cons (pe_slice sl_list (pv 1) (po_some (pe_op op_add (pv 2) pe_int)) po_none) pa_nil)) (pa_cons (pe_op op_add (pv 4) (pv 5)) pa_nil))))))))), ?_⟩
    refine q_asgX (ea_cons (ev_var rfl) (ea_cons (ev_var rfl) ea_nil)) fun H1 e1 => ⟨l, a, zs, o, rfl, hT.mono e1, ex_l e1 hS, ho, fun v H2 e2 hv => ?_⟩
    have e12 := e1.trans e2
    rcases hv with ⟨h0, rfl⟩ | ⟨i, c, hc, rfl, hW⟩
    · refine q_when (et_test (ev_op (ev_var rfl) ev_c rv_isN)) (fun hb H3 e3 => ?_) (fun hb H3 e3 => by cases hb)
      refine ⟨(by show 0 ≤ sizeLine; decide), fun c nc => ⟨(by show 3 ≤ sizeLine; decide), fun p np => ?_⟩⟩
      have e13 := e12.trans e3
      have ets : ths zs = [] := List.eq_nil_of_length_eq_zero (by rw [ths_len]; exact h0)
      have eo : o = [] := List.eq_nil_of_length_eq_zero (by omega)
      obtain ⟨hB, hw⟩ := bar_none (bench := 1) (.inl rfl)
      refine k p c 1 0 [] _ (e13.trans ((Ex.new nc).trans (Ex.new np))) (fresh_back e13 nc) (Ex.new np _ _ upd_same) upd_same (by rw [ets]; exact hB) ?_ (Nat.zero_le _)
      rw [ets, hw, eo]
      rfl
    · have hil : i < o.length := (List.getElem?_eq_some_iff.mp hc).1
      have hcn : c < zs.length := ho.lt (List.mem_of_getElem? hc)
      have hoc : (ov o)[i]? = some (.int (c : Int)) := by
        unfold ov
        rw [List.getElem?_map, hc]
        rfl
      refine q_when (b := false) (et_is (et_test (ev_op (ev_var rfl) ev_c rv_isN)) rfl) (fun hb H3 e3 => by cases hb) (fun hb H3 e3 => ?_)
      have e13 := e12.trans e3
      have hT3 := hT.mono e13
      obtain ⟨z, hz, hzt, hzv⟩ := things_at hT3 hcn
      have hfr : fr (ths zs) c = z.2.1 := by unfold fr; rw [hzt]
      have hdr : dr (ths zs) c = z.2.2.1 := by unfold dr; rw [hzt]
      have hse : se (ths zs) c = z.2.2.2 := by unfold se; rw [hzt]
      refine q_asgG (ev_op (ev_var rfl) (ev_op (ev_var rfl) (ev_var rfl) (rv_ixL (ex_l e13 hS) (atI_nat hoc))) (rv_ixL hT3.ls (atI_nat hzv))) (fun H5 e5 => eg_3 (ex_t e5 (hT3.it z (List.mem_of_getElem? hz))) eg_name eg_name eg_name) fun H5 e5 => ?_
      have e15 := e13.trans e5
      have cutT : cutV (ov o) none (some (i : Int)) = (asI (o.take i)).map V.int := by
        unfold cutV
        rw [HT.sIx_none, HT.sIx_nat, ov_len, Nat.min_eq_left (by omega), List.drop_zero, Nat.sub_zero, ← ov_ints]
        unfold ov
        rw [List.map_take]
      have cutF : cutV (ov o) (some ((i : Int) + 1)) none = (asI (o.drop (i + 1))).map V.int := by
        unfold cutV
        rw [HT.sIx_none, show HT.sIx (ov o).length 0 (some ((i : Int) + 1)) = min (i + 1) (ov o).length from HT.sIx_nat _ _ (i + 1), ov_len, Nat.min_eq_left (by omega), ← ov_ints]
        unfold ov
        rw [← List.map_drop]
        refine List.take_of_length_le ?_
        rw [List.length_map, List.length_drop]
        exact Nat.le_refl _
      refine q_when (et_test (ev_op (ev_var rfl) (ev_var rfl) rv_I0)) (fun hb H6 e6 => ?_) (fun hb H6 e6 => ?_)
      · have hb : z.2.1 ≤ z.2.2.2 := of_decide_eq_true hb
        have e16 := e15.trans e6
        refine el_sl (σ := [some (.ref l), some (.ref a), some (.int (i : Int)), some (.int z.2.1), some (.int z.2.2.1), some (.int z.2.2.2)]) (te := tVar 1) (tl := tNoPart) (th := tPart (tVar 2)) (ev_var rfl) eo_none (eo_some (ev_var rfl)) (ex_l e16 hS) H6 (Ex.refl _) _ fun p H7 np e7 hp => ?_
        rw [cutT] at hp
        refine ⟨p, asI (o.take i), rfl, sq_of hp, fun ns q hperm hs nq => ⟨.int z.2.1, rfl, .int z.2.2.1, rfl, z.2.1, z.2.2.1, rfl, rfl, (by show 3 ≤ sizeLine; decide), fun t nt => ?_⟩⟩
        obtain ⟨hB, hw⟩ := find_first hnn hJ hc hW (by rw [hfr, hse]; exact hb) hperm hs
        have e17 := e16.trans e7
        rw [hfr, hdr] at hB hw
        refine k t q 1 _ ns _ (e17.trans ((Ex.new nq).trans (Ex.new nt))) (fresh_back e17 nq) (Ex.new nt _ _ upd_same) upd_same hB hw ?_
        rw [hperm.length_eq]
        unfold asI
        rw [List.length_map, List.length_take]
        omega
      · have hb : ¬ z.2.1 ≤ z.2.2.2 := of_decide_eq_false hb
        have e16 := e15.trans e6
        refine el_sl (σ := [some (.ref l), some (.ref a), some (.int (i : Int)), some (.int z.2.1), some (.int z.2.2.1), some (.int z.2.2.2)]) (te := tVar 1) (tl := tPart (tOp (rI0 fun i j => .int (i + j)) (tVar 2) (tC (.int 1)))) (th := tNoPart) (ev_var rfl) (eo_some (ev_op (ev_var rfl) ev_c rv_I0)) eo_none (ex_l e16 hS) H6 (Ex.refl _) _ fun p H7 np e7 hp => ?_
        rw [cutF] at hp
        refine ⟨p, asI (o.drop (i + 1)), rfl, sq_of hp, fun ns q hperm hs nq => ⟨.int z.2.2.1, rfl, .int z.2.2.2, rfl, z.2.2.1, z.2.2.2, rfl, rfl, (by show 3 ≤ sizeLine; decide), fun t nt => ?_⟩⟩
        obtain ⟨hB, hw⟩ := find_second hnn hJ hc hW (by rw [hfr, hse]; omega) hperm hs
        have e17 := e16.trans e7
        rw [hdr, hse] at hB hw
        refine k t q 2 _ ns _ (e17.trans ((Ex.new nq).trans (Ex.new nt))) (fresh_back e17 nq) (Ex.new nt _ _ upd_same) upd_same hB hw ?_
        rw [hperm.length_eq]
        unfold asI
        rw [List.length_map, List.length_drop]
        omega
/-- what soonest calls -/
structure Oks (K : PySem.W.Frag) (mg : Str → Option Value) (P : Program) (w : World) (base : Heap) (fT fJ fF fI C : Addr) (dT dJ dF dI : FuncData) : Prop where
  gT : mg "check_things" = some (.ref fT)
  FT : Fun K "check_things" "check_things" sCkT fT dT
  bT : Binds K dT ["things"] []
  GT : FnOk P w K mg base CX0 4 fT dT ["things"] (spCkT K)
  gJ : mg "soonest_order" = some (.ref fJ)
  FJ : Fun K "soonest_order" "soonest_order" sJo fJ dJ
  bJ : Binds K dJ ["things"] []
  GJ : FnOk P w K mg base CX0 1 fJ dJ ["things"] (spJo K)
  gF : mg "find_bar" = some (.ref fF)
  FF : Fun K "find_bar" "find_bar" sFind fF dF
  bF : Binds K dF ["things", "order"] []
  GF : FnOk P w K mg base CX0 3 fF dF ["things", "order"] (spFind K)
  mK : Mk K C fI
  bI : Binds K dI ["self", "order", "bench", "apart", "length"] []
  GI : FnOk P w K mg base CX0 1 fI dI ["self", "order", "bench", "apart", "length"] (spInitSo K C)
theorem scSoonest : FnScope ["things", "order", "bench", "apart", "length"] ["things"] (defScope sSoonest) := ⟨rfl, rfl, rfl, by decide +kernel, rfl, by decide +kernel, by decide +kernel⟩
theorem ok_soonest {f fT fJ fF fI C : Addr} {fd dT dJ dF dI : FuncData} (F : Fun K "soonest" "soonest" sSoonest f fd) (N : KSo K mg C) (S : Oks K mg P w base fT fJ fF fI C dT dJ dF dI) : FnOk P w K mg base CX0 5 f fd ["things"] (spSoonest K C) := by
  refine F.ok scSoonest (fun vs H Q E h => ?_) (fun cdv Ar outer s H vs Q E hr h => ?_)
  · obtain ⟨l, zs, rfl, _⟩ := h
    rfl
  · obtain ⟨l, zs, rfl, hT, k⟩ := h
    refine ⟨_, pss_cons (ps_expr (pe_call S.GT hr (by rfl) S.gT S.FT.kp S.bT .nil pass0 (pa_cons (pv 0) pa_nil)))
      (pss_cons (ps_set (i := 1) scSoonest.nd rfl (Or.inl rfl) (pe_call S.GJ (hr.mono (by decide)) (by rfl) S.gJ S.FJ.kp S.bJ .nil pass0 (pa_cons (pv 0) pa_nil)))
      (pss_cons (ps_asg (pe_call S.GF (hr.mono (by decide)) (by rfl) S.gF S.FF.kp S.bF .nil pass0 (pa_cons (pv 0) (pa_cons (pv 1) pa_nil))) (pg_tup rfl (pgs_cons (pg_name (i := 2) scSoonest.nd rfl (Or.inl rfl)) (pgs_cons (pg_name (i := 3) scSoonest.nd rfl (Or.inl rfl)) (pgs_cons (pg_name (i := 4) scSoonest.nd rfl (Or.inl rfl)) pgs_nil)))))
      (pss_one (ps_ret (pe_make S.mK S.GI (hr.mono (by decide)) (by rfl) N.mgC S.bI .nil pass0 (pa_cons (pv 1) (pa_cons (pv 2) (pa_cons (pv 3) (pa_cons (pv 4) pa_nil))))))))), ?_⟩
    refine q_drop (ev_call (z := .non) (ea_cons (ev_var rfl) ea_nil) fun H3 e3 Q q E => ⟨l, zs, rfl, hT.mono e3, q⟩) fun H1 e1 => ?_
    refine q_asgX (ea_cons (ev_var rfl) ea_nil) fun H2 e2 => ⟨l, zs, rfl, hT.mono (e1.trans e2), fun a o H3 e3 na ha hJ => ?_⟩
    have e13 := (e1.trans e2).trans e3
    refine q_callG (ea_cons (ev_var rfl) (ea_cons (ev_var rfl) ea_nil)) fun H4 e4 => ⟨l, a, zs, o, rfl, hT.mono (e13.trans e4), sq_of (e4 _ _ ha), hJ, fun p c bench L ap H5 e5 nc hc hp hB hw hf => eg_3 (st_of hp) eg_name eg_name eg_name H5 (Ex.refl _) _ ?_⟩
    have e15 := (e13.trans e4).trans e5
    refine ⟨.ref a, rfl, .int bench, rfl, .ref c, rfl, .int L, rfl, fun x dx nx ndx nex => ?_⟩
    have eN : Ex H5 (upd (upd H5 dx (.own x)) x (.ins C dx [])) := (Ex.new ndx).trans (Ex.new (by rw [upd_ne nex.symm]; exact nx))
    refine ⟨x, dx, a, c, ov o, ap.map V.int, bench, L, rfl, upd_same, sq_of (eN _ _ (e5 _ _ (e4 _ _ ha))), sq_of (eN _ _ hc), fun o' c' H6 no' nc' noc hb hx' ho' hc' => ⟨rfl, ?_⟩⟩
    refine k x o' c' o bench L ap H6 ⟨?_, fresh_back e15 nx, fresh_back (e15.trans eN) no', fresh_back (e15.trans eN) nc', noc, ⟨dx, hx'⟩, ho', hc', hJ, hB, hw, by rw [ths_len]; exact hf⟩
    exact Exb.ex (e15.trans eN) hb (fresh_back e15 nx)
end
end Bp
namespace Bp
open PySem L2 Evl
/-! ### Within and Never -/
def fWi (o : Addr) : List (Str × V) := putF "order" (.ref o) []
def fNe (bench : Int) (c : Addr) (L : Int) : List (Str × V) := putF "length" (.int L) (putF "apart" (.ref c) (putF "bench" (.int bench) []))
theorem fWi_order (o : Addr) : (fWi o).lookup ("order" : Str) = some (.ref o) := by
  unfold fWi
  rw [lookup_putF, if_pos rfl]
theorem fWi_shows (o : Addr) : (fWi o).lookup ("shows" : Str) = none := by
  unfold fWi
  rw [lookup_putF, if_neg (by decide +kernel)]
  rfl
theorem fNe_bench (bench : Int) (c : Addr) (L : Int) : (fNe bench c L).lookup ("bench" : Str) = some (.int bench) := by
  unfold fNe
  rw [lookup_putF, if_neg (by decide +kernel), lookup_putF, if_neg (by decide +kernel), lookup_putF, if_pos rfl]
theorem fNe_apart (bench : Int) (c : Addr) (L : Int) : (fNe bench c L).lookup ("apart" : Str) = some (.ref c) := by
  unfold fNe
  rw [lookup_putF, if_neg (by decide +kernel), lookup_putF, if_pos rfl]
theorem fNe_length (bench : Int) (c : Addr) (L : Int) : (fNe bench c L).lookup ("length" : Str) = some (.int L) := by
  unfold fNe
  rw [lookup_putF, if_pos rfl]
theorem fNe_shows (bench : Int) (c : Addr) (L : Int) : (fNe bench c L).lookup ("shows" : Str) = none := by
  unfold fNe
  rw [lookup_putF, if_neg (by decide +kernel), lookup_putF, if_neg (by decide +kernel), lookup_putF, if_neg (by decide +kernel)]
  rfl
structure KWi (K : PySem.W.Frag) (mg : Str → Option Value) (C : Addr) : Prop where
  ki : KI K C
  nO : NoAttr K C "order"
  mgC : mg "Within" = some (.ref C)
structure KNe (K : PySem.W.Frag) (mg : Str → Option Value) (C : Addr) : Prop where
  ki : KI K C
  nB : NoAttr K C "bench"
  nA : NoAttr K C "apart"
  nL : NoAttr K C "length"
  mgC : mg "Never" = some (.ref C)
/-- Within, Never, as they are told -/
noncomputable def wiB (ts : List Th) (is : List Int) (t : Int) : Bool := ordB ts.length is && decide (W (path ts (is.map Int.toNat)) ≤ t)
noncomputable def neB (ts : List Th) (bench : Int) (ap : List Int) (L t : Int) : Bool := barB ts bench ap L && decide (lawW ts bench ap L > t)
def spInitWi (K : PySem.W.Frag) (C : Addr) : Sp := fun vs H Q _ => ∃ (x dx a : Addr) (xs : List V), vs = [.ref x, .ref a] ∧ H x = some (.ins C dx []) ∧ SqL K H a xs ∧
  ∀ (o : Addr) (H' : Hp), H o = none → Exb x H H' → H' x = some (.ins C dx (fWi o)) → H' o = some (.lst xs) → Q .non H'
def spInitNe (K : PySem.W.Frag) (C : Addr) : Sp := fun vs H Q _ => ∃ (x dx b : Addr) (ys : List V) (bench L : Int), vs = [.ref x, .int bench, .ref b, .int L] ∧ H x = some (.ins C dx []) ∧ SqL K H b ys ∧
  ∀ (c : Addr) (H' : Hp), H c = none → Exb x H H' → H' x = some (.ins C dx (fNe bench c L)) → H' c = some (.lst ys) → Q .non H'
def spShowsWi (K : PySem.W.Frag) (C : Addr) : Sp := fun vs H Q _ => ∃ (x dx o l : Addr) (zs : List (Addr × Th)) (is : List Int) (t : Int), vs = [.ref x, .ref l, .int t] ∧ H x = some (.ins C dx (fWi o)) ∧ SqL K H o (is.map V.int) ∧ Ths K H l zs ∧ is.length ≤ 1000 ∧ RetV (.bl (wiB (ths zs) is t)) H Q
def spShowsNe (K : PySem.W.Frag) (C : Addr) : Sp := fun vs H Q _ => ∃ (x dx c l : Addr) (zs : List (Addr × Th)) (ap : List Int) (bench L t : Int), vs = [.ref x, .ref l, .int t] ∧ H x = some (.ins C dx (fNe bench c L)) ∧ SqL K H c (ap.map V.int) ∧ Ths K H l zs ∧ RetV (.bl (neB (ths zs) bench ap L t)) H Q
section
variable {P : Program} {w : World} {K : PySem.W.Frag} {mg : Str → Option Value} {base : Heap}
theorem sciWi : FnScope ["self", "order"] ["self", "order"] (defScope iWithin) := ⟨rfl, rfl, rfl, by decide +kernel, rfl, by decide +kernel, by decide +kernel⟩
theorem ok_initWi {f C : Addr} {fd : FuncData} (F : Fun K "__init__" "Within.__init__" iWithin f fd) (T : Bn mg) (N : KWi K mg C) : FnOk P w K mg base CX0 1 f fd ["self", "order"] (spInitWi K C) := by
  refine F.ok sciWi (fun vs H Q E h => ?_) (fun cdv Ar outer s H vs Q E hr h => ?_)
  · obtain ⟨x, dx, a, xs, rfl, _⟩ := h
    rfl
  · obtain ⟨x, dx, a, xs, rfl, hx, hA, k⟩ := h
    refine ⟨_, pss_one (ps_fld (pv 0) (pe_callTy call_list_of (by rfl) T.list PyProof.Rows.boot_list (pa_cons (pv 1) pa_nil)) rfl), ?_⟩
    refine ⟨.ref a, rfl, a, xs, rfl, .inl hA, fun o no => ?_⟩
    have nxo : x ≠ o := ne_of_none hx no
    refine ⟨.ref x, rfl, x, C, dx, [], rfl, (by rw [upd_ne nxo]; exact hx), N.ki.cl, N.nO, (by show 0 < 1000; decide), ?_⟩
    exact k o _ no ((Exb.of (Ex.new no)).trans Exb.set) upd_same (by rw [upd_ne nxo.symm, upd_same])
theorem sciNe : FnScope ["self", "bench", "apart", "length"] ["self", "bench", "apart", "length"] (defScope iNever) := ⟨rfl, rfl, rfl, by decide +kernel, rfl, by decide +kernel, by decide +kernel⟩
theorem ok_initNe {f C : Addr} {fd : FuncData} (F : Fun K "__init__" "Never.__init__" iNever f fd) (T : Bn mg) (N : KNe K mg C) : FnOk P w K mg base CX0 1 f fd ["self", "bench", "apart", "length"] (spInitNe K C) := by
  refine F.ok sciNe (fun vs H Q E h => ?_) (fun cdv Ar outer s H vs Q E hr h => ?_)
  · obtain ⟨x, dx, b, ys, bench, L, rfl, _⟩ := h
    rfl
  · obtain ⟨x, dx, b, ys, bench, L, rfl, hx, hB, k⟩ := h
    refine ⟨_, pss_cons (ps_fld (pv 0) (pv 1) rfl)
      (pss_cons (ps_fld (pv 0) (pe_callTy call_list_of (by rfl) T.list PyProof.Rows.boot_list (pa_cons (pv 2) pa_nil)) rfl) (pss_one (ps_fld (pv 0) (pv 3) rfl))), ?_⟩
    have l0 : ([] : List (Str × V)).length = 0 := rfl
    refine ⟨.int bench, rfl, .ref x, rfl, x, C, dx, [], rfl, hx, N.ki.cl, N.nB, (by omega), ?_⟩
    have l2 := length_putF ("bench" : Str) (V.int bench) []
    have hx1 : (upd H x (.ins C dx (putF "bench" (.int bench) []))) x = some (.ins C dx (putF "bench" (.int bench) [])) := upd_same
    have b1 : Exb x H (upd H x (.ins C dx (putF "bench" (.int bench) []))) := Exb.set
    have nb1 : ∀ q, (upd H x (.ins C dx (putF "bench" (.int bench) []))) q = none → H q = none := fun q hq => by
      cases e : H q with
      | none => rfl
      | some u =>
        have : q ≠ x := fun z => by rw [z, hx1] at hq; cases hq
        rw [b1 _ _ this e] at hq
        cases hq
    generalize upd H x (.ins C dx (putF "bench" (.int bench) [])) = H1 at b1 hx1 nb1
    refine ⟨.ref b, rfl, b, ys, rfl, .inl (exb_l hx b1 hB), fun c nc => ?_⟩
    have nxc : x ≠ c := ne_of_none hx1 nc
    refine ⟨.ref x, rfl, x, C, dx, _, rfl, (by rw [upd_ne nxc]; exact hx1), N.ki.cl, N.nA, (by omega), ?_⟩
    have l3 := length_putF ("apart" : Str) (V.ref c) (putF "bench" (V.int bench) [])
    refine ⟨.int L, rfl, .ref x, rfl, x, C, dx, _, rfl, upd_same, N.ki.cl, N.nL, (by omega), ?_⟩
    rw [upd_upd]
    exact k c _ (nb1 c nc) (b1.trans ((Exb.of (Ex.new nc)).trans Exb.set)) upd_same (by rw [upd_ne nxc.symm, upd_same])
theorem scmWi : FnScope ["self", "things", "time", "_", "end"] ["self", "things", "time"] (defScope mWithin) := ⟨rfl, rfl, rfl, by decide +kernel, rfl, by decide +kernel, by decide +kernel⟩
theorem ok_showsWi {f C fO fB fM fW : Addr} {fd dO dB dM dW : FuncData} (F : Fun K "shows" "Within.shows" mWithin f fd) (T : Bn mg) (N : KWi K mg C) (S : Sks K mg P w base fO fB fM fW dO dB dM dW) : FnOk P w K mg base CX0 4 f fd ["self", "things", "time"] (spShowsWi K C) := by
  refine F.ok scmWi (fun vs H Q E h => ?_) (fun cdv Ar outer s H vs Q E hr h => ?_)
  · obtain ⟨x, dx, o, l, zs, is, t, rfl, _⟩ := h
    rfl
  · obtain ⟨x, dx, o, l, zs, is, t, rfl, hx, hO, hT, hz, k⟩ := h
    have hzl := hT.le
    refine ⟨_, pss_cons (ps_if (pt_not (pt_val (pe_call S.GO (hr.mono (by decide)) (by rfl) S.gO S.FO.kp S.bO .nil pass0 (pa_cons (pe_fld (pv 0) rfl) (pa_cons (pe_callB call_len_seq (by rfl) T.len PySem.boot_len (pa_cons (pv 1) pa_nil)) pa_nil))))) (pss_one (ps_ret pe_bl)) pss_nil)
      (pss_cons (ps_asg (pe_call S.GM (hr.mono (by decide)) (by rfl) S.gM S.FM.kp S.bM .nil pass0 (pa_cons (pv 1) (pa_cons (pe_fld (pv 0) rfl) pa_nil))) (pg_tup rfl (pgs_cons (pg_name (i := 3) scmWi.nd rfl (Or.inl rfl)) (pgs_cons (pg_name (i := 4) scmWi.nd rfl (Or.inl rfl)) pgs_nil))))
      (pss_one (ps_ret (pe_cmpR op_le (pv 4) (pv 2) (nomark _))))), ?_⟩
    have fld : ∀ {σ : L2.St} {H1 : Hp} {te : TE} {g : Str} {v : V}, Ex H H1 → NoAttr K C g → (fWi o).lookup g = some v → Ev te σ H1 (.ref x) → Ev (tFld K te g) σ H1 v := fun e n lk h => ev_fld h (e _ _ hx) N.ki.cl n lk
    refine q_when (b := !ordB zs.length is) (et_not (et_B (ev_call (ea_cons (fld (Ex.refl H) N.nO (fWi_order _) (ev_var rfl)) (ea_cons (ev_cb (ea_cons (ev_var rfl) ea_nil) (rc_lenL hT.ls)) ea_nil)) fun H3 e3 Q q E => ⟨o, is, zs.length, by rw [tv_len]; rfl, ex_l e3 hO, hz, hzl, q⟩))) (fun hb H1 e1 => ?_) (fun hb H1 e1 => ?_)
    · refine s_ret ev_c fun H2 e2 => ?_
      have h : ordB (ths zs).length is = false := by rw [ths_len]; simpa using hb
      unfold wiB at k
      rw [h, Bool.false_and] at k
      exact k.go (e1.trans e2)
    have hord : ordB zs.length is = true := by simpa using hb
    obtain ⟨ord, rfl, ho⟩ := ordB_ord hord
    refine q_callG (ea_cons (ev_var rfl) (ea_cons (fld e1 N.nO (fWi_order _) (ev_var rfl)) ea_nil)) fun H3 e3 => ⟨l, o, zs, ord, rfl, hT.mono (e1.trans e3), by rw [ov_ints]; exact ex_l (e1.trans e3) hO, ho, fun p q bs H4 e4 nq hP hbs hp => eg_2 (st_of hp) eg_name eg_name H4 (Ex.refl _) _ ?_⟩
    have e14 := (e1.trans e3).trans e4
    refine s_ret (ev_op (ev_var rfl) (ev_var rfl) rv_I0) fun H5 e5 => ?_
    have h : wiB (ths zs) (asI ord) t = decide ((going (ths zs) ord).2.2 ≤ t) := by
      unfold wiB
      rw [ths_len, hord, Bool.true_and, asI_back, going_W (ths_nn hT)]
    rw [h] at k
    exact k.go (e14.trans e5)
theorem scmNe : FnScope ["self", "things", "time"] ["self", "things", "time"] (defScope mNever) := ⟨rfl, rfl, rfl, by decide +kernel, rfl, by decide +kernel, by decide +kernel⟩
theorem ok_showsNe {f C fO fB fM fW : Addr} {fd dO dB dM dW : FuncData} (F : Fun K "shows" "Never.shows" mNever f fd) (N : KNe K mg C) (S : Sks K mg P w base fO fB fM fW dO dB dM dW) : FnOk P w K mg base CX0 4 f fd ["self", "things", "time"] (spShowsNe K C) := by
  refine F.ok scmNe (fun vs H Q E h => ?_) (fun cdv Ar outer s H vs Q E hr h => ?_)
  · obtain ⟨x, dx, c, l, zs, ap, bench, L, t, rfl, _⟩ := h
    rfl
  · obtain ⟨x, dx, c, l, zs, ap, bench, L, t, rfl, hx, hC, hT, k⟩ := h
    refine ⟨_, pss_cons (ps_if (pt_not (pt_val (pe_call S.GB hr (by rfl) S.gB S.FB.kp S.bB .nil pass0 (pa_cons (pv 1) (pa_cons (pe_fld (pv 0) rfl) (pa_cons (pe_fld (pv 0) rfl) (pa_cons (pe_fld (pv 0) rfl) pa_nil))))))) (pss_one (ps_ret pe_bl)) pss_nil)
      (pss_one (ps_ret (pe_cmpR op_gt (pe_call S.GW hr (by rfl) S.gW S.FW.kp S.bW .nil pass0 (pa_cons (pv 1) (pa_cons (pe_fld (pv 0) rfl) (pa_cons (pe_fld (pv 0) rfl) (pa_cons (pe_fld (pv 0) rfl) pa_nil))))) (pv 2) (nomark _)))), ?_⟩
    have fld : ∀ {σ : L2.St} {H1 : Hp} {te : TE} {g : Str} {v : V}, Ex H H1 → NoAttr K C g → (fNe bench c L).lookup g = some v → Ev te σ H1 (.ref x) → Ev (tFld K te g) σ H1 v := fun e n lk h => ev_fld h (e _ _ hx) N.ki.cl n lk
    refine q_when (b := !barB (ths zs) bench ap L) (et_not (et_B (ev_call (ea_cons (ev_var rfl) (ea_cons (fld (Ex.refl H) N.nB (fNe_bench _ _ _) (ev_var rfl)) (ea_cons (fld (Ex.refl H) N.nA (fNe_apart _ _ _) (ev_var rfl)) (ea_cons (fld (Ex.refl H) N.nL (fNe_length _ _ _) (ev_var rfl)) ea_nil)))) fun H3 e3 Q q E => ⟨l, c, zs, bench, L, ap, rfl, hT.mono e3, ex_l e3 hC, q⟩))) (fun hb H1 e1 => ?_) (fun hb H1 e1 => ?_)
    · refine s_ret ev_c fun H3 e3 => ?_
      have h : barB (ths zs) bench ap L = false := by simpa using hb
      unfold neB at k
      rw [h, Bool.false_and] at k
      exact k.go (e1.trans e3)
    have hB1 : barB (ths zs) bench ap L = true := by simpa using hb
    have hB : BarW (ths zs) bench ap L := barB_iff.mp hB1
    refine s_ret (ev_op (ev_call (ea_cons (ev_var rfl) (ea_cons (fld e1 N.nB (fNe_bench _ _ _) (ev_var rfl)) (ea_cons (fld e1 N.nA (fNe_apart _ _ _) (ev_var rfl)) (ea_cons (fld e1 N.nL (fNe_length _ _ _) (ev_var rfl)) ea_nil)))) fun H5 e5 Q q E => ⟨l, c, zs, bench, L, ap, rfl, hT.mono (e1.trans e5), ex_l (e1.trans e5) hC, hB, q⟩) (ev_var rfl) rv_I0) fun H5 e5 => ?_
    unfold neB at k
    rw [hB1, Bool.true_and] at k
    exact k.go (e1.trans e5)
end
end Bp
namespace Bp
open PySem L2 Evl
/-! ### draws -/
def primes : List Int := [1000003, 1000033, 1000037, 1000039, 1000081, 1000099, 1000117, 1000121, 1000133, 1000151, 1000159, 1000171, 1000183, 1000187, 1000193, 1000199]
def drawF (c k m : Int) : Int := (c * 48271 + k * 69621) % primes.getD (k % 16).toNat 1 % m
theorem drawF_lt {c k m : Int} (h : 0 < m) : 0 ≤ drawF c k m ∧ drawF c k m < m := ⟨Int.emod_nonneg _ (by omega), Int.emod_lt_of_pos _ h⟩
theorem prime_pos (j : Nat) : 0 < primes.getD j 1 := by
  rw [List.getD_eq_getElem?_getD]
  cases e : primes[j]? with
  | none => decide
  | some p =>
    have : ∀ p ∈ primes, 0 < p := by decide
    exact this p (List.mem_of_getElem? e)
theorem prime_at (k : Int) : atI (primes.map V.int) (k % 16) = some (.int (primes.getD (k % 16).toNat 1)) := by
  have h1 : 0 ≤ k % 16 := Int.emod_nonneg _ (by decide)
  have h2 : k % 16 < 16 := Int.emod_lt_of_pos _ (by decide)
  have h3 : (k % 16).toNat < primes.length := by show (k % 16).toNat < 16; omega
  refine at_of (j := (k % 16).toNat) (by omega) ?_
  rw [List.getElem?_map, List.getD_eq_getElem?_getD, List.getElem?_eq_getElem h3]
  rfl
/-! ### the promises of the law's own helpers -/
def spCell (K : PySem.W.Frag) : Sp := fun vs H Q _ => ∃ (a : Addr) (ns : List Int) (k : Nat), vs = [.ref a, .int (k : Int)] ∧ SqL K H a (ns.map V.int) ∧ RetV (.int (ns.getD k 0)) H Q
def spDraw : Sp := fun vs H Q _ => ∃ c k m : Int, vs = [.int c, .int k, .int m] ∧ 0 < m ∧ RetV (.int (drawF c k m)) H Q
def spLdone (K : PySem.W.Frag) : Sp := fun vs H Q _ => ∃ (l a : Addr) (zs : List (Addr × Th)) (o : List Nat), vs = [.ref l, .ref a] ∧ Ths K H l zs ∧ SqL K H a (ov o) ∧ Ord zs.length o ∧ RetV (.int ((path (ths zs) o).foldl ldS (0, B (path (ths zs) o), 0)).2.2) H Q
def spThings (K : PySem.W.Frag) : Sp := fun vs H Q _ => ∃ (a : Addr) (ns : List Int), vs = [.ref a] ∧ SqL K H a (ns.map V.int) ∧ ns.length ≤ 63 ∧
  ∀ (l : Addr) (zs : List (Addr × Th)) (H' : Hp), Ex H H' → H l = none → H' l = some (.lst (tv zs)) → (∀ z ∈ zs, H' z.1 = some (.tup (iv z.2)) ∧ Bd z.2) → zs.length ≤ 189 → Q (.ref l) H'
section
variable {P : Program} {w : World} {K : PySem.W.Frag} {mg : Str → Option Value} {base : Heap}
theorem scCell : FnScope ["_law_script", "_law_k"] ["_law_script", "_law_k"] (defScope sCell) := ⟨rfl, rfl, rfl, by decide +kernel, rfl, by decide +kernel, by decide +kernel⟩
theorem ok_cell {f : Addr} {fd : FuncData} (F : Fun K "_law_cell_at" "_law_cell_at" sCell f fd) (T : Bn mg) : FnOk P w K mg base CX0 1 f fd ["_law_script", "_law_k"] (spCell K) := by
  refine F.ok scCell (fun vs H Q E h => ?_) (fun cdv A outer s H vs Q E hr h => ?_)
  · obtain ⟨a, ns, k, rfl, _⟩ := h
    rfl
  · obtain ⟨a, ns, k, rfl, hS, q⟩ := h
    refine ⟨_, pss_cons (ps_if (pt_cmpR op_lt (pv 1) (pe_callB call_len_seq (by rfl) T.len PySem.boot_len (pa_cons (pv 0) pa_nil)) (nomark _)) (pss_one (ps_ret (pe_ix ix_list (pv 0) (pv 1) (fun _ _ => rfl)))) pss_nil)
      (pss_one (ps_ret pe_int)), ?_⟩
    refine q_when (b := decide ((k : Int) < ((ns.map V.int).length : Int))) (et_test (ev_op (ev_var rfl) (ev_cb (ea_cons (ev_var rfl) ea_nil) (rc_lenL hS)) rv_I0)) (fun hb H1 e1 => ?_) (fun hb H1 e1 => ?_)
    · have hk : k < ns.length := by
        have := of_decide_eq_true hb
        rw [List.length_map] at this
        omega
      refine s_ret (ev_op (ev_var rfl) (ev_var rfl) (rv_ixL (v := .int (ns.getD k 0)) (ex_l e1 hS) (atI_nat ?_))) fun H2 e2 => q.go (e1.trans e2)
      rw [List.getElem?_map, List.getD_eq_getElem?_getD, List.getElem?_eq_getElem hk]
      rfl
    · have hk : ns.length ≤ k := by
        have := of_decide_eq_false hb
        rw [List.length_map] at this
        omega
      have e0 : ns.getD k 0 = 0 := by rw [List.getD_eq_getElem?_getD, List.getElem?_eq_none hk]; rfl
      rw [e0] at q
      exact s_ret ev_c fun H2 e2 => q.go (e1.trans e2)
theorem scDraw : FnScope ["_law_cell", "_law_k", "_law_many", "_law_primes"] ["_law_cell", "_law_k", "_law_many"] (defScope sDraw) := ⟨rfl, rfl, rfl, by decide +kernel, rfl, by decide +kernel, by decide +kernel⟩
theorem ok_draw {f : Addr} {fd : FuncData} (F : Fun K "_law_draw" "_law_draw" sDraw f fd) : FnOk P w K mg base CX0 1 f fd ["_law_cell", "_law_k", "_law_many"] spDraw := by
  refine F.ok scDraw (fun vs H Q E h => ?_) (fun cdv A outer s H vs Q E hr h => ?_)
  · obtain ⟨c, k, m, rfl, _⟩ := h
    rfl
  · obtain ⟨c, k, m, rfl, hm, q⟩ := h
    refine ⟨_, pss_cons (ps_set (i := 3) scDraw.nd rfl (Or.inl rfl) (pe_tup (pa_cons pe_int (pa_cons pe_int (pa_cons pe_int (pa_cons pe_int (pa_cons pe_int (pa_cons pe_int (pa_cons pe_int (pa_cons pe_int (pa_cons pe_int (pa_cons pe_int (pa_cons pe_int (pa_cons pe_int (pa_cons pe_int (pa_cons pe_int (pa_cons pe_int (pa_cons pe_int pa_nil))))))))))))))))))
      (pss_one (ps_ret (pe_op op_mod (pe_op op_mod (pe_op op_add (pe_op op_mul (pv 0) pe_int) (pe_op op_mul (pv 1) pe_int)) (pe_ix ix_tup (pv 3) (pe_op op_mod (pv 1) pe_int) (fun _ _ => rfl))) (pv 2)))), ?_⟩
    refine q_asgU (xs := primes.map V.int) (eu_tup (ea_cons ev_c (ea_cons ev_c (ea_cons ev_c (ea_cons ev_c (ea_cons ev_c (ea_cons ev_c (ea_cons ev_c (ea_cons ev_c (ea_cons ev_c (ea_cons ev_c (ea_cons ev_c (ea_cons ev_c (ea_cons ev_c (ea_cons ev_c (ea_cons ev_c (ea_cons ev_c ea_nil)))))))))))))))) (by decide)) fun p H1 np e1 hp => ?_
    refine s_ret (v := .int (drawF c k m)) (ev_op (ev_op (ev_op (ev_op (ev_var rfl) ev_c (rv_I (.inr (by decide)))) (ev_op (ev_var rfl) ev_c (rv_I (.inr (by decide)))) rv_I0)
      (ev_op (ev_var rfl) (ev_op (ev_var rfl) ev_c (rv_I (by decide))) (rv_ixT (st_of hp) (prime_at k))) (rv_I (prime_pos _))) (ev_var rfl) (rv_I hm)) fun H2 e2 => q.go (e1.trans e2)
theorem scLwhole : FnScope ["_law_number"] ["_law_number"] (defScope sLwhole) := ⟨rfl, rfl, rfl, by decide +kernel, rfl, by decide +kernel, by decide +kernel⟩
theorem ok_lwhole {f : Addr} {fd : FuncData} (F : Fun K "_law_whole" "_law_whole" sLwhole f fd) (T : Bn mg) : FnOk P w K mg base CX0 1 f fd ["_law_number"] spWhole := by
  refine F.ok scLwhole (fun vs H Q E h => ?_) (fun cdv A outer s H vs Q E hr h => ?_)
  · obtain ⟨i, rfl, _⟩ := h
    rfl
  · obtain ⟨i, rfl, k⟩ := h
    refine ⟨_, pss_one (ps_ret (pe_and (pe_callB call_isi (by rfl) T.isi (by decide +kernel) (pa_cons (pv 0) (pa_cons (pe_bltn (v := .ty "int") (by rfl) T.int PyProof.Rows.boot_int rfl) pa_nil)))
      (pe_one (pe_not (pe_callB call_isi (by rfl) T.isi (by decide +kernel) (pa_cons (pv 0) (pa_cons (pe_bltn (v := .ty "bool") (by rfl) T.bool PyProof.Rows.boot_bool rfl) pa_nil))))))), ?_⟩
    refine s_ret (v := .bl (true && !false)) (ev_andV (ev_cb (ea_cons (ev_var rfl) (ea_cons ev_c ea_nil)) (rc_isi ty_int (by decide +kernel))) fun _ =>
      ev_notV (ev_cb (ea_cons (ev_var rfl) (ea_cons ev_c ea_nil)) (rc_isi ty_int (by decide +kernel)))) fun H1 e => k.go e
theorem scLdone : FnScope ["_law_things_here", "_law_order_here", "_law_at", "_law_ahead", "_law_behind", "_law_found"] ["_law_things_here", "_law_order_here"] (defScope sLdone) := ⟨rfl, rfl, rfl, by decide +kernel, rfl, by decide +kernel, by decide +kernel⟩
theorem ok_ldone {f : Addr} {fd : FuncData} (F : Fun K "_law_done" "_law_done" sLdone f fd) (T : Bn mg) : FnOk P w K mg base CX0 1 f fd ["_law_things_here", "_law_order_here"] (spLdone K) := by
  refine F.ok scLdone (fun vs H Q E h => ?_) (fun cdv A outer s H vs Q E hr h => ?_)
  · obtain ⟨l, a, zs, o, rfl, _⟩ := h
    rfl
  · obtain ⟨l, a, zs, o, rfl, hT, hS, ho, q⟩ := h
    have hl := ho.len
    have hz := hT.le
    refine ⟨_, pss_cons (ps_par3 (i := 3) (j := 4) (l := 5) rfl scLdone.nd rfl rfl rfl (by decide) (by decide) (by decide) rfl rfl rfl (pa_cons pe_int (pa_cons (pe_callB (cr_sum rfl) (by rfl) T.sum PyProof.Rows.boot_sum
        (pa_cons (pe_lc (own := [("_law_at", 2)]) (g := gName 2) (tt := tYes) rfl scLdone.nd (pi_list (pv 1)) (blkOk_by (N := ["_law_things_here", "_law_order_here", "_law_at", "_law_ahead", "_law_behind", "_law_found"]) (sc := defScope sLdone) (by decide +kernel))
          (fun _ _ _ _ _ => pg_name (i := 2) scLdone.nd rfl (Or.inl rfl)) (fun _ _ _ _ _ => pts_nil) (fun _ _ _ _ _ => pe_ix (show IxR _ (rIxT K) from ix_tup) (pe_ix (show IxR _ (rIxL K) from ix_list) (pv 0) (pv 2) (fun _ _ => rfl)) pe_int (fun _ _ => rfl))) pa_nil)) (pa_cons pe_int pa_nil))) (by rfl))
      (pss_cons (ps_for PassesOwn.never rfl (pi_list (pv 1)) (pg_name (i := 2) scLdone.nd rfl (Or.inl rfl))
        (pss_cons (ps_set (i := 3) scLdone.nd rfl (Or.inl rfl) (pe_op op_add (pv 3) (pe_ix ix_tup (pe_ix ix_list (pv 0) (pv 2) (fun _ _ => rfl)) pe_int (fun _ _ => rfl))))
        (pss_cons (ps_set (i := 5) scLdone.nd rfl (Or.inl rfl) (pe_callB (call_max2 rfl) (by rfl) T.max PyProof.Rows.boot_max (pa_cons (pv 5) (pa_cons (pe_op op_add (pe_op op_add (pv 3) (pe_ix ix_tup (pe_ix ix_list (pv 0) (pv 2) (fun _ _ => rfl)) pe_int (fun _ _ => rfl))) (pv 4)) pa_nil))))
        (pss_one (ps_set (i := 4) scLdone.nd rfl (Or.inl rfl) (pe_op op_sub (pv 4) (pe_ix ix_tup (pe_ix ix_list (pv 0) (pv 2) (fun _ _ => rfl)) pe_int (fun _ _ => rfl))))))))
      (pss_one (ps_ret (pv 5)))), ?_⟩
    refine q_par3 (u := .int 0) (v := .int (B (path (ths zs) o))) (w := .int 0) (ea_cons ev_c (ea_cons (ev_cbL (el_lcL (a := a) (xs := ov o) (fun _ => true) (fun i => .int ((path (ths zs) o).getD i th0).2.2) (ev_var rfl) hS (by rw [ov_len]; omega) (fun x => rfl) (fun i x H1 e1 hi => et_yes) fun i x H1 e1 hi _ => ?_) fun p H1 e1 hp => ?_) (ea_cons ev_c ea_nil))) fun H1 e1 => ?_
    · obtain ⟨c, hc, rfl⟩ := ov_get hi
      refine ev_part (hT.mono e1) (ho.lt (List.mem_of_getElem? hc)) (j := 2) ?_ (ev_var rfl) (ev_var rfl) ev_c
      have hp : (path (ths zs) o).getD i th0 = (ths zs).getD c th0 := by
        rw [List.getD_eq_getElem?_getD, path_at _ hc]
        rfl
      rw [hp]
      rfl
    · rw [given_all, ov_len, ← path_len (ths zs) o] at hp
      rw [range_map (path (ths zs) o) th0 (fun t => V.int t.2.2)] at hp
      have := rc_sum (K := K) (H := H1) (a := p) (ns := (path (ths zs) o).map fun t => t.2.2) (sq_of (by rw [hp, List.map_map]; rfl))
      rw [← B_sum] at this
      exact this
    refine q_forLn (a := a) (xs := ov o) (ev_var rfl) (ex_l e1 hS) (fun i σ' H' => ∃ v2 : Option V, σ' = [some (.ref l), some (.ref a), v2, some (.int (((path (ths zs) o).take i).foldl ldS (0, B (path (ths zs) o), 0)).1), some (.int (((path (ths zs) o).take i).foldl ldS (0, B (path (ths zs) o), 0)).2.1), some (.int (((path (ths zs) o).take i).foldl ldS (0, B (path (ths zs) o), 0)).2.2)] ∧ Ex H H')
      (fun H2 e2 => ⟨none, rfl, e1.trans e2⟩) (fun i σ' H' _ ⟨_, _, e'⟩ => ex_l e' hS) ?_ ?_
    · rintro i x σ' H' hi ⟨v2, rfl, e'⟩
      obtain ⟨c, hc, rfl⟩ := ov_get hi
      have hcn : c < zs.length := ho.lt (List.mem_of_getElem? hc)
      rw [fold_more (path_at (ths zs) hc)]
      refine q_asg (ev_op (ev_var rfl) (ev_part (hT.mono e') hcn (j := 0) rfl (ev_var rfl) (ev_var rfl) ev_c) rv_I0) fun H2 e2 => ?_
      refine q_asg (ev_cb (r := rMax2) (ea_cons (ev_var rfl) (ea_cons (ev_op (ev_op (ev_var rfl) (ev_part (hT.mono (e'.trans e2)) hcn (j := 1) rfl (ev_var rfl) (ev_var rfl) ev_c) rv_I0) (ev_var rfl) rv_I0) ea_nil)) fun H1 e Q q => ⟨_, _, rfl, q H1 (Ex.refl H1)⟩) fun H3 e3 => ?_
      refine s_asg (ev_op (ev_var rfl) (ev_part (hT.mono ((e'.trans e2).trans e3)) hcn (j := 2) rfl (ev_var rfl) (ev_var rfl) ev_c) rv_I0) fun H4 e4 => ⟨some (.int (c : Int)), ?_, ((e'.trans e2).trans e3).trans e4⟩
      rw [ldS_py]
      rfl
    · rintro σ' H' ⟨v2, rfl, e'⟩
      rw [ov_len, ← path_len (ths zs) o, List.take_length]
      exact s_ret (ev_var rfl) fun H2 e2 => q.go (e'.trans e2)
end
end Bp
namespace Bp
open PySem L2 Evl
abbrev nThings : List Str := ["_law_script", "_law_kind", "_law_found", "_law_k", "_law_cell", "_law_three", "_law_most", "_law_one", "_law_rest", "_law_dry", "_law_other"]
theorem scThings : FnScope nThings ["_law_script"] (defScope sThings) := ⟨rfl, rfl, rfl, by decide +kernel, rfl, by decide +kernel, by decide +kernel⟩
section
variable {P : Program} {w : World} {K : PySem.W.Frag} {mg : Str → Option Value} {base : Heap}
theorem ok_things {f fC fD : Addr} {fd fdC fdD : FuncData} (F : Fun K "_law_things" "_law_things" sThings f fd) (T : Bn mg) (gC : mg "_law_cell_at" = some (.ref fC)) (FC : Fun K "_law_cell_at" "_law_cell_at" sCell fC fdC) (bC : Binds K fdC ["_law_script", "_law_k"] []) (GC : FnOk P w K mg base CX0 1 fC fdC ["_law_script", "_law_k"] (spCell K))
    (gD : mg "_law_draw" = some (.ref fD)) (FD : Fun K "_law_draw" "_law_draw" sDraw fD fdD) (bD : Binds K fdD ["_law_cell", "_law_k", "_law_many"] []) (GD : FnOk P w K mg base CX0 1 fD fdD ["_law_cell", "_law_k", "_law_many"] spDraw) : FnOk P w K mg base CX0 2 f fd ["_law_script"] (spThings K) := by
  refine F.ok scThings (fun vs H Q E h => ?_) (fun cdv A outer s H vs Q E hr h => ?_)
  · obtain ⟨a, ns, rfl, _⟩ := h
    rfl
  · obtain ⟨a, ns, rfl, hS, hz, q⟩ := h
    refine ⟨_, pss_cons (ps_set (i := 0) scThings.nd rfl (Or.inl rfl) (pe_slice sl_list (pv 0) po_none (po_some pe_int)))
      (pss_cons (ps_par (i := 1) (j := 2) (by rfl) scThings.nd rfl rfl (by decide) rfl rfl (pa_cons (pe_call GD hr (by rfl) gD FD.kp bD .nil pass0 (pa_cons (pe_call GC hr (by rfl) gC FC.kp bC .nil pass0 (pa_cons (pv 0) (pa_cons pe_int pa_nil))) (pa_cons pe_int (pa_cons pe_int pa_nil)))) (pa_cons (pe_lst pa_nil) pa_nil)) (by rfl))
      (pss_cons (ps_if (pt_cmpR op_eq (pe_op op_mod (pe_callB call_len_seq (by rfl) T.len PySem.boot_len (pa_cons (pv 0) pa_nil)) pe_int) pe_int (nomark _))
        (pss_cons (ps_for PassesOwn.never rfl (pi_range3 rfl T.range (pa_cons pe_int (pa_cons (pe_callB call_len_seq (by rfl) T.len PySem.boot_len (pa_cons (pv 0) pa_nil)) (pa_cons pe_int pa_nil)))) (pg_name (i := 3) scThings.nd rfl (Or.inl rfl))
          (pss_cons (ps_setLc (i := 5) (own := [("_law_cell", 4)]) (g := gName 4) (tt := tYes) (by rfl) scThings.nd rfl rfl (sw_true rfl rfl rfl (by decide +kernel)) (pi_list (pe_slice sl_list (pv 0) (po_some (pv 3)) (po_some (pe_op op_add (pv 3) pe_int)))) (blkOk_by (N := nThings) (sc := defScope sThings) (by decide +kernel))
            (fun _ _ _ _ _ => pg_name (i := 4) scThings.nd rfl (Or.inl rfl)) (fun _ _ _ _ _ => pts_nil) (fun _ _ _ _ _ => pe_op op_mod (pv 4) (pe_op op_pow pe_int pe_int)))
          (pss_one (ps_expr (pe_bm PySem.F.plainAttrs_list PySem.F.slot_list_append PySem.F.type_list_append mt_append (pv 2) (pa_cons (pe_tup (pa_cons (pe_ix ix_list (pv 5) pe_int (fun _ _ => rfl)) (pa_cons (pe_ix ix_list (pv 5) pe_int (fun _ _ => rfl)) (pa_cons (pe_ix ix_list (pv 5) pe_int (fun _ _ => rfl)) pa_nil)))) pa_nil))))))
        (pss_one (ps_ret (pv 2)))) pss_nil)
      (pss_cons (ps_set (i := 6) scThings.nd rfl (Or.inl rfl) (pe_ix ix_tup (pe_tup (pa_cons pe_int (pa_cons pe_int (pa_cons (pe_op op_pow pe_int pe_int) pa_nil)))) (pe_call GD hr (by rfl) gD FD.kp bD .nil pass0 (pa_cons (pe_call GC hr (by rfl) gC FC.kp bC .nil pass0 (pa_cons (pv 0) (pa_cons pe_int pa_nil))) (pa_cons pe_int (pa_cons pe_int pa_nil)))) (fun _ _ => rfl)))
      (pss_cons (ps_for PassesOwn.never rfl (pi_range1 rfl T.range (pa_cons (pe_op op_mul (pe_callB call_len_seq (by rfl) T.len PySem.boot_len (pa_cons (pv 0) pa_nil)) (pe_ifExp (pt_cmpR op_eq (pv 1) pe_int (nomark _)) pe_int pe_int)) pa_nil)) (pg_name (i := 3) scThings.nd rfl (Or.inl rfl))
        (pss_cons (ps_set (i := 4) scThings.nd rfl (Or.inl rfl) (pe_op op_add (pe_ix ix_list (pv 0) (pe_op op_mod (pv 3) (pe_callB call_len_seq (by rfl) T.len PySem.boot_len (pa_cons (pv 0) pa_nil))) (fun _ _ => rfl)) (pe_op op_mul pe_int (pe_op op_fdiv (pv 3) (pe_callB call_len_seq (by rfl) T.len PySem.boot_len (pa_cons (pv 0) pa_nil))))))
        (pss_cons (ps_par (i := 7) (j := 8) (by rfl) scThings.nd rfl rfl (by decide) rfl rfl (pa_cons (pe_op op_mod (pv 4) (pv 6)) (pa_cons (pe_op op_fdivW (pv 4) (pv 6)) pa_nil)) (by rfl))
        (pss_cons (ps_par (i := 9) (j := 10) (by rfl) scThings.nd rfl rfl (by decide) rfl rfl (pa_cons (pe_op op_mod (pv 8) (pv 6)) (pa_cons (pe_op op_mod (pe_op op_fdivW (pv 8) (pv 6)) (pv 6)) pa_nil)) (by rfl))
        (pss_cut (ps_if (pt_cmpR op_gt (pv 1) pe_int (nomark _))
          (pss_cons (ps_set (i := 7) scThings.nd rfl (Or.inl rfl) (pe_op op_fdiv (pe_op op_mul (pe_call GD hr (by rfl) gD FD.kp bD .nil pass0 (pa_cons (pv 4) (pa_cons (pe_op op_add (pe_op op_mod (pv 3) pe_int) pe_int) (pa_cons pe_int pa_nil)))) (pv 6)) pe_int))
          (pss_cons (ps_set (i := 9) scThings.nd rfl (Or.inl rfl) (pe_op op_fdiv (pe_op op_mul (pe_call GD hr (by rfl) gD FD.kp bD .nil pass0 (pa_cons (pe_op op_add (pe_op op_mul (pv 4) pe_int) (pv 3)) (pa_cons (pe_op op_add (pe_op op_mod (pv 3) pe_int) pe_int)
              (pa_cons (pe_ix ix_tup (pe_tup (pa_cons pe_int (pa_cons pe_int (pa_cons pe_int pa_nil)))) (pe_call GD hr (by rfl) gD FD.kp bD .nil pass0 (pa_cons (pv 4) (pa_cons pe_int (pa_cons pe_int pa_nil)))) (fun _ _ => rfl)) pa_nil)))) (pv 6)) pe_int))
          (pss_one (ps_set (i := 10) scThings.nd rfl (Or.inl rfl) (pe_op op_fdiv (pe_op op_mul (pe_call GD hr (by rfl) gD FD.kp bD .nil pass0 (pa_cons (pe_op op_add (pe_op op_mul (pv 4) pe_int) pe_int) (pa_cons (pe_op op_add (pe_op op_mod (pv 3) pe_int) pe_int) (pa_cons pe_int pa_nil)))) (pv 6)) pe_int))))) pss_nil)
        (pss_cut (ps_if (pt_cmpR op_eq (pv 1) pe_int (nomark _)) (pss_one (ps_set (i := 9) scThings.nd rfl (Or.inl rfl) pe_int)) pss_nil)
        (pss_cut (ps_if (PW.pt (pw_and (pt_cmpR op_eq (pv 1) pe_int (nomark _)) (pw_and1 (pt_cmpR op_lt (pv 7) (pv 10) (nomark _))))) (pss_one (ps_par (i := 7) (j := 10) (by rfl) scThings.nd rfl rfl (by decide) rfl rfl (pa_cons (pv 10) (pa_cons (pv 7) pa_nil)) (by rfl))) pss_nil)
        (pss_one (ps_expr (pe_bm PySem.F.plainAttrs_list PySem.F.slot_list_append PySem.F.type_list_append mt_append (pv 2) (pa_cons (pe_tup (pa_cons (pv 7) (pa_cons (pv 9) (pa_cons (pv 10) pa_nil)))) pa_nil)))))))))))
      (pss_one (ps_ret (pv 2))))))), ?_⟩
    have hzl : (ns.map V.int).length ≤ 63 := by rw [List.length_map]; exact hz
    -- script = script[:63]
    refine q_asgL (xs := ns.map V.int) (fun H1 e Q qq => (el_sl (ev_var rfl) eo_none (eo_some ev_c) (ex_l e hS)) H1 (Ex.refl H1) Q fun p H2 np e2 hp => qq p H2 np e2 (by rw [hp, cut63 hzl])) fun c H1 nc e1 hc => ?_
    have nc0 : H c = none := nc
    have hC : SqL K H1 c (ns.map V.int) := sq_of hc
    -- kind, found = draw(..), []
    have cellv : ∀ {σ : L2.St} {H2 : Hp} {tl tk : TE} (k : Nat), Ex H1 H2 → Ev tl σ H2 (.ref c) → Ev tk σ H2 (.int (k : Int)) → Ev (tCall (spCell K) [] E0 (tCons tl (tCons tk tNil))) σ H2 (.int (ns.getD k 0)) := fun k e2 h1 h2 =>
      ev_call (ea_cons h1 (ea_cons h2 ea_nil)) fun H3 e3 Q q E => ⟨c, ns, k, rfl, ex_l (e2.trans e3) hC, q⟩
    have drawv : ∀ {σ : L2.St} {H2 : Hp} {t1 t2 t3 : TE} {x y z : Int}, 0 < z → Ev t1 σ H2 (.int x) → Ev t2 σ H2 (.int y) → Ev t3 σ H2 (.int z) → Ev (tCall spDraw [] E0 (tCons t1 (tCons t2 (tCons t3 tNil)))) σ H2 (.int (drawF x y z)) := fun hp h1 h2 h3 =>
      ev_call (ea_cons h1 (ea_cons h2 (ea_cons h3 ea_nil))) fun H3 e3 Q q E => ⟨_, _, _, rfl, hp, q⟩
    refine drawv (z := 6) (by decide) (cellv 0 (Ex.refl H1) (ev_var rfl) ev_c) ev_c ev_c H1 (Ex.refl H1) _ fun H2 e2 => ?_
    have hk := drawF_lt (c := ns.getD 0 0) (k := 6) (m := 6) (by decide)
    generalize drawF (ns.getD 0 0) 6 6 = kind at hk
    refine ⟨Nat.zero_le _, fun l nl => ⟨_, _, rfl, ?_⟩⟩
    have nl0 : H1 l = none := fresh_back e2 nl
    have m0 : Made H1 (upd H2 l (.lst [])) l [] := ⟨e2.trans (Ex.new nl), upd_same, fun z hz => nomatch hz⟩
    have eC := m0.ex
    generalize hH3 : upd H2 l (.lst []) = H3 at m0 eC
    clear hH3
    refine q_when (b := decide (V.int ((ns.map V.int).length % 3 : Int) = V.int 0)) (et_test (ev_op (ev_op (ev_cb (ea_cons (ev_var rfl) ea_nil) (rc_lenL (ex_l eC hC))) ev_c (rv_I (by decide))) ev_c (rv_eq rfl))) (fun hb H4 e4 => ?_) (fun hb H4 e4 => ?_)
    · -- by threes
      have h3 : ns.length % 3 = 0 := by
        have := V.int.inj (of_decide_eq_true hb)
        rw [List.length_map] at this
        omega
      obtain ⟨r1, r2⟩ := rgc3 ns.length (by omega) h3
      refine q_forR3 (lo := 0) (hi := (ns.length : Int)) (c := 3) (n := ns.length / 3) (ea_cons ev_c (ea_cons (ev_is (ev_cb (ea_cons (ev_var rfl) ea_nil) (rc_lenL (ex_l (eC.trans e4) hC))) (by rw [List.length_map])) (ea_cons ev_c ea_nil))) ⟨by decide, by decide, r1, r2⟩
        (fun i σ' H' => ∃ (zs : List (Addr × Th)) (v3 v5 : Option V), σ' = [some (.ref c), some (.int kind), some (.ref l), v3, none, v5, none, none, none, none, none] ∧ Made H1 H' l zs ∧ zs.length = i)
        (fun H5 e5 => ⟨[], none, none, rfl, m0.more (e4.trans e5), rfl⟩) ?_ ?_
      · rintro i σ' H' hi ⟨zs, v3, v5, rfl, m, hzs⟩
        have eC' := m.ex
        have hi3 : i * 3 + 3 ≤ ns.length := by omega
        have e0 : (0 : Int) + (i : Int) * 3 = ((i * 3 : Nat) : Int) := by omega
        rw [e0]
        have hcs : ((ns.drop (i * 3)).take 3).length = 3 := by rw [List.length_take, List.length_drop]; omega
        refine q_asgL (xs := given 3 (fun _ => true) fun j => .int (((ns.drop (i * 3)).take 3).getD j 0 % 10 ^ 59)) ?_ fun p H5 np e5 hp => ?_
        · have hE : EvL _ _ H' (((ns.drop (i * 3)).take 3).map V.int) := fun H5 e5 Q qq => el_sl (σ := [some (.ref c), some (.int kind), some (.ref l), some (.int ((i * 3 : Nat) : Int)), none, v5, none, none, none, none, none]) (tl := tPart (tVar 3)) (th := tPart (tOp (rI0 fun i j => .int (i + j)) (tVar 3) (tC (.int 3)))) (te := tVar 0) (ev_var rfl) (eo_some (ev_var rfl)) (eo_some (ev_op (ev_var rfl) ev_c rv_I0)) (ex_l (eC'.trans e5) hC) H5 (Ex.refl H5) Q fun p H6 np e6 hp => qq p H6 np e6 (by
            rw [hp, cut3 (by rw [List.length_map]; exact hi3), List.map_take, List.map_drop])
          have := el_lcNL (K := K) (j := 4) (vs := [4]) (t := tYes) (te := tOp (rI (fun _ j => 0 < j) fun i j => .int (i % j)) (tVar 4) (tOp (rI CPow fun i j => .int (i ^ j.toNat)) (tC (.int 10)) (tC (.int 59)))) (fun _ => true) (fun j => V.int (((ns.drop (i * 3)).take 3).getD j 0 % 10 ^ 59)) hE (by rw [List.length_map, hcs]; decide) (fun x => rfl) (fun j x H5 e5 hj => et_yes) (fun j x H5 e5 hj _ => ?_)
          · rw [List.length_map, hcs] at this
            exact this
          · rw [List.getElem?_map] at hj
            cases hq : ((ns.drop (i * 3)).take 3)[j]? with
            | none => rw [hq] at hj; cases hj
            | some y =>
              rw [hq] at hj
              obtain rfl := Option.some.inj hj
              rw [List.getD_eq_getElem?_getD, hq]
              exact ev_op (ev_var rfl) (ev_op ev_c ev_c (rv_I ⟨by decide, by decide, by decide⟩)) (rv_I (by decide))
        · generalize ((ns.drop (i * 3)).take 3) = cs at hp
          have hb : ∀ x : Int, 0 ≤ x % 10 ^ 59 ∧ x % 10 ^ 59 < 10 ^ 59 := fun x => ⟨Int.emod_nonneg _ (by decide), Int.emod_lt_of_pos _ (by decide)⟩
          refine s_made (t := (cs.getD 0 0 % 10 ^ 59, cs.getD 1 0 % 10 ^ 59, cs.getD 2 0 % 10 ^ 59)) (m.more e5) nl0 (by omega) (ev_var rfl)
            (ea_cons (ev_op (ev_var rfl) ev_c (rv_ixL (sq_of hp) rfl)) (ea_cons (ev_op (ev_var rfl) ev_c (rv_ixL (sq_of hp) rfl)) (ea_cons (ev_op (ev_var rfl) ev_c (rv_ixL (sq_of hp) rfl)) ea_nil))) ⟨hb _, hb _, hb _⟩ fun t H6 m6 => ⟨_, _, _, rfl, m6, ?_⟩
          rw [List.length_append, hzs]
          rfl
      · rintro σ' H' ⟨zs, v3, v5, rfl, m, hzs⟩
        exact s_ret (ev_var rfl) fun H5 e5 => q l zs H5 ((e1.trans m.ex).trans e5) (fresh_back e1 nl0) (e5 _ _ m.ls) (fun z hz => ⟨e5 _ _ (m.it z hz).1, (m.it z hz).2⟩) (by omega)
    · -- one for each number
      have hL : 0 < (ns.map V.int).length := by
        have := of_decide_eq_false hb
        rw [List.length_map] at this ⊢
        rcases Nat.eq_zero_or_pos ns.length with h | h
        · rw [h] at this
          exact absurd rfl this
        · exact h
      have hd := drawF_lt (c := ns.getD 1 0) (k := 7) (m := 3) (by decide)
      have hdr := drawv (σ := [some (.ref c), some (.int kind), some (.ref l), none, none, none, none, none, none, none, none]) (z := 3) (by decide) (cellv 1 (eC.trans e4) (tl := tVar 0) (tk := tC (.int 1)) (ev_var rfl) ev_c) (t2 := tC (.int 7)) (t3 := tC (.int 3)) ev_c ev_c
      generalize drawF (ns.getD 1 0) 7 3 = d at hd hdr
      obtain ⟨most, am, hm0, hm1⟩ := pick3 (a := 3) (b := 10) (c := 10 ^ 20) hd.1 hd.2 (10 ^ 20) (by decide) (by decide) (by decide)
      refine q_asg (v := .int most) (ev_opU1 (xs := [.int 3, .int 10, .int (10 ^ 20)]) (eu_tup (ea_cons ev_c (ea_cons ev_c (ea_cons (ev_is (ev_op ev_c ev_c (rv_I ⟨by decide, by decide, by decide⟩)) rfl) ea_nil))) (by show 3 ≤ 100000; decide)) (fun H5 e5 => hdr.mono e5) fun p H5 hp e5 => rv_ixT (st_of hp) am) fun H5 e5 => ?_
      obtain ⟨mult, hm3, ht, hf⟩ : ∃ mult : Nat, (mult = 3 ∨ mult = 1) ∧ (decide (V.int kind = V.int 5) = true → mult = 3) ∧ (decide (V.int kind = V.int 5) = false → mult = 1) := by
        cases decide (V.int kind = V.int 5) with
        | true => exact ⟨3, .inl rfl, fun _ => rfl, fun h => by cases h⟩
        | false => exact ⟨1, .inr rfl, fun h => (by cases h), fun _ => rfl⟩
      obtain ⟨N, hN, hN2⟩ : ∃ N : Nat, ((ns.map V.int).length : Int) * (mult : Int) = (N : Int) ∧ N ≤ 189 := by
        rcases hm3 with rfl | rfl
        · exact ⟨(ns.map V.int).length * 3, by omega, by omega⟩
        · exact ⟨(ns.map V.int).length, by omega, by omega⟩
      have m4 : Made H1 H5 l [] := m0.more (e4.trans e5)
      refine q_forR1 (n := (N : Int)) (ea_cons (ev_is (ev_op (ev_cb (ea_cons (ev_var rfl) ea_nil) (rc_lenL (ex_l m4.ex hC))) (ev_if (v := .int (mult : Int)) (et_test (ev_op (ev_var rfl) ev_c (rv_eq rfl))) (fun h => by rw [ht h]; exact ev_c) (fun h => by rw [hf h]; exact ev_c)) (rv_I (.inl (by omega)))) (by rw [hN])) ea_nil) (by omega)
        (fun i σ' H' => ∃ (zs : List (Addr × Th)) (v3 v4 v7 v8 v9 v10 : Option V), σ' = [some (.ref c), some (.int kind), some (.ref l), v3, v4, none, some (.int most), v7, v8, v9, v10] ∧ Made H1 H' l zs ∧ zs.length = i)
        (fun H6 e6 => ⟨[], none, none, none, none, none, none, rfl, m4.more e6, rfl⟩) ?_ ?_
      · rintro i σ' H' hi ⟨zs, v3, v4, v7, v8, v9, v10, rfl, m, hzs⟩
        have hLi : 0 < ((ns.map V.int).length : Int) := by omega
        have hr1 : 0 ≤ (i : Int) % ((ns.map V.int).length : Int) := Int.emod_nonneg _ (by omega)
        have hr2 : (i : Int) % ((ns.map V.int).length : Int) < ((ns.map V.int).length : Int) := Int.emod_lt_of_pos _ hLi
        obtain ⟨j, hj⟩ : ∃ j : Nat, (i : Int) % ((ns.map V.int).length : Int) = (j : Int) := ⟨((i : Int) % ((ns.map V.int).length : Int)).toNat, by omega⟩
        have hjl : j < ns.length := by
          rw [List.length_map] at hr2 hj
          omega
        have hat : (ns.map V.int)[j]? = some (.int ns[j]) := by
          rw [List.getElem?_map, List.getElem?_eq_getElem hjl]
          rfl
        generalize ns[j] = nj at hat
        have hw70 : most.natAbs < 2 ^ 70 := Nat.lt_of_le_of_lt (by omega : most.natAbs ≤ 100000000000000000000) (by decide)
        refine q_asg (ev_op (ev_op (ev_var rfl) (ev_op (ev_var rfl) (ev_cb (ea_cons (ev_var rfl) ea_nil) (rc_lenL (ex_l m.ex hC))) (rv_I hLi)) (rv_ixL (ex_l m.ex hC) (at_of hj hat))) (ev_op ev_c (ev_op (ev_var rfl) (ev_cb (ea_cons (ev_var rfl) ea_nil) (rc_lenL (ex_l m.ex hC))) (rv_I ⟨hLi, by omega⟩)) (rv_I (.inl (by decide)))) rv_I0) fun H6 e6 => ?_
        generalize nj + 977 * ((i : Int) / ((ns.map V.int).length : Int)) = cell
        refine q_par (ea_cons (ev_op (ev_var rfl) (ev_var rfl) (rv_I hm0)) (ea_cons (ev_op (ev_var rfl) (ev_var rfl) (rv_I (wide_div hm0 hw70 (by decide) (by decide)))) ea_nil)) fun H7 e7 => ?_
        refine q_par (ea_cons (ev_op (ev_var rfl) (ev_var rfl) (rv_I hm0)) (ea_cons (ev_op (ev_op (ev_var rfl) (ev_var rfl) (rv_I (wide_div hm0 hw70 (by decide) (by decide)))) (ev_var rfl) (rv_I hm0)) ea_nil)) fun H8 e8 => ?_
        have m8 := m.more ((e6.trans e7).trans e8)
        have bd : ∀ x : Int, 0 ≤ x % most ∧ x % most < 10 ^ 59 := fun x => by
          have h1 := Int.emod_nonneg x (show most ≠ 0 by omega)
          have h2 := Int.emod_lt_of_pos x hm0
          omega
        refine q_cut (M := fun σ2 H2 => ∃ (x y z : Int) (v8 : Option V), σ2 = [some (.ref c), some (.int kind), some (.ref l), some (.int (i : Int)), some (.int cell), none, some (.int most), some (.int x), v8, some (.int y), some (.int z)] ∧ Made H1 H2 l zs ∧ Bd (x, y, z)) ?_ ?_
        · refine s_when (et_test (ev_op (ev_var rfl) ev_c rv_I0)) (fun _ H9 e9 => ?_) (fun _ H9 e9 => ⟨_, _, _, _, rfl, m8.more e9, bd _, bd _, bd _⟩)
          have d1 := drawF_lt (c := cell) (k := (i : Int) % 5 + 1) (m := 30) (by decide)
          refine q_asg (ev_op (ev_op (drawv (z := 30) (by decide) (ev_var rfl) (ev_op (ev_op (ev_var rfl) ev_c (rv_I (by decide))) ev_c rv_I0) ev_c) (ev_var rfl) (rv_I (.inl (by omega)))) ev_c (rv_I ⟨by decide, by decide⟩)) fun H10 e10 => ?_
          have d2 := drawF_lt (c := cell) (k := 3) (m := 3) (by decide)
          obtain ⟨p2, a2, q0, q1⟩ := pick3 (a := 1) (b := 30) (c := 200) d2.1 d2.2 200 (by decide) (by decide) (by decide)
          have d3 := drawF_lt (c := cell * 3 + (i : Int)) (k := (i : Int) % 7 + 2) (m := p2) q0
          refine q_asg (ev_op (ev_op (drawv (z := p2) q0 (ev_op (ev_op (ev_var rfl) ev_c (rv_I (.inr (by decide)))) (ev_var rfl) rv_I0) (ev_op (ev_op (ev_var rfl) ev_c (rv_I (by decide))) ev_c rv_I0)
            (ev_opU1 (xs := [.int 1, .int 30, .int 200]) (eu_tup (ea_cons ev_c (ea_cons ev_c (ea_cons ev_c ea_nil))) (by show 3 ≤ 100000; decide)) (fun H5 e5 => drawv (z := 3) (by decide) (ev_var rfl) ev_c ev_c) fun p H5 hp e5 => rv_ixT (st_of hp) a2)) (ev_var rfl) (rv_I (.inl (by omega)))) ev_c (rv_I ⟨by decide, by decide⟩)) fun H11 e11 => ?_
          have d4 := drawF_lt (c := cell * 7 + 1) (k := (i : Int) % 3 + 9) (m := 30) (by decide)
          refine s_asg (ev_op (ev_op (drawv (z := 30) (by decide) (ev_op (ev_op (ev_var rfl) ev_c (rv_I (.inr (by decide)))) ev_c rv_I0) (ev_op (ev_op (ev_var rfl) ev_c (rv_I (by decide))) ev_c rv_I0) ev_c) (ev_var rfl) (rv_I (.inl (by omega)))) ev_c (rv_I ⟨by decide, by decide⟩)) fun H12 e12 => ?_
          exact ⟨_, _, _, _, rfl, m8.more (((e9.trans e10).trans e11).trans e12), part_ok d1.1 (by omega) hm0 hm1, part_ok d3.1 (by omega) hm0 hm1, part_ok d4.1 (by omega) hm0 hm1⟩
        · rintro σ2 H2 ⟨x, y, z, v8', rfl, m2, hb2⟩
          refine q_cut (M := fun σ2 H2 => ∃ (x y z : Int) (v8 : Option V), σ2 = [some (.ref c), some (.int kind), some (.ref l), some (.int (i : Int)), some (.int cell), none, some (.int most), some (.int x), v8, some (.int y), some (.int z)] ∧ Made H1 H2 l zs ∧ Bd (x, y, z)) ?_ ?_
          · exact s_when (et_test (ev_op (ev_var rfl) ev_c (rv_eq rfl))) (fun _ H9 e9 => s_asg ev_c fun H10 e10 => ⟨_, _, _, _, rfl, m2.more (e9.trans e10), hb2.1, ⟨Int.le_refl 0, by show (0 : Int) < 10 ^ 59; decide⟩, hb2.2.2⟩) (fun _ H9 e9 => ⟨_, _, _, _, rfl, m2.more e9, hb2⟩)
          · clear hb2
            rintro σ3 H3' ⟨x, y, z, v8'', rfl, m3, hb3⟩
            refine q_cut (M := fun σ2 H2 => ∃ (x y z : Int) (v8 : Option V), σ2 = [some (.ref c), some (.int kind), some (.ref l), some (.int (i : Int)), some (.int cell), none, some (.int most), some (.int x), v8, some (.int y), some (.int z)] ∧ Made H1 H2 l zs ∧ Bd (x, y, z)) ?_ ?_
            · exact s_when (et_and (et_test (ev_op (ev_var rfl) ev_c (rv_eq rfl))) fun _ => et_test (ev_op (ev_var rfl) (ev_var rfl) rv_I0)) (fun _ H9 e9 => s_par (ea_cons (ev_var rfl) (ea_cons (ev_var rfl) ea_nil)) fun H10 e10 => ⟨_, _, _, _, rfl, m3.more (e9.trans e10), hb3.2.2, hb3.2.1, hb3.1⟩) (fun _ H9 e9 => ⟨_, _, _, _, rfl, m3.more e9, hb3⟩)
            · clear hb3
              rintro σ4 H4' ⟨x, y, z, v8''', rfl, m5, hb4⟩
              refine s_made (t := (x, y, z)) m5 nl0 (by omega) (ev_var rfl) (ea_cons (ev_var rfl) (ea_cons (ev_var rfl) (ea_cons (ev_var rfl) ea_nil))) hb4 fun t H6 m6 => ⟨_, _, _, _, _, _, _, rfl, m6, ?_⟩
              rw [List.length_append, hzs]
              rfl
      · rintro σ' H' ⟨zs, v3, v4, v7, v8, v9, v10, rfl, m, hzs⟩
        rw [Int.toNat_natCast] at hzs
        exact s_ret (ev_var rfl) fun H5 e5 => q l zs H5 ((e1.trans m.ex).trans e5) (fresh_back e1 nl0) (e5 _ _ m.ls) (fun z hz => ⟨e5 _ _ (m.it z hz).1, (m.it z hz).2⟩) (by omega)
end
end Bp
namespace Bp
open PySem L2 Evl
structure Bn2 (mg : Str → Option Value) : Prop where
  sorted : mg "sorted" = none
  set : mg "set" = none
  any : mg "any" = none
  zip : mg "zip" = none
/-! ### _law_order: any list of asI -/
def spLorder (K : PySem.W.Frag) : Sp := fun vs H Q _ => ∃ (l b : Addr) (xs : List V) (is : List Int), vs = [.ref l, .ref b] ∧ SqL K H l xs ∧ SqL K H b (is.map V.int) ∧ xs.length ≤ 1000 ∧ is.length ≤ 1000 ∧ RetV (.bl (ordB xs.length is)) H Q
abbrev nLorder : List Str := ["_law_things_here", "_law_order_here", "_law_at"]
theorem scLorder : FnScope nLorder ["_law_things_here", "_law_order_here"] (defScope sLorder) := ⟨rfl, rfl, rfl, by decide +kernel, rfl, by decide +kernel, by decide +kernel⟩
section
variable {P : Program} {w : World} {K : PySem.W.Frag} {mg : Str → Option Value} {base : Heap}
theorem ok_lorder {f fW : Addr} {fd dW : FuncData} (F : Fun K "_law_order" "_law_order" sLorder f fd) (T : Bn mg) (T2 : Bn2 mg) (gW : mg "_law_whole" = some (.ref fW)) (FW : Fun K "_law_whole" "_law_whole" sLwhole fW dW) (bW : Binds K dW ["_law_number"] []) (GW : FnOk P w K mg base CX0 1 fW dW ["_law_number"] spWhole) : FnOk P w K mg base CX0 2 f fd ["_law_things_here", "_law_order_here"] (spLorder K) := by
  refine F.ok scLorder (fun vs H Q E h => ?_) (fun cdv A outer s H vs Q E hr h => ?_)
  · obtain ⟨l, b, xs, is, rfl, _⟩ := h
    rfl
  · obtain ⟨l, b, xs, is, rfl, hT, hS, hx, hz, k⟩ := h
    refine ⟨_, pss_cons (ps_if (PW.pt (pw_or (pt_not (pt_val (pe_callB call_isi (by rfl) T.isi (by decide +kernel) (pa_cons (pv 1) (pa_cons (pe_bltn (v := .ty "list") (by rfl) T.list PyProof.Rows.boot_list rfl) pa_nil))))) (pw_or1 (pt_not (pt_val (pe_callB (cr_all rfl) (by rfl) T.all (by decide +kernel) (pa_cons (pe_lc (own := [("_law_at", 2)]) (g := gName 2) (tt := tYes) rfl scLorder.nd (pi_list (pv 1)) (blkOk_by (N := nLorder) (sc := defScope sLorder) (by decide +kernel))
        (fun _ _ _ _ _ => pg_name (i := 2) scLorder.nd rfl (Or.inl rfl)) (fun _ _ _ _ _ => pts_nil) (fun _ _ _ _ _ => pe_call GW hr (by rfl) gW FW.kp bW .nil pass0 (pa_cons (pv 2) pa_nil))) pa_nil))))))) (pss_one (ps_ret pe_bl)) pss_nil)
      (pss_one (ps_ret (pe_cmpR (op_eqD hr.units) (pe_callB cr_sortedI (by rfl) T2.sorted (by decide +kernel) (pa_cons (pv 1) pa_nil)) (pe_listRg rfl (by rfl) T.list (prg_1 (by rfl) T.range (pe_callB call_len_seq (by rfl) T.len PySem.boot_len (pa_cons (pv 0) pa_nil)))) (nomark _)))), ?_⟩
    refine q_when (b := false) (et_is (et_or (et_not (et_B (ev_cb (ea_cons (ev_var rfl) (ea_cons ev_c ea_nil)) (rc_isi (ty_lst hS) (b := true) (by decide +kernel))))) fun _ =>
      et_not (et_B (b := true) (ev_cbL (el_lcL (a := b) (xs := is.map V.int) (fun _ => true) (fun _ => .bl true) (ev_var rfl) hS (by rw [List.length_map]; omega) (fun x => rfl) (fun i x H1 e1 hi => et_yes) fun i x H1 e1 hi _ => ?_) fun p H1 e1 hp => ?_))) rfl) (fun q => by cases q) fun _ H1 e1 => ?_
    · rw [List.getElem?_map] at hi
      cases hq : is[i]? with
      | none => rw [hq] at hi; cases hi
      | some y =>
        rw [hq] at hi
        obtain rfl := Option.some.inj hi
        exact ev_call (ea_cons (ev_var rfl) ea_nil) fun H3 e3 Q q E => ⟨y, rfl, q⟩
    · rw [given_true] at hp
      have := rc_all (K := K) (sq_of hp)
      rw [all_true] at this
      exact this
    · refine ⟨.ref b, rfl, b, is, rfl, ex_l e1 hS, fun js p hp hs np => ⟨.ref l, rfl, l, xs, rfl, .inl (ex_l (e1.trans (Ex.new np)) hT), _, rfl, RgOk.of_le (by omega) (by omega) (by omega) (by omega), fun r nr => ?_⟩⟩
      have hpr : (upd (upd H1 p (.lst (js.map V.int))) r (.lst (rgV 0 (xs.length : Int)))) p = some (.lst (js.map V.int)) := Ex.new nr _ _ upd_same
      have hrr : (upd (upd H1 p (.lst (js.map V.int))) r (.lst (rgV 0 (xs.length : Int)))) r = some (.lst ((asI (List.range xs.length)).map V.int)) := by rw [upd_same, rg_ints]
      refine ⟨.list (js.map PyData.int), .list ((asI (List.range xs.length)).map PyData.int), .lst (sq_of hpr) (dpAll_ints _), .lst (sq_of hrr) (dpAll_ints _), sh_ints _, sh_ints _, ?_⟩
      rw [PyData.eqv, eqv_ints, ordB_sorted hp hs]
      exact k _ ((e1.trans (Ex.new np)).trans (Ex.new nr))
end
end Bp
namespace Bp
open PySem L2 Evl
abbrev nLworth : List Str := ["_law_things_here", "_law_bench", "_law_apart", "_law_length", "_law_at", "_law_worth_here", "_law_longest", "_law_marks", "_law_mark", "_law_thing", "_law_here", "_law_there"]
abbrev pLworth : List Str := ["_law_things_here", "_law_bench", "_law_apart", "_law_length"]
theorem scLworth : FnScope nLworth pLworth (defScope sLworth) := ⟨rfl, rfl, rfl, by decide +kernel, rfl, by decide +kernel, by decide +kernel⟩
section
variable {P : Program} {w : World} {K : PySem.W.Frag} {mg : Str → Option Value} {base : Heap}
def lworth_pf {f : Addr} (T : Bn mg) (T2 : Bn2 mg) {cdv : Value} {A : Around} {outer : List Env} {s : Shared} {H : Hp} {E : XK} (hr : Room 0 (A.deeper (PyProof.Rows.envOfC "_law_worth" (defScope sLworth) s.heap.objs.size f cdv))) :=
  show PSs (cxOf CX0 P w K mg base nLworth "_law_worth" (defScope sLworth) f cdv A outer s H E).nox (defBody sLworth) _ from
    pss_cut (ps_if (PW.pt (pw_or (pt_cmpR op_notIn_seq (pv 1) (pe_tup (pa_cons pe_int (pa_cons pe_int pa_nil))) (by rfl)) (pw_or (pt_cmpR op_lt (pv 3) pe_int (nomark _)) (pw_or1 (pt_cmpR (op_neD hr.units) (pv 2) (pe_callB (BpS.cr_sortA rfl) (by rfl) T2.sorted (by decide +kernel) (pa_cons (pe_callTy (BpS.cr_setL rfl) (by rfl) T2.set (by decide +kernel) (pa_cons (pv 2) pa_nil)) pa_nil)) (nomark _)))))) (pss_one (ps_ret (pe_un un_neg pe_int))) pss_nil)
      (pss_cut (ps_if (pt_val (pe_callB (cr_any rfl) (by rfl) T2.any (by decide +kernel) (pa_cons (pe_lc (own := [("_law_at", 4)]) (g := gName 4) (tt := tYes) rfl scLworth.nd (pi_list (pv 2)) (blkOk_by (N := nLworth) (sc := defScope sLworth) (by decide +kernel))
        (fun _ _ _ _ _ => (pg_name (i := 4) scLworth.nd rfl (Or.inl rfl))) (fun _ _ _ _ _ => pts_nil) (fun _ _ _ _ _ => pe_not (pe_chain op_le op_lt pe_int (pv 4) (pe_callB (show CallR _ _ (rLenS K) from call_len_seq) (by rfl) T.len PySem.boot_len (pa_cons (pv 0) pa_nil))))) pa_nil))) (pss_one (ps_ret (pe_un un_neg pe_int))) pss_nil)
      (pss_cons (ps_par3 (i := 5) (j := 6) (l := 7) rfl scLworth.nd rfl rfl rfl (by decide) (by decide) (by decide) rfl rfl rfl (pa_cons (pv 3) (pa_cons (pe_un un_neg pe_int) (pa_cons (pe_op op_rep (pe_lst (pa_cons pe_bl pa_nil)) (pe_callB call_len_seq (by rfl) T.len PySem.boot_len (pa_cons (pv 0) pa_nil))) pa_nil))) (by rfl))
      (pss_cut (ps_for PassesOwn.never rfl (pi_list (pv 2)) (pg_name (i := 4) scLworth.nd rfl (Or.inl rfl)) (pss_one (ps_asg pe_bl (pg_sub (pv 7) (pv 4) set_list))))
      (pss_cons (ps_for PassesOwn.never rfl (pi_zip (by rfl) T2.zip (pa_cons (pv 7) (pa_cons (pv 0) pa_nil))) (pg_tup rfl (pgs_cons (pg_name (i := 8) scLworth.nd rfl (Or.inl rfl)) (pgs_cons (pg_name (i := 9) scLworth.nd rfl (Or.inl rfl)) pgs_nil)))
        (pss_cons (ps_par (i := 10) (j := 11) (by rfl) scLworth.nd rfl rfl (by decide) rfl rfl (pa_cons (pe_ix ix_tup (pv 9) (pe_op op_sub (pe_op op_mul pe_int (pv 1)) pe_int) (fun _ _ => rfl)) (pa_cons (pe_ix ix_tup (pv 9) (pe_op op_sub pe_int (pe_op op_mul pe_int (pv 1))) (fun _ _ => rfl)) pa_nil)) (by rfl))
        (pss_cons (ps_if (PW.pt (pw_and (pt_val (pv 8)) (pw_and1 (pt_cmpR op_gt (pv 10) (pv 11) (nomark _))))) (pss_one (ps_ret (pe_un un_neg pe_int))) pss_nil)
        (pss_cons (ps_if (PW.pt (pw_and (pt_not (pt_val (pv 8))) (pw_and (pt_cmpR op_lt (pe_op op_add (pv 10) (pe_ix ix_tup (pv 9) pe_int (fun _ _ => rfl))) (pv 3) (nomark _)) (pw_and1 (pt_cmpR op_lt (pv 10) (pv 11) (nomark _)))))) (pss_one (ps_ret (pe_un un_neg pe_int))) pss_nil)
        (pss_cut (ps_if (pt_not (pt_val (pv 8))) (pss_one (ps_set (i := 6) scLworth.nd rfl (Or.inl rfl) (pe_callB (call_max2 rfl) (by rfl) T.max PyProof.Rows.boot_max (pa_cons (pv 6) (pa_cons (pe_op op_add (pv 10) (pe_ix ix_tup (pv 9) pe_int (fun _ _ => rfl))) pa_nil))))) pss_nil)
        (pss_one (ps_set (i := 5) scLworth.nd rfl (Or.inl rfl) (pe_op op_add (pv 5) (pe_ifExp (pt_val (pv 8)) (pv 10) (pv 11))))))))))
      (pss_one (ps_ret (pe_ifExp (PW.pt (pw_or (pt_cmpR op_eq (pv 3) pe_int (nomark _)) (pw_or1 (pt_cmpR op_ge (pv 6) (pv 3) (nomark _))))) (pv 5) (pe_un un_neg pe_int))))))))
end
end Bp
namespace Bp
open PySem L2 Evl
def spLworth (K : PySem.W.Frag) : Sp := fun vs H Q _ => ∃ (l c : Addr) (zs : List (Addr × Th)) (bench L : Int) (ap : List Int), vs = [.ref l, .int bench, .ref c, .int L] ∧ Ths K H l zs ∧ SqL K H c (ap.map V.int) ∧ ap.length ≤ 1000 ∧ RetV (.int (lawW (ths zs) bench ap L)) H Q
section
variable {P : Program} {w : World} {K : PySem.W.Frag} {mg : Str → Option Value} {base : Heap}
theorem ok_lworth {f : Addr} {fd : FuncData} (F : Fun K "_law_worth" "_law_worth" sLworth f fd) (T : Bn mg) (T2 : Bn2 mg) : FnOk P w K mg base CX0 1 f fd pLworth (spLworth K) := by
  refine F.ok scLworth (fun vs H Q E h => ?_) (fun cdv A outer s H vs Q E hr h => ?_)
  · obtain ⟨l, c, zs, bench, L, ap, rfl, _⟩ := h
    rfl
  · obtain ⟨l, c, zs, bench, L, ap, rfl, hT, hS, hz, k⟩ := h
    refine ⟨_, lworth_pf T T2 hr, ?_⟩
    clear hr
    have hzl := hT.le
    have no : ¬ BarW (ths zs) bench ap L → ∀ H1, Ex H H1 → Q (.int (-1)) H1 := fun hb H1 e => by
      rw [lawW_no hb] at k
      exact k.go e
    -- what is no bar at all
    refine q_cut (M := fun σ' H' => σ' = [some (.ref l), some (.int bench), some (.ref c), some (.int L), none, none, none, none, none, none, none, none] ∧ Ex H H' ∧ (bench = 1 ∨ bench = 2) ∧ 0 ≤ L ∧ ap.Pairwise (· < ·)) ?_ ?_
    · have h3 : ∀ H0, Ex H H0 → EvT (tTest (tOp (rNeD K) (tVar 2) (tCB (BpS.rSortA w) (tCons (tCB (BpS.rSetL K w) (tCons (tVar 2) tNil)) tNil)))) [some (.ref l), some (.int bench), some (.ref c), some (.int L), none, none, none, none, none, none, none, none] H0 (!decide (ap.Pairwise (· < ·))) := fun H0 e0 H1 e Q q => by
        refine ⟨.ref c, rfl, .ref c, rfl, c, ap, rfl, ex_l (e0.trans e) hS, hz, fun p n hn np => ⟨p, _, n, rfl, upd_same, by omega, fun js r hs hm hl nr => ?_⟩⟩
        have e2 := e0.trans (e.trans ((Ex.new (o := BpS.SetOx w p ap n) np).trans (Ex.new (o := .lst (js.map V.int)) nr)))
        refine ⟨.list (ap.map PyData.int), .list (js.map PyData.int), .lst (ex_l e2 hS) (dpAll_ints _), .lst (sq_of upd_same) (dpAll_ints _), sh_ints _, sh_ints _, _, rfl, ?_⟩
        rw [PyData.eqv, eqv_ints]
        have : decide (ap = js) = decide (ap.Pairwise (· < ·)) := decide_eq_decide.mpr (rise_of hs fun k => (hm k).trans decide_eq_true_iff)
        rw [this]
        exact q _ ((Ex.new np).trans (Ex.new nr))
      refine s_if (b := (!inV (.int bench) [.int 1, .int 2]) || (decide (L < 0) || !decide (ap.Pairwise (· < ·)))) (et_or (et_test (ev_niU (ev_var rfl) (eu_tup (ea_cons ev_c (ea_cons ev_c ea_nil)) (by show 2 ≤ 100000; decide)) rfl rfl)) fun _ => et_or (et_test (ev_op (ev_var rfl) ev_c rv_I0)) fun _ => h3 H (Ex.refl H)) (fun hb H1 e1 => ?_) (fun hb H1 e1 => ?_)
      · refine s_ret (ev_un ev_c ru_neg) fun H2 e2 => no (fun hB => ?_) H2 (e1.trans e2)
        have h1 : inV (.int bench) [.int 1, .int 2] = true := by
          rcases hB.two with rfl | rfl <;> decide
        have h2 := hB.ok.len
        rw [h1, decide_eq_false (by omega), decide_eq_true hB.rise] at hb
        cases hb
      · simp only [Bool.or_eq_false_iff, Bool.not_eq_false', decide_eq_false_iff_not, decide_eq_true_eq] at hb
        obtain ⟨h1, h2, h4⟩ := hb
        refine ⟨rfl, e1, ?_, by omega, h4⟩
        by_cases b1 : bench = 1
        · exact .inl b1
        by_cases b2 : bench = 2
        · exact .inr b2
        · exfalso
          have : inV (.int bench) [.int 1, .int 2] = false := by
            unfold inV
            simp only [List.any_cons, List.any_nil, Bool.or_false, Bool.or_eq_false_iff]
            exact ⟨by show decide ((1 : Int) = bench) = false; exact decide_eq_false (by omega), by show decide ((2 : Int) = bench) = false; exact decide_eq_false (by omega)⟩
          rw [this] at h1
          cases h1
    rintro σ' H1 ⟨rfl, e1, hbench, hL, hrise⟩
    have hT1 := hT.mono e1
    have hS1 := ex_l e1 hS
    -- counts beyond
    refine q_cut (M := fun σ' H' => σ' = [some (.ref l), some (.int bench), some (.ref c), some (.int L), none, none, none, none, none, none, none, none] ∧ Ex H H' ∧ ∀ x ∈ ap, 0 ≤ x ∧ x < ((ths zs).length : Int)) ?_ ?_
    · refine s_if (b := ap.any fun x => !(decide (0 ≤ x) && decide (x < ((tv zs).length : Int)))) (et_B (ev_cbL (el_lcL (a := c) (xs := ap.map V.int) (fun _ => true) (fun i => .bl (!(decide (0 ≤ ap.getD i 0) && decide (ap.getD i 0 < ((tv zs).length : Int))))) (ev_var rfl) hS1 (by rw [List.length_map]; omega) (fun x => rfl) (fun i x H2 e2 hi => et_yes) fun i x H2 e2 hi _ => ?_) fun p H2 e2 hp => ?_)) (fun hb H2 e2 => ?_) (fun hb H2 e2 => ?_)
      · have hx : x = .int (ap.getD i 0) := by
          rw [List.getElem?_map] at hi
          cases hq : ap[i]? with
          | none => rw [hq] at hi; cases hi
          | some y =>
            rw [hq] at hi
            rw [List.getD_eq_getElem?_getD, hq]
            exact (Option.some.inj hi).symm
        subst hx
        exact ev_notV (ev_chain ev_c (ev_var rfl) rv_I0 (ev_cb (ea_cons (ev_var rfl) ea_nil) (rc_lenL (ex_l e2 hT1.ls))) rv_I0)
      · rw [given_all, List.length_map, range_map ap 0 (fun x => V.bl (!(decide (0 ≤ x) && decide (x < ((tv zs).length : Int)))))] at hp
        have hq : SqL K H2 p ((ap.map fun x => !(decide (0 ≤ x) && decide (x < ((tv zs).length : Int)))).map V.bl) := sq_of (by rw [hp, List.map_map]; rfl)
        refine fun H3 e3 Q q => ⟨p, _, rfl, ex_l e3 hq, ?_⟩
        rw [List.any_map]
        exact q H3 (Ex.refl H3)
      · refine s_ret (ev_un ev_c ru_neg) fun H3 e3 => no (fun hB => ?_) H3 ((e1.trans e2).trans e3)
        obtain ⟨x, hx, hq⟩ := List.any_eq_true.mp hb
        obtain ⟨g1, g2⟩ := hB.inn x hx
        rw [ths_len] at g2
        rw [tv_len, decide_eq_true g1, decide_eq_true g2] at hq
        cases hq
      · refine ⟨rfl, e1.trans e2, fun x hx => ?_⟩
        have := List.any_eq_false.mp hb x hx
        rw [tv_len] at this
        simp only [Bool.not_eq_true', Bool.not_eq_false, Bool.and_eq_true, decide_eq_true_eq] at this
        rw [ths_len]
        simpa using this
    rintro σ' H2 ⟨rfl, e2, hinn⟩
    clear hT1 hS1 e1 H1
    have hT2 := hT.mono e2
    have hS2 := ex_l e2 hS
    -- worth, longest, marks
    refine ⟨.int L, rfl, 1, rfl, ?_⟩
    refine el_rep (n := zs.length) (el_lst (ea_cons ev_c ea_nil) (by show 1 ≤ 100000; decide)) (fun H3 e3 => ev_is (ev_cb (ea_cons (ev_var rfl) ea_nil) (rc_lenL (ex_l e3 hT2.ls))) (by rw [tv_len])) hzl H2 (Ex.refl H2) _ fun m H3 nm e3 hm => ⟨_, _, _, rfl, ?_⟩
    have nm0 : H m = none := fresh_back e2 nm
    have hT3 := hT2.mono e3
    have hS3 := ex_l e3 hS2
    refine q_cut (M := fun σ' H' => ∃ v4 : Option V, σ' = [some (.ref l), some (.int bench), some (.ref c), some (.int L), v4, some (.int L), some (.int (-1)), some (.ref m), none, none, none, none] ∧ Ex H H' ∧ H' m = some (.lst ((marks zs.length ap).map V.bl))) ?_ ?_
    · refine s_forLn (a := c) (xs := ap.map V.int) (ev_var rfl) hS3 (fun i σ' H' => ∃ v4 : Option V, σ' = [some (.ref l), some (.int bench), some (.ref c), some (.int L), v4, some (.int L), some (.int (-1)), some (.ref m), none, none, none, none] ∧ Ex H H' ∧ H' m = some (.lst ((marks zs.length (ap.take i)).map V.bl)))
        (fun H4 e4 => ⟨none, rfl, (e2.trans e3).trans e4, by rw [e4 _ _ hm, List.take_zero, marks_nil, List.map_replicate]⟩) (fun i σ' H' _ ⟨_, _, e', _⟩ => ex_l e' hS) ?_ ?_
      · rintro i x σ' H' hi ⟨v4, rfl, e', hm'⟩
        rw [List.getElem?_map] at hi
        cases hq : ap[i]? with
        | none => rw [hq] at hi; cases hi
        | some y =>
          rw [hq] at hi
          obtain rfl := Option.some.inj hi
          obtain ⟨g1, g2⟩ := hinn y (List.mem_of_getElem? hq)
          rw [ths_len] at g2
          obtain ⟨j, rfl⟩ : ∃ j : Nat, y = (j : Int) := ⟨y.toNat, by omega⟩
          refine s_setL (l := m) (j := j) hm' ev_c (ev_var rfl) (ev_var rfl) (by rw [List.length_map, marks_len]; omega) fun H4 e4 => ⟨_, rfl, Ex.mut (e'.trans e4) nm0, ?_⟩
          rw [upd_same, ← List.map_set, marks_set (by omega), List.take_add_one, hq]
          rfl
      · rintro σ' H' ⟨v4, rfl, e', hm'⟩
        rw [List.length_map, List.take_length] at hm'
        exact ⟨v4, rfl, e', hm'⟩
    rintro σ' H4 ⟨v4, rfl, e4, hm4⟩
    clear hT2 hS2 hT3 hS3 hm nm e2 e3 H2 H3
    have hT4 := hT.mono e4
    have hg : ∀ {i : Nat}, i < zs.length → (ths zs)[i]? = some ((ths zs).getD i th0) := fun h => getD_some (by rw [ths_len]; exact h)
    -- the things, one by one
    refine q_forZ (a := m) (b := l) (ea_cons (ev_var rfl) (ea_cons (ev_var rfl) ea_nil)) (sq_of hm4) hT4.ls (by rw [List.length_map, marks_len, tv_len]) (fun i σ' H' => ∃ v4 v8 v9 v10 v11 : Option V, σ' = [some (.ref l), some (.int bench), some (.ref c), some (.int L), v4, some (.int (L + Wsum (facingAt (ths zs) bench (mkOf ap) (List.range i)))), some (.int (lng (ths zs) bench (mkOf ap) i)), some (.ref m), v8, v9, v10, v11] ∧ Ex H4 H' ∧
        ∀ e, e < i → (mkOf ap e = true → hereOf bench ((ths zs).getD e th0) ≤ thereOf bench ((ths zs).getD e th0)) ∧ (mkOf ap e = false → hereOf bench ((ths zs).getD e th0) + ((ths zs).getD e th0).2.1 < L → thereOf bench ((ths zs).getD e th0) ≤ hereOf bench ((ths zs).getD e th0)))
      (fun H5 e5 => ⟨v4, none, none, none, none, by rw [show Wsum (facingAt (ths zs) bench (mkOf ap) (List.range 0)) = 0 from rfl, Int.add_zero]; rfl, e5, fun e he => absurd he (Nat.not_lt_zero _)⟩) (fun i σ' H' _ ⟨_, _, _, _, _, _, e', _⟩ => ⟨sq_of (e' _ _ hm4), ex_l e' hT4.ls⟩) ?_ ?_
    · rintro i x y t σ' H' hx hy ⟨v4, v8, v9, v10, v11, rfl, e', good⟩ nt
      obtain ⟨hin, rfl⟩ := marks_get hx
      obtain ⟨z, hz, hzt, hzv⟩ := things_at hT4 hin
      obtain rfl : y = .ref z.1 := Option.some.inj (hy.symm.trans hzv)
      have e5 : Ex H4 (upd H' t (.tup [.bl (mkOf ap i), .ref z.1])) := e'.trans (Ex.new nt)
      refine ⟨t, _, rfl, st_of upd_same, rfl, _, _, rfl, _, _, rfl, rfl, ?_⟩
      generalize upd H' t (.tup [.bl (mkOf ap i), .ref z.1]) = H5 at e5
      have hzT : ∀ {H6}, Ex H5 H6 → SqT K H6 z.1 (iv z.2) := fun e => ex_t (e5.trans e) (hT4.it z (List.mem_of_getElem? hz))
      have e04 : Ex H H5 := e4.trans e5
      refine q_par (u := .int (hereOf bench z.2)) (v := .int (thereOf bench z.2)) (ea_cons (ev_op (ev_var rfl) (ev_op (ev_op ev_c (ev_var rfl) (rv_I (.inl (by decide)))) ev_c rv_I0) (rv_ixT (hzT (Ex.refl _)) (here_at hbench z.2))) (ea_cons (ev_op (ev_var rfl) (ev_op ev_c (ev_op ev_c (ev_var rfl) (rv_I (.inl (by decide)))) rv_I0) (rv_ixT (hzT (Ex.refl _)) (there_at hbench z.2))) ea_nil)) fun H6 e6 => ?_
      refine q_when (b := mkOf ap i && decide (thereOf bench z.2 < hereOf bench z.2)) (et_and (et_B (ev_var rfl)) fun _ => et_test (ev_op (ev_var rfl) (ev_var rfl) rv_I0)) (fun hb H7 e7 => ?_) (fun hb1 H7 e7 => ?_)
      · refine s_ret (ev_un ev_c ru_neg) fun H8 e8 => no (fun hB => ?_) H8 (((e04.trans e6).trans e7).trans e8)
        obtain ⟨b1, b2⟩ := Bool.and_eq_true_iff.mp hb
        have := hB.ok.own i _ (hg hin) b1
        rw [hzt] at this
        have := of_decide_eq_true b2
        omega
      refine q_when (b := !mkOf ap i && (decide (hereOf bench z.2 + z.2.2.1 < L) && decide (hereOf bench z.2 < thereOf bench z.2))) (et_and (et_not (et_B (ev_var rfl))) fun _ => et_and (et_test (ev_op (ev_op (ev_var rfl) (ev_op (ev_var rfl) ev_c (rv_ixT (hzT (e6.trans e7)) (atI_nat (j := 1) rfl))) rv_I0) (ev_var rfl) rv_I0)) fun _ => et_test (ev_op (ev_var rfl) (ev_var rfl) rv_I0)) (fun hb H8 e8 => ?_) (fun hb2 H8 e8 => ?_)
      · refine s_ret (ev_un ev_c ru_neg) fun H9 e9 => no (fun hB => ?_) H9 ((((e04.trans e6).trans e7).trans e8).trans e9)
        obtain ⟨b1, b2⟩ := Bool.and_eq_true_iff.mp hb
        obtain ⟨b3, b4⟩ := Bool.and_eq_true_iff.mp b2
        have := hB.ok.oth i _ (hg hin) (by simpa using b1) (by rw [hzt]; exact of_decide_eq_true b3)
        rw [hzt] at this
        have := of_decide_eq_true b4
        omega
      have e68 := (e6.trans e7).trans e8
      refine q_cut (M := fun σ2 H2 => ∃ v4 v8 v9 v10 v11 : Option V, σ2 = [some (.ref l), some (.int bench), some (.ref c), some (.int L), v4, some (.int (L + Wsum (facingAt (ths zs) bench (mkOf ap) (List.range i)))), some (.int (lng (ths zs) bench (mkOf ap) (i + 1))), some (.ref m), some (.bl (mkOf ap i)), v9, some (.int (hereOf bench z.2)), some (.int (thereOf bench z.2))] ∧ Ex H5 H2) ?_ ?_
      · refine s_when (b := !mkOf ap i) (et_not (et_B (ev_var rfl))) (fun hb H9 e9 => ?_) (fun hb H9 e9 => ⟨v4, none, some (.ref z.1), none, none, ?_, e68.trans e9⟩)
        · refine s_asg (ev_cb (r := rMax2) (ea_cons (ev_var rfl) (ea_cons (ev_op (ev_var rfl) (ev_op (ev_var rfl) ev_c (rv_ixT (hzT (e68.trans e9)) (atI_nat (j := 1) rfl))) rv_I0) ea_nil)) fun H1 e Q q => ⟨_, _, rfl, q H1 (Ex.refl H1)⟩) fun H10 e10 => ⟨v4, none, some (.ref z.1), none, none, ?_, (e68.trans e9).trans e10⟩
          have hm0 : mkOf ap i = false := by simpa using hb
          rw [lng_succ, hm0, hzt]
          simp only [Bool.false_eq_true, if_false]
          rw [← max_py]
          rfl
        · have hm0 : mkOf ap i = true := by simpa using hb
          rw [lng_succ, hm0]
          rfl
      rintro σ2 H9 ⟨w4, w8, w9, w10, w11, rfl, e9⟩
      refine s_asg (ev_op (ev_var rfl) (ev_if (v := .int (if mkOf ap i then hereOf bench z.2 else thereOf bench z.2)) (et_B (ev_var rfl)) (fun hb => by rw [hb]; exact ev_var rfl) (fun hb => by rw [hb]; exact ev_var rfl)) rv_I0) fun H10 e10 => ⟨w4, some (.bl (mkOf ap i)), w9, some (.int (hereOf bench z.2)), some (.int (thereOf bench z.2)), ?_, (e5.trans e9).trans e10, fun e he => ?_⟩
      · rw [Wsum_range, hzt, ← Int.add_assoc]
        rfl
      · rcases Nat.lt_or_ge e i with h | h
        · exact good e h
        · obtain rfl : e = i := by omega
          rw [hzt]
          refine ⟨fun b1 => ?_, fun b1 b2 => ?_⟩
          · rw [b1, Bool.true_and] at hb1
            have := of_decide_eq_false hb1
            omega
          · rw [b1, decide_eq_true b2] at hb2
            have : decide (hereOf bench z.2 < thereOf bench z.2) = false := by simpa using hb2
            have := of_decide_eq_false this
            omega
    rintro σ' H5 ⟨v4, v8, v9, v10, v11, rfl, e5, good⟩
    rw [List.length_map, marks_len] at good ⊢
    have e05 : Ex H H5 := e4.trans e5
    refine s_ret (v := .int (lawW (ths zs) bench ap L)) (ev_if (b := decide (V.int L = V.int 0) || decide (L ≤ lng (ths zs) bench (mkOf ap) zs.length)) (et_or (et_test (ev_op (ev_var rfl) ev_c (rv_eq rfl))) fun _ => et_test (ev_op (ev_var rfl) (ev_var rfl) rv_I0)) (fun hb => ev_is (ev_var rfl) ?_) (fun hb => ev_is (ev_un ev_c ru_neg) ?_)) fun H6 e6 => k.go (e05.trans e6)
    · have hB : BarW (ths zs) bench ap L := by
        refine ⟨hbench, hrise, hinn, hL, fun e t he b1 => ?_, fun e t he b1 b2 => ?_, ?_⟩
        · have hel := (List.getElem?_eq_some_iff.mp he).1
          rw [ths_len] at hel
          have et : (ths zs).getD e th0 = t := Option.some.inj ((hg hel).symm.trans he)
          have := (good e hel).1 b1
          rwa [et] at this
        · have hel := (List.getElem?_eq_some_iff.mp he).1
          rw [ths_len] at hel
          have et : (ths zs).getD e th0 = t := Option.some.inj ((hg hel).symm.trans he)
          have := (good e hel).2 b1
          rw [et] at this
          exact this b2
        · rcases Bool.or_eq_true_iff.mp hb with h | h
          · exact .inr (V.int.inj (of_decide_eq_true h))
          · obtain ⟨e, h1, h2, h3⟩ := (lng_ge hL zs.length).mp (of_decide_eq_true h)
            exact .inl ⟨e, _, hg h1, h2, h3⟩
      rw [lawW_yes hB]
      unfold barWorth
      rw [ths_len]
    · refine congrArg V.int (lawW_no fun hB => ?_).symm
      obtain ⟨h1, h2⟩ := Bool.or_eq_false_iff.mp hb
      rcases hB.ok.some_ with ⟨e, t, he, b1, b2⟩ | h0
      · have hel := (List.getElem?_eq_some_iff.mp he).1
        rw [ths_len] at hel
        have et : (ths zs).getD e th0 = t := Option.some.inj ((hg hel).symm.trans he)
        exact of_decide_eq_false h2 ((lng_ge hL zs.length).mpr ⟨e, hel, b1, by rw [et]; exact b2⟩)
      · exact of_decide_eq_false h1 (by rw [h0])
end
end Bp
namespace Bp
open PySem L2 Evl
/-! ### answers made by hand -/
section
variable {K : PySem.W.Frag} {σ : L2.St} {H : Hp} {Q : VK} {ta : TA}
theorem mk_So {C a b : Addr} {xs ys : List V} {bench L : Int} (h : EvA ta σ H [.ref a, .int bench, .ref b, .int L]) (hA : SqL K H a xs) (hB : SqL K H b ys)
    (k : ∀ (x o c : Addr) (H2 : Hp), Ex H H2 → H x = none → H o = none → H c = none → o ≠ c → (∃ dx, H2 x = some (.ins C dx (fSo o bench c L))) → H2 o = some (.lst xs) → H2 c = some (.lst ys) → Q (.ref x) H2) : tMake C (spInitSo K C) [] E0 ta σ H Q := h H (Ex.refl H) _ fun H1 e1 x dx nx ndx nex => by
  have eN : Ex H1 (upd (upd H1 dx (.own x)) x (.ins C dx [])) := (Ex.new ndx).trans (Ex.new (by rw [upd_ne nex.symm]; exact nx))
  exact ⟨x, dx, a, b, xs, ys, bench, L, rfl, upd_same, ex_l (e1.trans eN) hA, ex_l (e1.trans eN) hB, fun o c H2 no nc noc hb hx ho hc => ⟨rfl, k x o c H2 (Exb.ex (e1.trans eN) hb (fresh_back e1 nx)) (fresh_back e1 nx) (fresh_back (e1.trans eN) no) (fresh_back (e1.trans eN) nc) noc ⟨dx, hx⟩ ho hc⟩⟩
theorem mk_Wi {C a : Addr} {xs : List V} (h : EvA ta σ H [.ref a]) (hA : SqL K H a xs)
    (k : ∀ (x o : Addr) (H2 : Hp), Ex H H2 → H x = none → H o = none → (∃ dx, H2 x = some (.ins C dx (fWi o))) → H2 o = some (.lst xs) → Q (.ref x) H2) : tMake C (spInitWi K C) [] E0 ta σ H Q := h H (Ex.refl H) _ fun H1 e1 x dx nx ndx nex => by
  have eN : Ex H1 (upd (upd H1 dx (.own x)) x (.ins C dx [])) := (Ex.new ndx).trans (Ex.new (by rw [upd_ne nex.symm]; exact nx))
  exact ⟨x, dx, a, xs, rfl, upd_same, ex_l (e1.trans eN) hA, fun o H2 no hb hx ho => ⟨rfl, k x o H2 (Exb.ex (e1.trans eN) hb (fresh_back e1 nx)) (fresh_back e1 nx) (fresh_back (e1.trans eN) no) ⟨dx, hx⟩ ho⟩⟩
theorem mk_Ne {C b : Addr} {ys : List V} {bench L : Int} (h : EvA ta σ H [.int bench, .ref b, .int L]) (hB : SqL K H b ys)
    (k : ∀ (x c : Addr) (H2 : Hp), Ex H H2 → H x = none → H c = none → (∃ dx, H2 x = some (.ins C dx (fNe bench c L))) → H2 c = some (.lst ys) → Q (.ref x) H2) : tMake C (spInitNe K C) [] E0 ta σ H Q := h H (Ex.refl H) _ fun H1 e1 x dx nx ndx nex => by
  have eN : Ex H1 (upd (upd H1 dx (.own x)) x (.ins C dx [])) := (Ex.new ndx).trans (Ex.new (by rw [upd_ne nex.symm]; exact nx))
  exact ⟨x, dx, b, ys, bench, L, rfl, upd_same, ex_l (e1.trans eN) hB, fun c H2 nc hb hx hc => ⟨rfl, k x c H2 (Exb.ex (e1.trans eN) hb (fresh_back e1 nx)) (fresh_back e1 nx) (fresh_back (e1.trans eN) nc) ⟨dx, hx⟩ hc⟩⟩
theorem dpx_ints {b : Addr} {is : List Int} (h : SqL K H b (is.map V.int)) : DpX K H (.ref b) (.list (is.map PyData.int)) := fun H1 e => .lst (ex_l e h) (dpAll_ints is)
theorem ty_bl {b : Bool} : ∀ H1, Ex H H1 → TyX K H1 (.bl b) (.type "bool") := fun _ _ => .base (.bl b)
end
theorem seqIx {j n : Nat} (h : j < n) : PySem.seqIndex? (j : Int) n = some j := by
  unfold PySem.seqIndex?
  have h1 : ¬ ((j : Int) < 0) := by omega
  simp only [h1, if_false]
  have h2 : (decide (0 ≤ (j : Int)) && decide ((j : Int) < (n : Int))) = true := by
    rw [decide_eq_true (by omega), decide_eq_true (by omega)]
    rfl
  rw [h2]
  rfl
theorem map_erase {α β : Type} (f : α → β) : ∀ (l : List α) (i : Nat), (l.map f).eraseIdx i = (l.eraseIdx i).map f
  | [], _ => rfl
  | _ :: _, 0 => rfl
  | x :: l, i + 1 => by
    rw [List.map_cons, List.eraseIdx_cons_succ, List.eraseIdx_cons_succ, List.map_cons, map_erase f l i]
/-- the law's own judges -/
structure Jks (K : PySem.W.Frag) (mg : Str → Option Value) (P : Program) (w : World) (base : Heap) (fO fB fM fW : Addr) (dO dB dM dW : FuncData) : Prop where
  gO : mg "_law_order" = some (.ref fO)
  FO : Fun K "_law_order" "_law_order" sLorder fO dO
  bO : Binds K dO ["_law_things_here", "_law_order_here"] []
  GO : FnOk P w K mg base CX0 2 fO dO ["_law_things_here", "_law_order_here"] (spLorder K)
  gB : mg "_law_worth" = some (.ref fB)
  FB : Fun K "_law_worth" "_law_worth" sLworth fB dB
  bB : Binds K dB pLworth []
  GB : FnOk P w K mg base CX0 1 fB dB pLworth (spLworth K)
  gM : mg "_law_done" = some (.ref fM)
  FM : Fun K "_law_done" "_law_done" sLdone fM dM
  bM : Binds K dM ["_law_things_here", "_law_order_here"] []
  GM : FnOk P w K mg base CX0 1 fM dM ["_law_things_here", "_law_order_here"] (spLdone K)
  gW : mg "_law_whole" = some (.ref fW)
  FW : Fun K "_law_whole" "_law_whole" sLwhole fW dW
  bW : Binds K dW ["_law_number"] []
  GW : FnOk P w K mg base CX0 1 fW dW ["_law_number"] spWhole
theorem ld_path {ts : List Th} (hn : ∀ t ∈ ts, Nn t) (o : List Nat) : ((path ts o).foldl ldS (0, B (path ts o), 0)).2.2 = W (path ts o) := ld_W (path_nn hn o)
def spSays : Sp := fun vs H Q _ => ∃ a b : Bool, vs = [.bl a, .bl b] ∧ RetV (.bl (decide (a = b))) H Q
def spBent (K : PySem.W.Frag) : Sp := fun vs H Q _ => ∃ (a : Addr) (is : List Int) (c : Int) (n : Nat), vs = [.ref a, .int c, .int (n : Int)] ∧ SqL K H a (is.map V.int) ∧ is.length ≤ 500 ∧ ∀ (l : Addr) (js : List Int) (H' : Hp), Ex H H' → H l = none → H' l = some (.lst (js.map V.int)) → js.length ≤ is.length + 1 → Q (.ref l) H'
section
variable {P : Program} {w : World} {K : PySem.W.Frag} {mg : Str → Option Value} {base : Heap}
theorem scSays : FnScope ["_law_said", "_law_due"] ["_law_said", "_law_due"] (defScope sSays) := ⟨rfl, rfl, rfl, by decide +kernel, rfl, by decide +kernel, by decide +kernel⟩
theorem ok_says {f : Addr} {fd : FuncData} (F : Fun K "_law_says" "_law_says" sSays f fd) (T : Bn mg) : FnOk P w K mg base CX0 1 f fd ["_law_said", "_law_due"] spSays := by
  refine F.ok scSays (fun vs H Q E h => ?_) (fun cdv Ar outer s H vs Q E hr h => ?_)
  · obtain ⟨a, b, rfl, _⟩ := h
    rfl
  · obtain ⟨a, b, rfl, k⟩ := h
    refine ⟨_, pss_one (ps_ret (pe_and (pe_callB call_isi (by rfl) T.isi (by decide +kernel) (pa_cons (pv 0) (pa_cons (pe_bltn (v := .ty "bool") (by rfl) T.bool PyProof.Rows.boot_bool rfl) pa_nil))) (pe_one (pe_cmpR op_eq (pv 0) (pv 1) (nomark _))))), ?_⟩
    refine s_ret (v := .bl (decide (a = b))) (ev_is (ev_andV (ev_cb (ea_cons (ev_var rfl) (ea_cons ev_c ea_nil)) (rc_isi ty_bl (b := true) (by decide +kernel))) fun _ => ev_op (ev_var rfl) (ev_var rfl) (rv_eq rfl)) ?_) fun H1 e => k.go e
    cases a <;> cases b <;> rfl
abbrev nBent : List Str := ["_law_some", "_law_cell", "_law_many", "_law_kind", "_law_size", "_law_strange", "_law_at", "_law_other", "_law_found"]
theorem scBent : FnScope nBent ["_law_some", "_law_cell", "_law_many"] (defScope sBent) := ⟨rfl, rfl, rfl, by decide +kernel, rfl, by decide +kernel, by decide +kernel⟩
theorem ok_bent {f fD : Addr} {fd dD : FuncData} (F : Fun K "_law_bent" "_law_bent" sBent f fd) (T : Bn mg) (T2 : Bn2 mg) (gD : mg "_law_draw" = some (.ref fD)) (FD : Fun K "_law_draw" "_law_draw" sDraw fD dD) (bD : Binds K dD ["_law_cell", "_law_k", "_law_many"] []) (GD : FnOk P w K mg base CX0 1 fD dD ["_law_cell", "_law_k", "_law_many"] spDraw) : FnOk P w K mg base CX0 2 f fd ["_law_some", "_law_cell", "_law_many"] (spBent K) := by
  refine F.ok scBent (fun vs H Q E h => ?_) (fun cdv Ar outer s H vs Q E hr h => ?_)
  · obtain ⟨a, is, c, n, rfl, _⟩ := h
    rfl
  · obtain ⟨a, is, c, n, rfl, hS, hz, k⟩ := h
    refine ⟨_, pss_cons (ps_par3 (i := 3) (j := 4) (l := 5) rfl scBent.nd rfl rfl rfl (by decide) (by decide) (by decide) rfl rfl rfl (pa_cons (pe_call GD hr (by rfl) gD FD.kp bD .nil pass0 (pa_cons (pv 1) (pa_cons pe_int (pa_cons pe_int pa_nil)))) (pa_cons (pe_callB call_len_seq (by rfl) T.len PySem.boot_len (pa_cons (pv 0) pa_nil)) (pa_cons (pe_op op_sub (pe_call GD hr (by rfl) gD FD.kp bD .nil pass0 (pa_cons (pv 1) (pa_cons pe_int (pa_cons (pe_op op_add (pv 2) pe_int) pa_nil)))) pe_int) pa_nil))) (by rfl))
      (pss_cons (ps_if (pt_cmpR op_eq (pv 4) pe_int (nomark _)) (pss_one (ps_ret (pe_ifExp (pt_cmpR op_lt (pv 3) pe_int (nomark _)) (pe_lst (pa_cons (pv 5) pa_nil)) (pe_lst pa_nil)))) pss_nil)
      (pss_cons (ps_par3 (i := 6) (j := 7) (l := 8) rfl scBent.nd rfl rfl rfl (by decide) (by decide) (by decide) rfl rfl rfl (pa_cons (pe_call GD hr (by rfl) gD FD.kp bD .nil pass0 (pa_cons (pv 1) (pa_cons pe_int (pa_cons (pv 4) pa_nil)))) (pa_cons (pe_call GD hr (by rfl) gD FD.kp bD .nil pass0 (pa_cons (pv 1) (pa_cons pe_int (pa_cons (pv 4) pa_nil)))) (pa_cons (pe_callTy call_list_of (by rfl) T.list PyProof.Rows.boot_list (pa_cons (pv 0) pa_nil)) pa_nil))) (by rfl))
      (pss_cut (ps_if (pt_cmpR op_eq (pv 3) pe_int (nomark _)) (pss_one (ps_asg (pe_tup (pa_cons (pe_ix ix_list (pv 8) (pv 7) (fun _ _ => rfl)) (pa_cons (pe_ix ix_list (pv 8) (pv 6) (fun _ _ => rfl)) pa_nil))) (pg_tup rfl (pgs_cons (pg_sub (pv 8) (pv 6) set_list) (pgs_cons (pg_sub (pv 8) (pv 7) set_list) pgs_nil))))) pss_nil)
      (pss_cut (ps_if (pt_cmpR op_eq (pv 3) pe_int (nomark _)) (pss_one (ps_expr (pe_bm PySem.F.plainAttrs_list PySem.F.slot_list_pop PySem.F.type_list_pop mt_popAt (pv 8) (pa_cons (pv 6) pa_nil)))) pss_nil)
      (pss_cut (ps_if (pt_cmpR op_eq (pv 3) pe_int (nomark _)) (pss_one (ps_expr (pe_bm PySem.F.plainAttrs_list PySem.F.slot_list_insert PySem.F.type_list_insert mt_insert (pv 8) (pa_cons (pv 6) (pa_cons (pv 5) pa_nil))))) pss_nil)
      (pss_cut (ps_if (pt_cmpR op_eq (pv 3) pe_int (nomark _)) (pss_one (ps_asg (pv 5) (pg_sub (pv 8) (pv 6) set_list))) pss_nil)
      (pss_cons (ps_if (pt_cmpR op_eq (pv 3) pe_int (nomark _)) (pss_one (ps_ret (pe_callB (BpS.cr_sortA rfl) (by rfl) T2.sorted (by decide +kernel) (pa_cons (pe_callTy (BpS.cr_setL rfl) (by rfl) T2.set (by decide +kernel) (pa_cons (pe_op op_cat (pv 8) (pe_lst (pa_cons (pv 5) pa_nil))) pa_nil)) pa_nil)))) pss_nil)
      (pss_cons (ps_if (pt_cmpR op_eq (pv 3) pe_int (nomark _)) (pss_one (ps_ret (pe_revL (pv 8)))) pss_nil)
      (pss_one (ps_ret (pv 8))))))))))), ?_⟩
    have drawv : ∀ {σ : L2.St} {H2 : Hp} {t1 t2 t3 : TE} {x y z : Int}, 0 < z → Ev t1 σ H2 (.int x) → Ev t2 σ H2 (.int y) → Ev t3 σ H2 (.int z) → Ev (tCall spDraw [] E0 (tCons t1 (tCons t2 (tCons t3 tNil)))) σ H2 (.int (drawF x y z)) := fun hp h1 h2 h3 =>
      ev_call (ea_cons h1 (ea_cons h2 (ea_cons h3 ea_nil))) fun H3 e3 Q q E => ⟨_, _, _, rfl, hp, q⟩
    refine q_par3 (u := .int (drawF c 1 8)) (v := .int (is.length : Int)) (w := .int (drawF c 2 ((n : Int) + 2) - 1)) (ea_cons (drawv (by decide) (ev_var rfl) ev_c ev_c) (ea_cons (ev_is (ev_cb (ea_cons (ev_var rfl) ea_nil) (rc_lenL hS)) (by rw [List.length_map])) (ea_cons (ev_op (drawv (by omega) (ev_var rfl) ev_c (ev_op (ev_var rfl) ev_c rv_I0)) ev_c rv_I0) ea_nil))) fun H1 e1 => ?_
    generalize drawF c 1 8 = kind
    generalize drawF c 2 ((n : Int) + 2) - 1 = strange
    refine q_when (et_test (ev_op (ev_var rfl) ev_c (rv_eq rfl))) (fun hb H2 e2 => ?_) (fun hb H2 e2 => ?_)
    · have e12 := e1.trans e2
      have key : ∀ b : Bool, EvT (tTest (tOp (rI0 fun i j => .bl (decide (i < j))) (tVar 3) (tC (.int 4)))) [some (.ref a), some (.int c), some (.int (n : Int)), some (.int kind), some (.int (is.length : Int)), some (.int strange), none, none, none] H2 (decide (kind < 4)) := fun _ => et_test (ev_op (ev_var rfl) ev_c rv_I0)
      refine key true H2 (Ex.refl _) _ fun H3 e3 => ?_
      cases hk : decide (kind < 4) with
      | true =>
        refine iteT ?_
        refine ⟨_, rfl, (by show 1 ≤ sizeLine; decide), fun p np => ?_⟩
        exact k p [strange] _ ((e12.trans e3).trans (Ex.new np)) (fresh_back (e12.trans e3) np) upd_same (by show 1 ≤ is.length + 1; omega)
      | false =>
        refine iteF ?_
        refine ⟨(by show 0 ≤ sizeLine; decide), fun p np => ?_⟩
        exact k p [] _ ((e12.trans e3).trans (Ex.new np)) (fresh_back (e12.trans e3) np) upd_same (Nat.zero_le _)
    have hne : is.length ≠ 0 := fun e => by
      have := of_decide_eq_false hb
      rw [e] at this
      exact this rfl
    have hpos : (0 : Int) < (is.length : Int) := by omega
    have e12 := e1.trans e2
    have hd3 := drawF_lt (c := c) (k := 3) hpos
    have hd4 := drawF_lt (c := c) (k := 4) hpos
    refine (drawv hpos (ev_var rfl) ev_c (ev_var rfl)) H2 (Ex.refl _) _ fun H3 e3 => (drawv hpos (ev_var rfl) ev_c (ev_var rfl)) H3 (Ex.refl _) _ fun H4 e4 => ?_
    obtain ⟨at1, hat⟩ : ∃ j : Nat, drawF c 3 (is.length : Int) = (j : Int) := ⟨(drawF c 3 (is.length : Int)).toNat, by omega⟩
    obtain ⟨oth, hoth⟩ : ∃ j : Nat, drawF c 4 (is.length : Int) = (j : Int) := ⟨(drawF c 4 (is.length : Int)).toNat, by omega⟩
    rw [hat] at hd3
    rw [hoth] at hd4
    rw [hat, hoth]
    have e14 := (e12.trans e3).trans e4
    refine ⟨.ref a, rfl, a, is.map V.int, rfl, .inl (ex_l e14 hS), fun l nl => ⟨_, _, _, rfl, ?_⟩⟩
    have nl0 : H l = none := fresh_back e14 nl
    have hl0 : (upd H4 l (.lst (is.map V.int))) l = some (.lst (is.map V.int)) := upd_same
    have e0 : Ex H (upd H4 l (.lst (is.map V.int))) := e14.trans (Ex.new nl)
    generalize upd H4 l (.lst (is.map V.int)) = H5 at hl0 e0
    clear e1 e2 e3 e4 e12 e14 nl hb
    -- two exchanged
    refine q_cut (M := fun σ' H' => σ' = [some (.ref a), some (.int c), some (.int (n : Int)), some (.int kind), some (.int (is.length : Int)), some (.int strange), some (.int (at1 : Int)), some (.int (oth : Int)), some (.ref l)] ∧ Ex H H' ∧ ∃ js : List Int, H' l = some (.lst (js.map V.int)) ∧ js.length = is.length) ?_ ?_
    · refine s_when (et_test (ev_op (ev_var rfl) ev_c (rv_eq rfl))) (fun hb H6 e6 => ?_) (fun hb H6 e6 => ⟨rfl, e0.trans e6, is, e6 _ _ hl0, rfl⟩)
      have hl6 := e6 _ _ hl0
      have g1 : (is.map V.int)[oth]? = some (.int (is.getD oth 0)) := by
        rw [List.getElem?_map, List.getElem?_eq_getElem (by omega), List.getD_eq_getElem?_getD, List.getElem?_eq_getElem (by omega)]
        rfl
      have g2 : (is.map V.int)[at1]? = some (.int (is.getD at1 0)) := by
        rw [List.getElem?_map, List.getElem?_eq_getElem (by omega), List.getD_eq_getElem?_getD, List.getElem?_eq_getElem (by omega)]
        rfl
      refine ⟨.ref l, rfl, .int (oth : Int), rfl, l, _, _, _, rfl, rfl, sq_of hl6, atI_nat g1, .ref l, rfl, .int (at1 : Int), rfl, l, _, _, _, rfl, rfl, sq_of hl6, atI_nat g2, (by show 2 ≤ sizeLine; decide), fun p np => ?_⟩
      have npl : l ≠ p := ne_of_none hl6 np
      have hp : (upd H6 p (.tup [.int (is.getD oth 0), .int (is.getD at1 0)])) p = some (.tup [.int (is.getD oth 0), .int (is.getD at1 0)]) := upd_same
      have hl7 := Ex.new (o := .tup [.int (is.getD oth 0), .int (is.getD at1 0)]) np _ _ hl6
      have e7 := e6.trans (Ex.new (o := .tup [.int (is.getD oth 0), .int (is.getD at1 0)]) np)
      generalize upd H6 p (.tup [.int (is.getD oth 0), .int (is.getD at1 0)]) = H7 at hp hl7 e7
      refine ⟨p, _, rfl, st_of hp, rfl, _, _, rfl, .ref l, rfl, .int (at1 : Int), rfl, l, _, (at1 : Int), at1, rfl, rfl, hl7, ixN_nat (by rw [List.length_map]; omega), _, _, rfl, .ref l, rfl, .int (oth : Int), rfl, l, _, (oth : Int), oth, rfl, rfl, upd_same, ixN_nat (by rw [List.length_set, List.length_map]; omega), rfl, rfl, ?_, (is.set at1 (is.getD oth 0)).set oth (is.getD at1 0), ?_, ?_⟩
      · exact Ex.mut (Ex.mut (e0.trans e7) nl0) nl0
      · rw [upd_same, List.map_set, List.map_set]
      · rw [List.length_set, List.length_set]
    rintro σ' H6 ⟨rfl, e6, js, hl6, hj⟩
    -- one left out
    refine q_cut (M := fun σ' H' => σ' = [some (.ref a), some (.int c), some (.int (n : Int)), some (.int kind), some (.int (is.length : Int)), some (.int strange), some (.int (at1 : Int)), some (.int (oth : Int)), some (.ref l)] ∧ Ex H H' ∧ ∃ js : List Int, H' l = some (.lst (js.map V.int)) ∧ js.length ≤ is.length ∧ (kind ≠ 1 → js.length = is.length)) ?_ ?_
    · refine s_when (et_test (ev_op (ev_var rfl) ev_c (rv_eq rfl))) (fun hb H7 e7 => ?_) (fun hb H7 e7 => ⟨rfl, e6.trans e7, js, e7 _ _ hl6, by omega, fun _ => hj⟩)
      have hk : kind = 1 := V.int.inj (of_decide_eq_true hb)
      have hl7 := e7 _ _ hl6
      obtain ⟨y, hy⟩ : ∃ y, (js.map V.int)[at1]? = some y := ⟨_, List.getElem?_eq_getElem (by rw [List.length_map]; omega)⟩
      refine ⟨.ref l, rfl, Or.inl ⟨rfl, _, sq_of hl7⟩, .int (at1 : Int), rfl, l, _, (at1 : Int), at1, y, rfl, rfl, hl7, by omega, by omega, ?_, hy, rfl, Ex.mut (e6.trans e7) nl0, js.eraseIdx at1, ?_, ?_, fun h => absurd hk h⟩
      · exact seqIx (by rw [List.length_map]; omega)
      · rw [upd_same, map_erase]
      · rw [List.length_eraseIdx]
        split <;> omega
    rintro σ' H7 ⟨rfl, e7, js, hl7, hj, hj1⟩
    -- one put in
    refine q_cut (M := fun σ' H' => σ' = [some (.ref a), some (.int c), some (.int (n : Int)), some (.int kind), some (.int (is.length : Int)), some (.int strange), some (.int (at1 : Int)), some (.int (oth : Int)), some (.ref l)] ∧ Ex H H' ∧ ∃ js : List Int, H' l = some (.lst (js.map V.int)) ∧ js.length ≤ is.length + 1 ∧ (kind ≠ 1 → kind ≠ 2 → js.length = is.length) ∧ (kind ≠ 2 → js.length ≤ is.length)) ?_ ?_
    · refine s_when (et_test (ev_op (ev_var rfl) ev_c (rv_eq rfl))) (fun hb H8 e8 => ?_) (fun hb H8 e8 => ⟨rfl, e7.trans e8, js, e8 _ _ hl7, by omega, fun h _ => hj1 h, fun _ => hj⟩)
      have hk : kind = 2 := V.int.inj (of_decide_eq_true hb)
      have hl8 := e8 _ _ hl7
      refine ⟨.ref l, rfl, Or.inl ⟨rfl, _, sq_of hl8⟩, .int (at1 : Int), rfl, .int strange, rfl, l, _, (at1 : Int), .int strange, rfl, rfl, hl8, ?_, by omega, by omega, rfl, Ex.mut (e7.trans e8) nl0, js.take at1 ++ [strange] ++ js.drop at1, ?_, ?_, fun _ h => absurd hk h, fun h => absurd hk h⟩
      · rw [List.length_map]
        exact sz_lt (by omega)
      · rw [upd_same, Int.toNat_natCast, List.map_append, List.map_append, List.map_take, List.map_drop]
        rfl
      · rw [List.length_append, List.length_append, List.length_take, List.length_drop]
        show min at1 js.length + 1 + (js.length - at1) ≤ is.length + 1
        omega
    rintro σ' H8 ⟨rfl, e8, js, hl8, hj, hj1, hj2⟩
    -- one in its place
    refine q_cut (M := fun σ' H' => σ' = [some (.ref a), some (.int c), some (.int (n : Int)), some (.int kind), some (.int (is.length : Int)), some (.int strange), some (.int (at1 : Int)), some (.int (oth : Int)), some (.ref l)] ∧ Ex H H' ∧ ∃ js : List Int, H' l = some (.lst (js.map V.int)) ∧ js.length ≤ is.length + 1 ∧ (kind ≠ 2 → js.length ≤ is.length)) ?_ ?_
    · refine s_when (et_test (ev_op (ev_var rfl) ev_c (rv_eq rfl))) (fun hb H9 e9 => ?_) (fun hb H9 e9 => ⟨rfl, e8.trans e9, js, e9 _ _ hl8, by omega, hj2⟩)
      have hk : kind = 3 := V.int.inj (of_decide_eq_true hb)
      have hje := hj1 (by omega) (by omega)
      refine s_setL (l := l) (j := at1) (e9 _ _ hl8) (ev_var rfl) (ev_var rfl) (ev_var rfl) (by rw [List.length_map]; omega) fun H10 e10 => ⟨rfl, Ex.mut ((e8.trans e9).trans e10) nl0, js.set at1 strange, ?_, by rw [List.length_set]; exact hj, fun h => by rw [List.length_set]; exact hj2 h⟩
      rw [upd_same, List.map_set]
    rintro σ' H9 ⟨rfl, e9, js, hl9, hj, hj2⟩
    refine q_when (et_test (ev_op (ev_var rfl) ev_c (rv_eq rfl))) (fun hb H10 e10 => ?_) (fun hb H10 e10 => ?_)
    · have hk : kind = 4 := V.int.inj (of_decide_eq_true hb)
      have hj4 := hj2 (by omega)
      have e010 := e9.trans e10
      refine ⟨.ref l, rfl, _, rfl, (by show 1 ≤ sizeLine; decide), fun p np => ?_⟩
      have hl10 := Ex.new (o := .lst [.int strange]) np _ _ (e10 _ _ hl9)
      refine ⟨l, p, js.map V.int, [.int strange], rfl, rfl, hl10, upd_same, ?_, fun r nr => ⟨r, js ++ [strange], rfl, sq_of (by rw [upd_same, List.map_append]; rfl), ?_, fun s cnt hcnt ns => ⟨s, _, cnt, rfl, upd_same, ?_, fun ns' t hsort hmem hlen nt => ?_⟩⟩⟩
      · rw [List.length_map]
        exact sz_of (by show js.length + 1 ≤ 100000; omega)
      · rw [List.length_append]
        show js.length + 1 ≤ 1000
        omega
      · have : (js ++ [strange]).length = js.length + 1 := by rw [List.length_append]; rfl
        omega
      · have eN := ((e010.trans (Ex.new np)).trans (Ex.new nr)).trans (Ex.new (o := BpS.SetOx w s (js ++ [strange]) cnt) ns)
        refine k t ns' _ (eN.trans (Ex.new nt)) (fresh_back eN nt) upd_same ?_
        have : (js ++ [strange]).length = js.length + 1 := by rw [List.length_append]; rfl
        omega
    have e010 := e9.trans e10
    refine q_when (et_test (ev_op (ev_var rfl) ev_c (rv_eq rfl))) (fun hb2 H11 e11 => ?_) (fun hb2 H11 e11 => ?_)
    · refine s_retL (el_revL (ev_var rfl) (sq_of (e11 _ _ (e10 _ _ hl9)))) fun p H12 np e12 hp => ?_
      rw [← List.map_reverse] at hp
      exact k p js.reverse H12 ((e010.trans e11).trans e12) (fresh_back (e010.trans e11) np) hp (by rw [List.length_reverse]; exact hj)
    · exact s_ret (ev_var rfl) fun H12 e12 => k l js H12 ((e010.trans e11).trans e12) nl0 (e12 _ _ (e11 _ _ (e10 _ _ hl9))) hj
end
end Bp
namespace Bp
open PySem L2 Evl
def spRight (K : PySem.W.Frag) : Sp := fun vs H Q _ => ∃ (l b c : Addr) (zs : List (Addr × Th)) (is ap : List Int) (bench L : Int), vs = [.ref l, .ref b, .int bench, .ref c, .int L] ∧ Ths K H l zs ∧ SqL K H b (is.map V.int) ∧ SqL K H c (ap.map V.int) ∧ is.length ≤ 600 ∧ ap.length ≤ 600 ∧ RetV (.bl true) H Q
/-- what _law_right calls -/
structure Rks (K : PySem.W.Frag) (mg : Str → Option Value) (P : Program) (w : World) (base : Heap) (fS fI fJ fN fX fY fZ CS CW CN : Addr) (dS dI dJ dN dX dY dZ : FuncData) : Prop where
  gS : mg "_law_says" = some (.ref fS)
  FS : Fun K "_law_says" "_law_says" sSays fS dS
  bS : Binds K dS ["_law_said", "_law_due"] []
  GS : FnOk P w K mg base CX0 1 fS dS ["_law_said", "_law_due"] spSays
  mI : Mk K CS fI
  bI : Binds K dI ["self", "order", "bench", "apart", "length"] []
  GI : FnOk P w K mg base CX0 1 fI dI ["self", "order", "bench", "apart", "length"] (spInitSo K CS)
  mJ : Mk K CW fJ
  bJ : Binds K dJ ["self", "order"] []
  GJ : FnOk P w K mg base CX0 1 fJ dJ ["self", "order"] (spInitWi K CW)
  mN : Mk K CN fN
  bN : Binds K dN ["self", "bench", "apart", "length"] []
  GN : FnOk P w K mg base CX0 1 fN dN ["self", "bench", "apart", "length"] (spInitNe K CN)
  mX : Meth K CS "shows" fX
  bX : Binds K dX ["self", "things"] []
  GX : FnOk P w K mg base CX0 4 fX dX ["self", "things"] (spShowsSo K CS)
  mY : Meth K CW "shows" fY
  bY : Binds K dY ["self", "things", "time"] []
  GY : FnOk P w K mg base CX0 4 fY dY ["self", "things", "time"] (spShowsWi K CW)
  mZ : Meth K CN "shows" fZ
  bZ : Binds K dZ ["self", "things", "time"] []
  GZ : FnOk P w K mg base CX0 4 fZ dZ ["self", "things", "time"] (spShowsNe K CN)
abbrev nRight : List Str := ["_law_things_here", "_law_order_here", "_law_bench", "_law_apart", "_law_length", "_law_handed", "_law_one", "_law_other", "_law_third", "_law_worth_here", "_law_good", "_law_time", "_law_more"]
abbrev pRight : List Str := ["_law_things_here", "_law_order_here", "_law_bench", "_law_apart", "_law_length"]
theorem scRight : FnScope nRight pRight (defScope sRight) := ⟨rfl, rfl, rfl, by decide +kernel, rfl, by decide +kernel, by decide +kernel⟩
section
variable {P : Program} {w : World} {K : PySem.W.Frag} {mg : Str → Option Value} {base : Heap}
def right_pf {f fO fB fM fW fS fI fJ fN fX fY fZ CS CW CN : Addr} {dO dB dM dW dS dI dJ dN dX dY dZ : FuncData} (T : Bn mg) (NS : KSo K mg CS) (NW : KWi K mg CW) (NN : KNe K mg CN) (J : Jks K mg P w base fO fB fM fW dO dB dM dW) (R : Rks K mg P w base fS fI fJ fN fX fY fZ CS CW CN dS dI dJ dN dX dY dZ) {cdv : Value} {A : Around} {outer : List Env} {s : Shared} {H : Hp} {E : XK} (hr : Room 4 (A.deeper (PyProof.Rows.envOfC "_law_right" (defScope sRight) s.heap.objs.size f cdv))) :=
  show PSs (cxOf CX0 P w K mg base nRight "_law_right" (defScope sRight) f cdv A outer s H E).nox (defBody sRight) _ from
    pss_cons (ps_set (i := 5) scRight.nd rfl (Or.inl rfl) (pe_lst (pa_cons (pe_callTy call_list_of (by rfl) T.list PyProof.Rows.boot_list (pa_cons (pv 1) pa_nil)) (pa_cons (pe_callTy call_list_of (by rfl) T.list PyProof.Rows.boot_list (pa_cons (pv 3) pa_nil)) pa_nil))))
      (pss_cons (ps_par (i := 6) (j := 7) (by rfl) scRight.nd rfl rfl (by decide) rfl rfl (pa_cons (pe_make R.mI R.GI (hr.mono (by decide)) (by rfl) NS.mgC R.bI .nil pass0 (pa_cons (pe_ix ix_list (pv 5) pe_int (fun _ _ => rfl)) (pa_cons (pv 2) (pa_cons (pe_ix ix_list (pv 5) pe_int (fun _ _ => rfl)) (pa_cons (pv 4) pa_nil))))) (pa_cons (pe_make R.mJ R.GJ (hr.mono (by decide)) (by rfl) NW.mgC R.bJ .nil pass0 (pa_cons (pe_ix ix_list (pv 5) pe_int (fun _ _ => rfl)) pa_nil)) pa_nil)) (by rfl))
      (pss_cons (ps_set (i := 8) scRight.nd rfl (Or.inl rfl) (pe_make R.mN R.GN (hr.mono (by decide)) (by rfl) NN.mgC R.bN .nil pass0 (pa_cons (pv 2) (pa_cons (pe_ix ix_list (pv 5) pe_int (fun _ _ => rfl)) (pa_cons (pv 4) pa_nil)))))
      (pss_cons (ps_expr (pe_bm PySem.F.plainAttrs_list PySem.F.slot_list_append PySem.F.type_list_append mt_append (pe_ix ix_list (pv 5) pe_int (fun _ _ => rfl)) (pa_cons pe_int pa_nil)))
      (pss_cons (ps_expr (pe_bm PySem.F.plainAttrs_list PySem.F.slot_list_append PySem.F.type_list_append mt_append (pe_ix ix_list (pv 5) pe_int (fun _ _ => rfl)) (pa_cons pe_int pa_nil)))
      (pss_cons (ps_if (PW.pt (pw_or (pt_cmpR (op_neD hr.units) (pe_fld (pv 6) rfl) (pv 1) (nomark _)) (pw_or (pt_cmpR (op_neD hr.units) (pe_fld (pv 6) rfl) (pv 3) (nomark _)) (pw_or (pt_cmpR op_ne (pe_fld (pv 6) rfl) (pv 2) (nomark _)) (pw_or1 (pt_cmpR op_ne (pe_fld (pv 6) rfl) (pv 4) (nomark _))))))) (pss_one (ps_ret pe_bl)) pss_nil)
      (pss_cons (ps_if (PW.pt (pw_or (pt_cmpR (op_neD hr.units) (pe_fld (pv 7) rfl) (pv 1) (nomark _)) (pw_or (pt_cmpR (op_neD hr.units) (pe_fld (pv 8) rfl) (pv 3) (nomark _)) (pw_or (pt_cmpR op_ne (pe_fld (pv 8) rfl) (pv 2) (nomark _)) (pw_or1 (pt_cmpR op_ne (pe_fld (pv 8) rfl) (pv 4) (nomark _))))))) (pss_one (ps_ret pe_bl)) pss_nil)
      (pss_cons (ps_par (i := 9) (j := 10) (by rfl) scRight.nd rfl rfl (by decide) rfl rfl (pa_cons (pe_call J.GB (hr.mono (by decide)) (by rfl) J.gB J.FB.kp J.bB .nil pass0 (pa_cons (pv 0) (pa_cons (pv 2) (pa_cons (pv 3) (pa_cons (pv 4) pa_nil))))) (pa_cons (pe_call J.GO (hr.mono (by decide)) (by rfl) J.gO J.FO.kp J.bO .nil pass0 (pa_cons (pv 0) (pa_cons (pv 1) pa_nil))) pa_nil)) (by rfl))
      (pss_cons (ps_set (i := 11) scRight.nd rfl (Or.inl rfl) (pe_ifExp (pt_val (pv 10)) (pe_call J.GM (hr.mono (by decide)) (by rfl) J.gM J.FM.kp J.bM .nil pass0 (pa_cons (pv 0) (pa_cons (pv 1) pa_nil))) pe_int))
      (pss_cons (ps_if (pt_not (pt_val (pe_call R.GS (hr.mono (by decide)) (by rfl) R.gS R.FS.kp R.bS .nil pass0 (pa_cons (pe_meth (pv 6) NS.ki.cl R.mX R.GX hr R.bX .nil pass0 (pa_cons (pv 0) pa_nil)) (pa_cons (pe_and (pv 10) (pe_one (pe_cmpR op_eq (pv 9) (pv 11) (nomark _)))) pa_nil))))) (pss_one (ps_ret pe_bl)) pss_nil)
      (pss_cons (ps_for PassesOwn.never rfl (pi_tup (pe_tup (pa_cons pe_int (pa_cons (pe_un un_neg pe_int) (pa_cons pe_int pa_nil))))) (pg_name (i := 12) scRight.nd rfl (Or.inl rfl))
        (pss_cons (ps_if (pt_not (pt_val (pe_call R.GS (hr.mono (by decide)) (by rfl) R.gS R.FS.kp R.bS .nil pass0 (pa_cons (pe_meth (pv 7) NW.ki.cl R.mY R.GY hr R.bY .nil pass0 (pa_cons (pv 0) (pa_cons (pe_op op_add (pv 11) (pv 12)) pa_nil))) (pa_cons (pe_and (pv 10) (pe_one (pe_cmpR op_ge (pv 12) pe_int (nomark _)))) pa_nil))))) (pss_one (ps_ret pe_bl)) pss_nil)
        (pss_one (ps_if (PW.pt (pw_and (pt_cmpR op_ge (pv 9) pe_int (nomark _)) (pw_and1 (pt_not (pt_val (pe_call R.GS (hr.mono (by decide)) (by rfl) R.gS R.FS.kp R.bS .nil pass0 (pa_cons (pe_meth (pv 8) NN.ki.cl R.mZ R.GZ hr R.bZ .nil pass0 (pa_cons (pv 0) (pa_cons (pe_op op_add (pv 9) (pv 12)) pa_nil))) (pa_cons (pe_cmpR op_lt (pv 12) pe_int (nomark _)) pa_nil)))))))) (pss_one (ps_ret pe_bl)) pss_nil))))
      (pss_one (ps_ret (pe_or (pe_cmpR op_ge (pv 9) pe_int (nomark _)) (pe_one (pe_call R.GS (hr.mono (by decide)) (by rfl) R.gS R.FS.kp R.bS .nil pass0 (pa_cons (pe_meth (pv 8) NN.ki.cl R.mZ R.GZ hr R.bZ .nil pass0 (pa_cons (pv 0) (pa_cons (pe_un un_neg pe_int) pa_nil))) (pa_cons pe_bl pa_nil)))))))))))))))))
theorem q_parSW {σ : L2.St} {H : Hp} {D : Ends} {tz : TS} {CS CW a b : Addr} {xs ys : List V} {bench L : Int} {i j : Nat} {ta ta' : TA} (h : EvA ta σ H [.ref a, .int bench, .ref b, .int L]) (h' : EvA ta' σ H [.ref a]) (hA : SqL K H a xs) (hB : SqL K H b ys)
    (k : ∀ (x1 o1 c1 : Addr) (H2 : Hp) (x2 o2 : Addr) (H3 : Hp), Ex H H2 → Ex H2 H3 → H x1 = none → H o1 = none → H c1 = none → o1 ≠ c1 → H2 x2 = none → H2 o2 = none → (∃ dx, H2 x1 = some (.ins CS dx (fSo o1 bench c1 L))) → H2 o1 = some (.lst xs) → H2 c1 = some (.lst ys) → (∃ dx, H3 x2 = some (.ins CW dx (fWi o2))) → H3 o2 = some (.lst xs) → tz D ((σ.set i (some (.ref x1))).set j (some (.ref x2))) H3) :
    tSeq (tPar i j (tCons (tMake CS (spInitSo K CS) [] E0 ta) (tCons (tMake CW (spInitWi K CW) [] E0 ta') tNil))) tz D σ H :=
  mk_So (Q := fun v H2 => tMake CW (spInitWi K CW) [] E0 ta' σ H2 fun w H3 => ∃ u' v', [v, w] = [u', v'] ∧ tz D ((σ.set i (some u')).set j (some v')) H3) h hA hB fun x1 o1 c1 H2 e2 nx1 no1 nc1 noc hx1 ho1 hc1 =>
    mk_Wi (Q := fun w H3 => ∃ u' v', [V.ref x1, w] = [u', v'] ∧ tz D ((σ.set i (some u')).set j (some v')) H3) (h'.mono e2) (ex_l e2 hA) fun x2 o2 H3 e3 nx2 no2 hx2 ho2 => ⟨_, _, rfl, k x1 o1 c1 H2 x2 o2 H3 e2 e3 nx1 no1 nc1 noc nx2 no2 hx1 ho1 hc1 hx2 ho2⟩
theorem q_mkNe {σ : L2.St} {H : Hp} {D : Ends} {tz : TS} {C b : Addr} {ys : List V} {bench L : Int} {i : Nat} {ta : TA} (h : EvA ta σ H [.int bench, .ref b, .int L]) (hB : SqL K H b ys)
    (k : ∀ (x c : Addr) (H2 : Hp), Ex H H2 → H x = none → H c = none → (∃ dx, H2 x = some (.ins C dx (fNe bench c L))) → H2 c = some (.lst ys) → tz D (σ.set i (some (.ref x))) H2) : tSeq (tAsg (tMake C (spInitNe K C) [] E0 ta) (gName i)) tz D σ H :=
  mk_Ne (Q := fun v H2 => tz D (σ.set i (some v)) H2) h hB k
set_option maxHeartbeats 1600000 in
theorem ok_right {f fO fB fM fW fS fI fJ fN fX fY fZ CS CW CN : Addr} {fd dO dB dM dW dS dI dJ dN dX dY dZ : FuncData} (F : Fun K "_law_right" "_law_right" sRight f fd) (T : Bn mg) (NS : KSo K mg CS) (NW : KWi K mg CW) (NN : KNe K mg CN) (J : Jks K mg P w base fO fB fM fW dO dB dM dW) (R : Rks K mg P w base fS fI fJ fN fX fY fZ CS CW CN dS dI dJ dN dX dY dZ) : FnOk P w K mg base CX0 5 f fd pRight (spRight K) := by
  refine F.ok scRight (fun vs H Q E h => ?_) (fun cdv Ar outer s H vs Q E hr h => ?_)
  · obtain ⟨l, b, c, zs, is, ap, bench, L, rfl, _⟩ := h
    rfl
  · obtain ⟨l, b, c, zs, is, ap, bench, L, rfl, hT, hS, hA, hz, hza, k⟩ := h
    refine ⟨_, right_pf T NS NW NN J R hr, ?_⟩
    clear hr
    have hzl := hT.le
    have hnn := ths_nn hT
    -- handed
    refine ⟨.ref b, rfl, b, is.map V.int, rfl, .inl hS, fun h1 nh1 => ⟨.ref c, rfl, c, ap.map V.int, rfl, .inl (ex_l (Ex.new nh1) hA), fun h2 nh2 => ⟨(by show 2 ≤ sizeLine; decide), fun hh nhh => ?_⟩⟩⟩
    have hh1 := Ex.new (o := .lst [.ref h1, .ref h2]) nhh _ _ (Ex.new (o := .lst (ap.map V.int)) nh2 _ _ (upd_same (H := H) (a := h1) (o := .lst (is.map V.int))))
    have hh2 := Ex.new (o := .lst [.ref h1, .ref h2]) nhh _ _ (upd_same (H := upd H h1 (.lst (is.map V.int))) (a := h2) (o := .lst (ap.map V.int)))
    have hhh := upd_same (H := upd (upd H h1 (.lst (is.map V.int))) h2 (.lst (ap.map V.int))) (a := hh) (o := .lst [.ref h1, .ref h2])
    have e1 := ((Ex.new (o := .lst (is.map V.int)) nh1).trans (Ex.new (o := .lst (ap.map V.int)) nh2)).trans (Ex.new (o := .lst [.ref h1, .ref h2]) nhh)
    have n12 : h1 ≠ h2 := ne_of_none upd_same nh2
    have nh2' : H h2 = none := fresh_back (Ex.new nh1) nh2
    generalize upd (upd (upd H h1 (.lst (is.map V.int))) h2 (.lst (ap.map V.int))) hh (.lst [.ref h1, .ref h2]) = H1 at hh1 hh2 hhh e1
    have ix0 : ∀ {σ : L2.St} {H' : Hp}, H' hh = some (.lst [.ref h1, .ref h2]) → σ[5]? = some (some (.ref hh)) → Ev (tOp (rIxL K) (tVar 5) (tC (.int 0))) σ H' (.ref h1) := fun h hs => ev_op (ev_var hs) ev_c (rv_ixL (sq_of h) (atI_nat (j := 0) rfl))
    have ix1 : ∀ {σ : L2.St} {H' : Hp}, H' hh = some (.lst [.ref h1, .ref h2]) → σ[5]? = some (some (.ref hh)) → Ev (tOp (rIxL K) (tVar 5) (tC (.int 1))) σ H' (.ref h2) := fun h hs => ev_op (ev_var hs) ev_c (rv_ixL (sq_of h) (atI_nat (j := 1) rfl))
    -- one, other, third
    refine q_parSW (ea_cons (ix0 hhh rfl) (ea_cons (ev_var rfl) (ea_cons (ix1 hhh rfl) (ea_cons (ev_var rfl) ea_nil)))) (ea_cons (ix0 hhh rfl) ea_nil) (sq_of hh1) (sq_of hh2) fun x1 o1 c1 H2 x2 o2 H3 e2 e3 nx1 no1 nc1 noc nx2 no2 hx1 ho1 hc1 hx2 ho2 => ?_
    refine q_mkNe (ea_cons (ev_var rfl) (ea_cons (ix1 ((e2.trans e3) _ _ hhh) rfl) (ea_cons (ev_var rfl) ea_nil))) (sq_of ((e2.trans e3) _ _ hh2)) fun x3 c3 H4 e4 nx3 nc3 hx3 hc3 => ?_
    obtain ⟨d1, hx1⟩ := hx1
    obtain ⟨d2, hx2⟩ := hx2
    obtain ⟨d3, hx3⟩ := hx3
    have e24 := (e2.trans e3).trans e4
    have e34 := e3.trans e4
    have e14 := e1.trans e24
    -- the lists handed in are changed behind
    refine q_app (l := h1) (xs := is.map V.int) (e24 _ _ hh1) (ix0 (e24 _ _ hhh) rfl) ev_c (by rw [List.length_map]; omega) fun H5 e5 => ?_
    have m1 : h1 ≠ o1 := ne_of_none hh1 no1
    have m2 : h1 ≠ c1 := ne_of_none hh1 nc1
    have m3 : h1 ≠ o2 := ne_of_none (e2 _ _ hh1) no2
    have m4 : h1 ≠ c3 := ne_of_none ((e2.trans e3) _ _ hh1) nc3
    have e45 := e24.trans e5
    have keep1 : ∀ {q : Addr} {u : HO}, H4 q = some u → q ≠ h1 → (upd H5 h1 (.lst (is.map V.int ++ [.int 0]))) q = some u := fun h n => by
      rw [upd_ne n]
      exact e5 _ _ h
    have b5 : Ex H (upd H5 h1 (.lst (is.map V.int ++ [.int 0]))) := Ex.mut (e14.trans e5) nh1
    have k_x1 := keep1 (e34 _ _ hx1) (ne_of (e34 _ _ hx1) (e24 _ _ hh1) (by intro z; cases z))
    have k_x2 := keep1 (e4 _ _ hx2) (ne_of (e4 _ _ hx2) (e24 _ _ hh1) (by intro z; cases z))
    have k_x3 := keep1 hx3 (ne_of hx3 (e24 _ _ hh1) (by intro z; cases z))
    have k_o1 := keep1 (e34 _ _ ho1) m1.symm
    have k_c1 := keep1 (e34 _ _ hc1) m2.symm
    have k_o2 := keep1 (e4 _ _ ho2) m3.symm
    have k_c3 := keep1 hc3 m4.symm
    have k_h2 := keep1 (e24 _ _ hh2) n12.symm
    have nhh1 : hh ≠ h1 := (ne_of_none (Ex.new nh2 _ _ upd_same) nhh).symm
    have k_hh := keep1 (e24 _ _ hhh) nhh1
    generalize upd H5 h1 (.lst (is.map V.int ++ [.int 0])) = H6 at b5 k_x1 k_x2 k_x3 k_o1 k_c1 k_o2 k_c3 k_h2 k_hh
    refine q_app (l := h2) (xs := ap.map V.int) k_h2 (ix1 k_hh rfl) ev_c (by rw [List.length_map]; omega) fun H7 e7 => ?_
    have m1 : h2 ≠ o1 := ne_of_none hh2 no1
    have m2 : h2 ≠ c1 := ne_of_none hh2 nc1
    have m3 : h2 ≠ o2 := ne_of_none (e2 _ _ hh2) no2
    have m4 : h2 ≠ c3 := ne_of_none ((e2.trans e3) _ _ hh2) nc3
    have keep2 : ∀ {q : Addr} {u : HO}, H6 q = some u → q ≠ h2 → (upd H7 h2 (.lst (ap.map V.int ++ [.int 0]))) q = some u := fun h n => by
      rw [upd_ne n]
      exact e7 _ _ h
    have b8 : Ex H (upd H7 h2 (.lst (ap.map V.int ++ [.int 0]))) := Ex.mut (b5.trans e7) nh2'
    have hx1 := keep2 k_x1 (ne_of k_x1 k_h2 (by intro z; cases z))
    have hx2 := keep2 k_x2 (ne_of k_x2 k_h2 (by intro z; cases z))
    have hx3 := keep2 k_x3 (ne_of k_x3 k_h2 (by intro z; cases z))
    have ho1 := keep2 k_o1 m1.symm
    have hc1 := keep2 k_c1 m2.symm
    have ho2 := keep2 k_o2 m3.symm
    have hc3 := keep2 k_c3 m4.symm
    generalize upd H7 h2 (.lst (ap.map V.int ++ [.int 0])) = H8 at b8 hx1 hx2 hx3 ho1 hc1 ho2 hc3
    clear k_x1 k_x2 k_x3 k_o1 k_c1 k_o2 k_c3 k_h2 k_hh keep1 keep2 m1 m2 m3 m4 b5 e7 e5 e45 e14 e34 e24 e4 e3 e2 nx1 no1 nc1 noc nx2 no2 nx3 nc3 hh1 hh2 hhh e1 n12 nh2' ix0 ix1 nh1 nh2 nhh nhh1
    have hT := hT.mono b8
    have hS := ex_l b8 hS
    have hA := ex_l b8 hA
    have f1 : ∀ {σ : L2.St} {H' : Hp} {te : TE} {g : Str} {v : V}, Ex H8 H' → NoAttr K CS g → (fSo o1 bench c1 L).lookup g = some v → Ev te σ H' (.ref x1) → Ev (tFld K te g) σ H' v := fun e n lk h => ev_fld h (e _ _ hx1) NS.ki.cl n lk
    have f2 : ∀ {σ : L2.St} {H' : Hp} {te : TE} {g : Str} {v : V}, Ex H8 H' → NoAttr K CW g → (fWi o2).lookup g = some v → Ev te σ H' (.ref x2) → Ev (tFld K te g) σ H' v := fun e n lk h => ev_fld h (e _ _ hx2) NW.ki.cl n lk
    have f3 : ∀ {σ : L2.St} {H' : Hp} {te : TE} {g : Str} {v : V}, Ex H8 H' → NoAttr K CN g → (fNe bench c3 L).lookup g = some v → Ev te σ H' (.ref x3) → Ev (tFld K te g) σ H' v := fun e n lk h => ev_fld h (e _ _ hx3) NN.ki.cl n lk
    have di : ∀ i : Int, (!decide (V.int i = V.int i)) = false := fun i => by rw [decide_eq_true rfl]; rfl
    refine q_when (b := false) (et_is (et_or (et_test (ev_op (f1 (Ex.refl _) NS.nO (fSo_order _ _ _ _) (ev_var rfl)) (ev_var rfl) (rv_neD (dpx_ints (sq_of ho1)) (dpx_ints hS) (sh_ints is)))) fun _ => et_or (et_test (ev_op (f1 (Ex.refl _) NS.nA (fSo_apart _ _ _ _) (ev_var rfl)) (ev_var rfl) (rv_neD (dpx_ints (sq_of hc1)) (dpx_ints hA) (sh_ints ap)))) fun _ => et_or (et_test (ev_op (f1 (Ex.refl _) NS.nB (fSo_bench _ _ _ _) (ev_var rfl)) (ev_var rfl) (rv_ne rfl))) fun _ => et_test (ev_op (f1 (Ex.refl _) NS.nL (fSo_length _ _ _ _) (ev_var rfl)) (ev_var rfl) (rv_ne rfl))) (by rw [di, di]; rfl)) (fun q => by cases q) fun _ H9 e9 => ?_
    refine q_when (b := false) (et_is (et_or (et_test (ev_op (f2 e9 NW.nO (fWi_order _) (ev_var rfl)) (ev_var rfl) (rv_neD (dpx_ints (sq_of (e9 _ _ ho2))) (dpx_ints (ex_l e9 hS)) (sh_ints is)))) fun _ => et_or (et_test (ev_op (f3 e9 NN.nA (fNe_apart _ _ _) (ev_var rfl)) (ev_var rfl) (rv_neD (dpx_ints (sq_of (e9 _ _ hc3))) (dpx_ints (ex_l e9 hA)) (sh_ints ap)))) fun _ => et_or (et_test (ev_op (f3 e9 NN.nB (fNe_bench _ _ _) (ev_var rfl)) (ev_var rfl) (rv_ne rfl))) fun _ => et_test (ev_op (f3 e9 NN.nL (fNe_length _ _ _) (ev_var rfl)) (ev_var rfl) (rv_ne rfl))) (by rw [di, di]; rfl)) (fun q => by cases q) fun _ H10 e10 => ?_
    have e810 := e9.trans e10
    refine q_par (u := .int (lawW (ths zs) bench ap L)) (v := .bl (ordB (tv zs).length is)) (ea_cons (ev_call (ea_cons (ev_var rfl) (ea_cons (ev_var rfl) (ea_cons (ev_var rfl) (ea_cons (ev_var rfl) ea_nil)))) fun H5 e5 Q q E => ⟨l, c, zs, bench, L, ap, rfl, hT.mono (e810.trans e5), ex_l (e810.trans e5) hA, by omega, q⟩) (ea_cons (ev_call (ea_cons (ev_var rfl) (ea_cons (ev_var rfl) ea_nil)) fun H3 e3 Q q E => ⟨l, b, tv zs, is, rfl, ex_l (e810.trans e3) hT.ls, ex_l (e810.trans e3) hS, by rw [tv_len]; omega, by omega, q⟩) ea_nil)) fun H11 e11 => ?_
    have e811 := e810.trans e11
    rw [tv_len]
    have hgood : ∀ g, g = ordB zs.length is → ∃ tm : Int, (g = true → tm = W (path (ths zs) (is.map Int.toNat))) ∧ (g = false → tm = 0) := fun g _ => by
      cases g with
      | true => exact ⟨_, fun _ => rfl, fun h => by cases h⟩
      | false => exact ⟨0, fun h => (by cases h), fun _ => rfl⟩
    obtain ⟨tm, ht1, ht2⟩ := hgood _ rfl
    have hO : ordB zs.length is = true → ∃ ord, is = asI ord ∧ Ord zs.length ord := fun h => ordB_ord h
    have hso : soB (ths zs) is bench ap L = (ordB zs.length is && decide (V.int (lawW (ths zs) bench ap L) = V.int tm)) := by
      unfold soB
      rw [ths_len]
      cases hg : ordB zs.length is with
      | false => rfl
      | true =>
        rw [Bool.true_and, Bool.true_and, ht1 hg]
        exact decide_eq_decide.mpr ⟨fun h => by rw [h], fun h => V.int.inj h⟩
    have hwi : ∀ m : Int, wiB (ths zs) is (tm + m) = (ordB zs.length is && decide (0 ≤ m)) := fun m => by
      unfold wiB
      rw [ths_len]
      cases hg : ordB zs.length is with
      | false => rfl
      | true =>
        rw [Bool.true_and, Bool.true_and, ht1 hg]
        exact decide_eq_decide.mpr (by omega)
    have hne : 0 ≤ lawW (ths zs) bench ap L → ∀ m : Int, neB (ths zs) bench ap L (lawW (ths zs) bench ap L + m) = decide (m < 0) := fun h m => by
      have hB : BarW (ths zs) bench ap L := by
        refine Classical.byContradiction fun hb => ?_
        rw [lawW_no hb] at h
        omega
      unfold neB
      rw [barB_yes hB, Bool.true_and]
      exact decide_eq_decide.mpr (by omega)
    have hne2 : ¬ 0 ≤ lawW (ths zs) bench ap L → ∀ t : Int, neB (ths zs) bench ap L t = false := fun h t => by
      have hB : ¬ BarW (ths zs) bench ap L := fun hb => h (by rw [lawW_yes hb]; exact barWorth_nn hnn hb.ok)
      unfold neB
      rw [barB_no hB, Bool.false_and]
    refine q_asg (v := .int tm) (ev_if (b := ordB zs.length is) (et_B (ev_var rfl)) (fun hg => ?_) (fun hg => ?_)) fun H12 e12 => ?_
    · obtain ⟨ord, rfl, ho⟩ := hO hg
      refine ev_call (ea_cons (ev_var rfl) (ea_cons (ev_var rfl) ea_nil)) fun H4 e4 Q q E => ⟨l, b, zs, ord, rfl, hT.mono (e811.trans e4), by rw [ov_ints]; exact ex_l (e811.trans e4) hS, ho, ?_⟩
      rw [ld_path hnn]
      rw [ht1 hg, asI_back] at q
      exact q
    · rw [ht2 hg]
      exact ev_c
    have e812 := e811.trans e12
    have sh1 : ∀ {σ : L2.St} {H' : Hp} {tb tx : TE}, Ex H8 H' → Ev tb σ H' (.ref l) → Ev tx σ H' (.ref x1) → Ev (tMeth CS "shows" (spShowsSo K CS) [] E0 tx (tCons tb tNil)) σ H' (.bl (soB (ths zs) is bench ap L)) := fun e h1 h2 =>
      ev_meth h2 (e _ _ hx1) (fSo_shows _ _ _ _) (ea_cons h1 ea_nil) fun H4 e4 Q q E => ⟨x1, d1, o1, c1, l, zs, is, ap, bench, L, rfl, (e.trans e4) _ _ hx1, sq_of ((e.trans e4) _ _ ho1), sq_of ((e.trans e4) _ _ hc1), hT.mono (e.trans e4), by omega, q⟩
    have sh2 : ∀ {σ : L2.St} {H' : Hp} {tb tt tx : TE} {t : Int}, Ex H8 H' → Ev tb σ H' (.ref l) → Ev tt σ H' (.int t) → Ev tx σ H' (.ref x2) → Ev (tMeth CW "shows" (spShowsWi K CW) [] E0 tx (tCons tb (tCons tt tNil))) σ H' (.bl (wiB (ths zs) is t)) := fun e h1 h2 h3 =>
      ev_meth h3 (e _ _ hx2) (fWi_shows _) (ea_cons h1 (ea_cons h2 ea_nil)) fun H4 e4 Q q E => ⟨x2, d2, o2, l, zs, is, _, rfl, (e.trans e4) _ _ hx2, sq_of ((e.trans e4) _ _ ho2), hT.mono (e.trans e4), by omega, q⟩
    have sh3 : ∀ {σ : L2.St} {H' : Hp} {tb tt tx : TE} {t : Int}, Ex H8 H' → Ev tb σ H' (.ref l) → Ev tt σ H' (.int t) → Ev tx σ H' (.ref x3) → Ev (tMeth CN "shows" (spShowsNe K CN) [] E0 tx (tCons tb (tCons tt tNil))) σ H' (.bl (neB (ths zs) bench ap L t)) := fun e h1 h2 h3 =>
      ev_meth h3 (e _ _ hx3) (fNe_shows _ _ _) (ea_cons h1 (ea_cons h2 ea_nil)) fun H4 e4 Q q E => ⟨x3, d3, c3, l, zs, ap, bench, L, _, rfl, (e.trans e4) _ _ hx3, sq_of ((e.trans e4) _ _ hc3), hT.mono (e.trans e4), q⟩
    have says : ∀ {σ : L2.St} {H' : Hp} {ta tb : TE} {p q : Bool}, Ev ta σ H' (.bl p) → Ev tb σ H' (.bl q) → Ev (tCall spSays [] E0 (tCons ta (tCons tb tNil))) σ H' (.bl (decide (p = q))) := fun h1 h2 => ev_call (ea_cons h1 (ea_cons h2 ea_nil)) fun H3 e3 Q q E => ⟨_, _, rfl, q⟩
    refine q_when (b := false) (et_is (et_not (et_B (says (sh1 e812 (ev_var rfl) (ev_var rfl)) (ev_andV (ev_var rfl) fun _ => ev_op (ev_var rfl) (ev_var rfl) (rv_eq rfl))))) (by rw [hso, decide_eq_true rfl]; rfl)) (fun q => by cases q) fun _ H13 e13 => ?_
    have e813 := e812.trans e13
    refine q_forU (xs := [0, -1, 1].map V.int) (ea_cons ev_c (ea_cons (ev_un ev_c ru_neg) (ea_cons ev_c ea_nil))) (by show 3 ≤ 100000; decide) (fun tp i σ' H' => ∃ v12 : Option V, σ' = [some (.ref l), some (.ref b), some (.int bench), some (.ref c), some (.int L), some (.ref hh), some (.ref x1), some (.ref x2), some (.ref x3), some (.int (lawW (ths zs) bench ap L)), some (.bl (ordB zs.length is)), some (.int tm), v12] ∧ Ex H13 H' ∧ H' tp = some (.tup ([0, -1, 1].map V.int)))
      (fun tp H14 ntp e14 htp => ⟨none, rfl, e14, htp⟩) (fun tp i σ' H' ⟨_, _, _, htp⟩ => st_of htp) ?_ ?_
    · rintro tp i y σ' H14 hi ⟨v12, rfl, e14, htp⟩
      obtain ⟨m, _, rfl⟩ := ints_at hi
      have e814 := e813.trans e14
      refine q_when (b := false) (et_is (et_not (et_B (says (sh2 e814 (ev_var rfl) (ev_op (ev_var rfl) (ev_var rfl) rv_I0) (ev_var rfl)) (ev_andV (ev_var rfl) fun _ => ev_op (ev_var rfl) ev_c rv_I0)))) (by rw [hwi, decide_eq_true rfl]; rfl)) (fun q => by cases q) fun _ H15 e15 => ?_
      have e815 := e814.trans e15
      refine s_when (b := decide (0 ≤ lawW (ths zs) bench ap L) && !(decide (neB (ths zs) bench ap L (lawW (ths zs) bench ap L + m) = decide (m < 0)))) (et_and (et_test (ev_op (ev_var rfl) ev_c rv_I0)) fun _ => et_not (et_B (says (sh3 e815 (ev_var rfl) (ev_op (ev_var rfl) (ev_var rfl) rv_I0) (ev_var rfl)) (ev_op (ev_var rfl) ev_c rv_I0)))) (fun hb H16 e16 => ?_) (fun hb H16 e16 => ⟨_, rfl, (e14.trans e15).trans e16, (e15.trans e16) _ _ htp⟩)
      obtain ⟨g1, g2⟩ := Bool.and_eq_true_iff.mp hb
      rw [hne (of_decide_eq_true g1) m, decide_eq_true rfl] at g2
      cases g2
    · rintro tp σ' H14 ⟨v12, rfl, e14, htp⟩
      have e814 := e813.trans e14
      refine s_ret (v := .bl (decide (0 ≤ lawW (ths zs) bench ap L) || decide (neB (ths zs) bench ap L (-5) = false))) (ev_orV (ev_op (ev_var rfl) ev_c rv_I0) fun _ => says (sh3 e814 (ev_var rfl) (ev_un ev_c ru_neg) (ev_var rfl)) ev_c) fun H15 e15 => ?_
      have hend : (decide (0 ≤ lawW (ths zs) bench ap L) || decide (neB (ths zs) bench ap L (-5) = false)) = true := by
        by_cases h : 0 ≤ lawW (ths zs) bench ap L
        · rw [decide_eq_true h, Bool.true_or]
        · rw [hne2 h, decide_eq_true rfl, Bool.or_true]
      rw [hend]
      exact k.go ((b8.trans e814).trans e15)
end
end Bp
namespace Bp
open PySem L2 Evl
abbrev nLaw4 : List Str := ["_law_script", "_law_things_here", "_law_many", "_law_found", "_law_quick", "_law_k", "_law_cell", "_law_bench", "_law_length", "_law_order_here", "_law_apart", "_law_drawn", "_law_slow", "_law_lists", "_law_spot", "_law_lengths", "_law_turn", "_law_some", "_law_far", "_law_at", "_law_thing"]
theorem scLaw4 : FnScope nLaw4 ["_law_script"] (defScope sLaw) := ⟨rfl, rfl, rfl, by decide +kernel, rfl, by decide +kernel, by decide +kernel⟩
/-- what the law calls -/
structure L4ks (K : PySem.W.Frag) (mg : Str → Option Value) (P : Program) (w : World) (base : Heap) (fT fE fD fB fR fS fG fI fN fX fZ CS CN : Addr) (dT dE dD dB dR dS dG dI dN dX dZ : FuncData) : Prop where
  gT : mg "_law_things" = some (.ref fT)
  FT : Fun K "_law_things" "_law_things" sThings fT dT
  bT : Binds K dT ["_law_script"] []
  GT : FnOk P w K mg base CX0 2 fT dT ["_law_script"] (spThings K)
  gE : mg "_law_cell_at" = some (.ref fE)
  FE : Fun K "_law_cell_at" "_law_cell_at" sCell fE dE
  bE : Binds K dE ["_law_script", "_law_k"] []
  GE : FnOk P w K mg base CX0 1 fE dE ["_law_script", "_law_k"] (spCell K)
  gD : mg "_law_draw" = some (.ref fD)
  FD : Fun K "_law_draw" "_law_draw" sDraw fD dD
  bD : Binds K dD ["_law_cell", "_law_k", "_law_many"] []
  GD : FnOk P w K mg base CX0 1 fD dD ["_law_cell", "_law_k", "_law_many"] spDraw
  gB : mg "_law_bent" = some (.ref fB)
  FB : Fun K "_law_bent" "_law_bent" sBent fB dB
  bB : Binds K dB ["_law_some", "_law_cell", "_law_many"] []
  GB : FnOk P w K mg base CX0 2 fB dB ["_law_some", "_law_cell", "_law_many"] (spBent K)
  gR : mg "_law_right" = some (.ref fR)
  FR : Fun K "_law_right" "_law_right" sRight fR dR
  bR : Binds K dR pRight []
  GR : FnOk P w K mg base CX0 5 fR dR pRight (spRight K)
  gS : mg "soonest" = some (.ref fS)
  FS : Fun K "soonest" "soonest" sSoonest fS dS
  bS : Binds K dS ["things"] []
  GS : FnOk P w K mg base CX0 5 fS dS ["things"] (spSoonest K CS)
  gG : mg "_law_says" = some (.ref fG)
  FG : Fun K "_law_says" "_law_says" sSays fG dG
  bG : Binds K dG ["_law_said", "_law_due"] []
  GG : FnOk P w K mg base CX0 1 fG dG ["_law_said", "_law_due"] spSays
  mI : Mk K CS fI
  bI : Binds K dI ["self", "order", "bench", "apart", "length"] []
  GI : FnOk P w K mg base CX0 1 fI dI ["self", "order", "bench", "apart", "length"] (spInitSo K CS)
  mN : Mk K CN fN
  bN : Binds K dN ["self", "bench", "apart", "length"] []
  GN : FnOk P w K mg base CX0 1 fN dN ["self", "bench", "apart", "length"] (spInitNe K CN)
  mX : Meth K CS "shows" fX
  bX : Binds K dX ["self", "things"] []
  GX : FnOk P w K mg base CX0 4 fX dX ["self", "things"] (spShowsSo K CS)
  mZ : Meth K CN "shows" fZ
  bZ : Binds K dZ ["self", "things", "time"] []
  GZ : FnOk P w K mg base CX0 4 fZ dZ ["self", "things", "time"] (spShowsNe K CN)
def spLaw (K : PySem.W.Frag) : Sp := fun vs H Q _ => ∃ (a : Addr) (ns : List Int), vs = [.ref a] ∧ SqL K H a (ns.map V.int) ∧ ns.length ≤ 63 ∧ ∀ H', Q (.bl true) H'
section
variable {P : Program} {w : World} {K : PySem.W.Frag} {mg : Str → Option Value} {base : Heap}
def law4_pf {f fT fE fD fB fR fS fG fI fN fX fZ CS CN : Addr} {dT dE dD dB dR dS dG dI dN dX dZ : FuncData} (T : Bn mg) (T2 : Bn2 mg) (hmin : mg "min" = none) (NS : KSo K mg CS) (NN : KNe K mg CN) (S : L4ks K mg P w base fT fE fD fB fR fS fG fI fN fX fZ CS CN dT dE dD dB dR dS dG dI dN dX dZ) {cdv : Value} {A : Around} {outer : List Env} {s : Shared} {H : Hp} {E : XK} (hr : Room 5 (A.deeper (PyProof.Rows.envOfC "law" (defScope sLaw) s.heap.objs.size f cdv))) :=
  show PSs (cxOf CX0 P w K mg base nLaw4 "law" (defScope sLaw) f cdv A outer s H E).nox (defBody sLaw) _ from
    pss_cons (ps_set (i := 1) scLaw4.nd rfl (Or.inl rfl) (pe_call S.GT (hr.mono (by decide)) (by rfl) S.gT S.FT.kp S.bT .nil pass0 (pa_cons (pv 0) pa_nil)))
      (pss_cons (ps_asg (pe_tup (pa_cons (pe_callB call_len_seq (by rfl) T.len PySem.boot_len (pa_cons (pv 1) pa_nil)) (pa_cons (pe_call S.GS hr (by rfl) S.gS S.FS.kp S.bS .nil pass0 (pa_cons (pv 1) pa_nil)) pa_nil))) (pg_tup rfl (pgs_cons (pg_name (i := 2) scLaw4.nd rfl (Or.inr rfl)) (pgs_cons (pg_name (i := 3) scLaw4.nd rfl (Or.inl rfl)) pgs_nil))))
      (pss_cons (ps_set (i := 4) scLaw4.nd rfl (Or.inr rfl) (pe_lc (own := [("_law_at", 19), ("_law_thing", 20)]) (g := gTup K 2 (gCons (gName 19) (gCons (gName 20) gNil))) rfl scLaw4.nd (pi_enum (by rfl) T.enum (pa_cons (pv 1) pa_nil)) (blkOk_by (N := nLaw4) (sc := defScope sLaw) (by decide +kernel))
        (fun _ _ _ _ _ => pg_tup rfl (pgs_cons (pg_name (i := 19) scLaw4.nd rfl (Or.inl rfl)) (pgs_cons (pg_name (i := 20) scLaw4.nd rfl (Or.inl rfl)) pgs_nil))) (fun _ _ _ _ _ => pts_one (pt_cmpR op_le (pe_ix (show IxR _ (rIxT K) from ix_tup) (pv 20) pe_int (fun _ _ => rfl)) (pe_ix (show IxR _ (rIxT K) from ix_tup) (pv 20) pe_int (fun _ _ => rfl)) (nomark _))) (fun _ _ _ _ _ => pv 19)))
      (pss_cons (ps_for PassesOwn.never rfl (pi_range1 rfl T.range (pa_cons (pe_ifExp (pt_cmpR op_gt (pv 2) pe_int (nomark _)) pe_int pe_int) pa_nil)) (pg_name (i := 5) scLaw4.nd rfl (Or.inl rfl))
        (pss_cons (ps_set (i := 6) scLaw4.nd rfl (Or.inr rfl) (pe_op op_add (pe_op op_add (pe_call S.GE (hr.mono (by decide)) (by rfl) S.gE S.FE.kp S.bE .nil pass0 (pa_cons (pv 0) (pa_cons (pv 5) pa_nil))) (pe_op op_mul pe_int (pv 5))) (pe_op op_mul pe_int (pe_call S.GE (hr.mono (by decide)) (by rfl) S.gE S.FE.kp S.bE .nil pass0 (pa_cons (pv 0) (pa_cons (pe_op op_add (pv 5) pe_int) pa_nil))))))
        (pss_cons (ps_set (i := 7) scLaw4.nd rfl (Or.inl rfl) (pe_ix ix_tup (pe_tup (pa_cons (pe_fld (pv 3) rfl) (pa_cons (pe_fld (pv 3) rfl) (pa_cons (pe_op op_sub pe_int (pe_fld (pv 3) rfl)) (pa_cons pe_int (pa_cons pe_int pa_nil)))))) (pe_call S.GD (hr.mono (by decide)) (by rfl) S.gD S.FD.kp S.bD .nil pass0 (pa_cons (pv 6) (pa_cons pe_int (pa_cons pe_int pa_nil)))) (fun _ _ => rfl)))
        (pss_cons (ps_set (i := 8) scLaw4.nd rfl (Or.inl rfl) (pe_op op_add (pe_fld (pv 3) rfl) (pe_ix ix_tup (pe_tup (pa_cons pe_int (pa_cons pe_int (pa_cons pe_int (pa_cons pe_int (pa_cons (pe_un un_neg pe_int) pa_nil)))))) (pe_call S.GD (hr.mono (by decide)) (by rfl) S.gD S.FD.kp S.bD .nil pass0 (pa_cons (pv 6) (pa_cons pe_int (pa_cons pe_int pa_nil)))) (fun _ _ => rfl))))
        (pss_cons (ps_par (i := 9) (j := 10) (by rfl) scLaw4.nd rfl rfl (by decide) rfl rfl (pa_cons (pe_call S.GB (hr.mono (by decide)) (by rfl) S.gB S.FB.kp S.bB .nil pass0 (pa_cons (pe_fld (pv 3) rfl) (pa_cons (pv 6) (pa_cons (pv 2) pa_nil)))) (pa_cons (pe_call S.GB (hr.mono (by decide)) (by rfl) S.gB S.FB.kp S.bB .nil pass0 (pa_cons (pe_fld (pv 3) rfl) (pa_cons (pe_op op_fdiv (pv 6) pe_int) (pa_cons (pv 2) pa_nil)))) pa_nil)) (by rfl))
        (pss_cons (ps_if (pt_not (pt_val (pe_call S.GR hr (by rfl) S.gR S.FR.kp S.bR .nil pass0 (pa_cons (pv 1) (pa_cons (pe_fld (pv 3) rfl) (pa_cons (pv 7) (pa_cons (pv 10) (pa_cons (pv 8) pa_nil)))))))) (pss_one (ps_ret pe_bl)) pss_nil)
        (pss_cons (ps_if (pt_not (pt_val (pe_call S.GR hr (by rfl) S.gR S.FR.kp S.bR .nil pass0 (pa_cons (pv 1) (pa_cons (pv 9) (pa_cons (pe_fld (pv 3) rfl) (pa_cons (pe_fld (pv 3) rfl) (pa_cons (pe_fld (pv 3) rfl) pa_nil)))))))) (pss_one (ps_ret pe_bl)) pss_nil)
        (pss_cons (ps_setLc (i := 11) (own := [("_law_at", 19)]) (g := gName 19) (tt := tYes) (by rfl) scLaw4.nd rfl rfl (sw_true rfl rfl rfl (by decide +kernel)) (pi_range1 rfl T.range (pa_cons (pe_callB (call_min2 rfl) (by rfl) hmin PyProof.Rows.boot_min (pa_cons (pv 2) (pa_cons (pe_call S.GD (hr.mono (by decide)) (by rfl) S.gD S.FD.kp S.bD .nil pass0 (pa_cons (pv 6) (pa_cons pe_int (pa_cons pe_int pa_nil)))) pa_nil))) pa_nil)) (blkOk_by (N := nLaw4) (sc := defScope sLaw) (by decide +kernel))
          (fun _ _ _ _ _ => pg_name (i := 19) scLaw4.nd rfl (Or.inl rfl)) (fun _ _ _ _ _ => pts_nil) (fun _ _ _ _ _ => pe_call S.GD (hr.mono (by decide)) (by rfl) S.gD S.FD.kp S.bD .nil pass0 (pa_cons (pe_op op_add (pv 6) (pv 19)) (pa_cons pe_int (pa_cons (pe_callB (call_max2 rfl) (by rfl) T.max PyProof.Rows.boot_max (pa_cons pe_int (pa_cons (pv 2) pa_nil))) pa_nil)))))
        (pss_cons (ps_setLc (i := 12) (own := [("_law_at", 19)]) (g := gName 19) (by rfl) scLaw4.nd rfl rfl (sw_true rfl rfl rfl (by decide +kernel)) (pi_range1 rfl T.range (pa_cons (pv 2) pa_nil)) (blkOk_by (N := nLaw4) (sc := defScope sLaw) (by decide +kernel))
          (fun _ _ _ _ _ => pg_name (i := 19) scLaw4.nd rfl (Or.inl rfl)) (fun _ _ _ _ _ => pts_one (pt_cmpR (show OpR _ _ (rIn K true) from op_notIn_seq) (pv 19) (pv 4) (by rfl))) (fun _ _ _ _ _ => pv 19))
        (pss_cons (ps_par (i := 13) (j := 14) (by rfl) scLaw4.nd rfl rfl (by decide) rfl rfl (pa_cons (pe_tup (pa_cons (pe_callB (BpS.cr_sortA rfl) (by rfl) T2.sorted (by decide +kernel) (pa_cons (pe_callTy (BpS.cr_setL rfl) (by rfl) T2.set (by decide +kernel) (pa_cons (pv 11) pa_nil)) pa_nil)) (pa_cons (pv 4) (pa_cons (pv 12) (pa_cons (pe_lst pa_nil) pa_nil))))) (pa_cons (pe_call S.GD (hr.mono (by decide)) (by rfl) S.gD S.FD.kp S.bD .nil pass0 (pa_cons (pv 6) (pa_cons pe_int (pa_cons (pe_callB (call_max2 rfl) (by rfl) T.max PyProof.Rows.boot_max (pa_cons pe_int (pa_cons (pv 2) pa_nil))) pa_nil)))) pa_nil)) (by rfl))
        (pss_cons (ps_set (i := 15) scLaw4.nd rfl (Or.inl rfl) (pe_op op_cat (pe_lst (pa_cons pe_int (pa_cons (pe_fld (pv 3) rfl) (pa_cons (pe_un un_neg pe_int) pa_nil)))) (pe_lc (own := [("_law_thing", 20)]) (g := gName 20) (tt := tYes) rfl scLaw4.nd (pi_list (pe_slice sl_list (pv 1) (po_some (pv 14)) (po_some (pe_op op_add (pv 14) pe_int)))) (blkOk_by (N := nLaw4) (sc := defScope sLaw) (by decide +kernel))
          (fun _ _ _ _ _ => pg_name (i := 20) scLaw4.nd rfl (Or.inl rfl)) (fun _ _ _ _ _ => pts_nil) (fun _ _ _ _ _ => pe_op op_add (pe_ix (show IxR _ (rIxT K) from ix_tup) (pv 20) pe_int (fun _ _ => rfl)) (pe_ix (show IxR _ (rIxT K) from ix_tup) (pv 20) pe_int (fun _ _ => rfl))))))
        (pss_one (ps_for PassesOwn.never rfl (pi_range1 rfl T.range (pa_cons pe_int pa_nil)) (pg_name (i := 16) scLaw4.nd rfl (Or.inl rfl))
          (pss_cons (ps_par (i := 17) (j := 18) (by rfl) scLaw4.nd rfl rfl (by decide) rfl rfl (pa_cons (pe_ix ix_tup (pv 13) (pe_op op_mod (pe_op op_add (pv 16) (pv 5)) pe_int) (fun _ _ => rfl)) (pa_cons (pe_ix ix_list (pv 15) (pe_op op_mod (pv 16) (pe_callB call_len_seq (by rfl) T.len PySem.boot_len (pa_cons (pv 15) pa_nil))) (fun _ _ => rfl)) pa_nil)) (by rfl))
          (pss_one (ps_if (pt_not (pt_val (pe_call S.GR hr (by rfl) S.gR S.FR.kp S.bR .nil pass0 (pa_cons (pv 1) (pa_cons (pe_fld (pv 3) rfl) (pa_cons (pe_op op_add pe_int (pe_call S.GD (hr.mono (by decide)) (by rfl) S.gD S.FD.kp S.bD .nil pass0 (pa_cons (pv 6) (pa_cons (pe_op op_add pe_int (pv 16)) (pa_cons pe_int pa_nil))))) (pa_cons (pv 17) (pa_cons (pv 18) pa_nil)))))))) (pss_one (ps_ret pe_bl)) pss_nil))))))))))))))))
      (pss_cons (ps_if (pt_not (pt_val (pe_call S.GG (hr.mono (by decide)) (by rfl) S.gG S.FG.kp S.bG .nil pass0 (pa_cons (pe_meth (pe_make S.mI S.GI (hr.mono (by decide)) (by rfl) NS.mgC S.bI .nil pass0 (pa_cons (pe_lst (pa_cons pe_int pa_nil)) (pa_cons pe_int (pa_cons (pe_lst pa_nil) (pa_cons pe_int pa_nil))))) NS.ki.cl S.mX S.GX (hr.mono (by decide)) S.bX .nil pass0 (pa_cons (pe_lst (pa_cons (pe_tup (pa_cons pe_int (pa_cons pe_int (pa_cons pe_int pa_nil)))) pa_nil)) pa_nil)) (pa_cons pe_bl pa_nil))))) (pss_one (ps_ret pe_bl)) pss_nil)
      (pss_cons (ps_if (pt_not (pt_val (pe_call S.GG (hr.mono (by decide)) (by rfl) S.gG S.FG.kp S.bG .nil pass0 (pa_cons (pe_meth (pe_make S.mI S.GI (hr.mono (by decide)) (by rfl) NS.mgC S.bI .nil pass0 (pa_cons (pe_lst (pa_cons pe_int pa_nil)) (pa_cons pe_int (pa_cons (pe_lst (pa_cons pe_int pa_nil)) (pa_cons pe_int pa_nil))))) NS.ki.cl S.mX S.GX (hr.mono (by decide)) S.bX .nil pass0 (pa_cons (pe_lst (pa_cons (pe_tup (pa_cons pe_int (pa_cons pe_int (pa_cons pe_int pa_nil)))) pa_nil)) pa_nil)) (pa_cons pe_bl pa_nil))))) (pss_one (ps_ret pe_bl)) pss_nil)
      (pss_one (ps_ret (pe_call S.GG (hr.mono (by decide)) (by rfl) S.gG S.FG.kp S.bG .nil pass0 (pa_cons (pe_meth (pe_make S.mN S.GN (hr.mono (by decide)) (by rfl) NN.mgC S.bN .nil pass0 (pa_cons pe_int (pa_cons (pe_lst (pa_cons pe_int pa_nil)) (pa_cons pe_int pa_nil)))) NN.ki.cl S.mZ S.GZ (hr.mono (by decide)) S.bZ .nil pass0 (pa_cons (pe_lst (pa_cons (pe_tup (pa_cons pe_int (pa_cons pe_int (pa_cons pe_int pa_nil)))) pa_nil)) (pa_cons pe_int pa_nil))) (pa_cons pe_bl pa_nil))))))))))
end
end Bp
namespace Bp
open PySem L2 Evl
/-! ### the law's last rows: one thing -/
def one3 : List Th := [(2, 1, 5)]
theorem one_ord : ordB 1 [0] = true := by decide
theorem barW_of {ts : List Th} {bench L : Int} {ap : List Int} (h1 : bench = 1 ∨ bench = 2) (h2 : Rises ts.length ap) (hL : 0 ≤ L) (h : (standB (sel ts bench (mkOf ap) (List.range ts.length)) && rchB (sel ts bench (fun c => !mkOf ap c) (List.range ts.length)) L) = true) : BarW ts bench ap L :=
  ⟨h1, h2.1, h2.2, (barOk_iff hL).mp h⟩
theorem so_first : soB one3 [0] 1 [] 3 = true := by
  have hB : BarW one3 1 [] 3 := barW_of (.inl rfl) (by decide) (by decide) (by decide +kernel)
  unfold soB
  rw [lawW_yes hB, show ordB one3.length [0] = true from one_ord]
  decide +kernel
theorem so_second : soB one3 [0] 1 [0] 1 = false := by
  have hB : ¬ BarW one3 1 [0] 1 := fun h => by
    have := (barOk_iff h.ok.len).mpr h.ok
    have h2 : (standB (sel one3 1 (mkOf [0]) (List.range one3.length)) && rchB (sel one3 1 (fun c => !mkOf [0] c) (List.range one3.length)) 1) = false := by decide +kernel
    rw [h2] at this
    cases this
  refine soB_no (fun t ht => ?_) hB
  obtain rfl := List.mem_singleton.mp ht
  exact ⟨by decide, by decide, by decide⟩
theorem ne_third : neB one3 1 [0] 0 1 = true := by
  have hB : BarW one3 1 [0] 0 := barW_of (.inl rfl) (by decide) (by decide) (by decide +kernel)
  unfold neB
  rw [barB_yes hB, lawW_yes hB]
  decide +kernel
abbrev tOne : TE := tLst (tCons (tTup (tCons (tC (.int 2)) (tCons (tC (.int 1)) (tCons (tC (.int 5)) tNil)))) tNil)
section
variable {K : PySem.W.Frag} {σ : L2.St} {H : Hp}
theorem ths_one {H : Hp} {t lp : Addr} (nt : H t = none) (nlp : (upd H t (.tup [.int 2, .int 1, .int 5])) lp = none) : Ths K (upd (upd H t (.tup [.int 2, .int 1, .int 5])) lp (.lst [.ref t])) lp [(t, (2, 1, 5))] := by
  refine ⟨sq_of upd_same, fun z hz => ?_, fun z hz => ?_, by show 1 ≤ 1000; decide⟩
  · obtain rfl := List.mem_singleton.mp hz
    exact st_of (Ex.new nlp _ _ upd_same)
  · obtain rfl := List.mem_singleton.mp hz
    exact ⟨(by decide : (0 : Int) ≤ 2), (by decide : (0 : Int) ≤ 1), (by decide : (0 : Int) ≤ 5)⟩
theorem ev_madeSo {CS : Addr} {t1 t2 tb tl : TE} {is ap : List Int} {bench L : Int} (h1 : EvL t1 σ H (is.map V.int)) (hb : Ev tb σ H (.int bench)) (h2 : EvL t2 σ H (ap.map V.int)) (hl : Ev tl σ H (.int L)) (hi : is.length ≤ 1000) :
    Ev (tMeth CS "shows" (spShowsSo K CS) [] E0 (tMake CS (spInitSo K CS) [] E0 (tCons t1 (tCons tb (tCons t2 (tCons tl tNil))))) (tCons tOne tNil)) σ H (.bl (soB one3 is bench ap L)) := fun H0 e0 Q q =>
  h1 H0 e0 _ fun p1 H1 _ e1 hp1 => hb H1 (e0.trans e1) _ fun H1' e1' => h2 H1' ((e0.trans e1).trans e1') _ fun p2 H2 _ e2 hp2 => hl H2 (((e0.trans e1).trans e1').trans e2) _ fun H2' e2' x dx nx ndx nex => by
    have eN : Ex H2' (upd (upd H2' dx (.own x)) x (.ins CS dx [])) := (Ex.new ndx).trans (Ex.new (by rw [upd_ne nex.symm]; exact nx))
    refine ⟨x, dx, p1, p2, is.map V.int, ap.map V.int, bench, L, rfl, upd_same, sq_of (eN _ _ (e2' _ _ (e2 _ _ (e1' _ _ hp1)))), sq_of (eN _ _ (e2' _ _ hp2)), fun o c H3 no nc noc hbx hx ho hc => ⟨rfl, x, dx, _, rfl, hx, fSo_shows _ _ _ _, (by show 3 ≤ sizeLine; decide), fun t nt => ⟨(by show 1 ≤ sizeLine; decide), fun lp nlp => ?_⟩⟩⟩
    have eT := (Ex.new (o := .tup [.int 2, .int 1, .int 5]) nt).trans (Ex.new (o := .lst [.ref t]) nlp)
    refine ⟨x, dx, o, c, lp, [(t, (2, 1, 5))], is, ap, bench, L, rfl, eT _ _ hx, sq_of (eT _ _ ho), sq_of (eT _ _ hc), ths_one nt nlp, hi, fun H4 e4 => q H4 ?_⟩
    exact ((((e1.trans e1').trans e2).trans e2').trans (Exb.ex eN hbx nx)).trans (eT.trans e4)
theorem ev_madeNe {CN : Addr} {t2 tb tl tt : TE} {ap : List Int} {bench L t : Int} (hb : Ev tb σ H (.int bench)) (h2 : EvL t2 σ H (ap.map V.int)) (hl : Ev tl σ H (.int L)) (ht : ∀ H1, Ex H H1 → Ev tt σ H1 (.int t)) :
    Ev (tMeth CN "shows" (spShowsNe K CN) [] E0 (tMake CN (spInitNe K CN) [] E0 (tCons tb (tCons t2 (tCons tl tNil)))) (tCons tOne (tCons tt tNil))) σ H (.bl (neB one3 bench ap L t)) := fun H0 e0 Q q =>
  hb H0 e0 _ fun H1' e1' => h2 H1' (e0.trans e1') _ fun p2 H2 _ e2 hp2 => hl H2 ((e0.trans e1').trans e2) _ fun H2' e2' x dx nx ndx nex => by
    have eN : Ex H2' (upd (upd H2' dx (.own x)) x (.ins CN dx [])) := (Ex.new ndx).trans (Ex.new (by rw [upd_ne nex.symm]; exact nx))
    refine ⟨x, dx, p2, ap.map V.int, bench, L, rfl, upd_same, sq_of (eN _ _ (e2' _ _ hp2)), fun c H3 nc hbx hx hc => ⟨rfl, x, dx, _, rfl, hx, fNe_shows _ _ _, (by show 3 ≤ sizeLine; decide), fun t' nt => ⟨(by show 1 ≤ sizeLine; decide), fun lp nlp => ?_⟩⟩⟩
    have eT := (Ex.new (o := .tup [.int 2, .int 1, .int 5]) nt).trans (Ex.new (o := .lst [.ref t']) nlp)
    have e23 := (((e1'.trans e2).trans e2').trans (Exb.ex eN hbx nx)).trans eT
    refine ht _ (e0.trans e23) _ (Ex.refl _) _ fun H4 e4 => ?_
    exact ⟨x, dx, c, lp, [(t', (2, 1, 5))], ap, bench, L, t, rfl, e4 _ _ (eT _ _ hx), sq_of (e4 _ _ (eT _ _ hc)), (ths_one nt nlp).mono e4, fun H5 e5 => q H5 (e23.trans (e4.trans e5))⟩
theorem at_ints {is : List Int} {d : Int} (h0 : 0 ≤ d) (h1 : d < (is.length : Int)) : atI (is.map V.int) d = some (.int (is.getD d.toNat 0)) := by
  refine at_of (j := d.toNat) (by omega) ?_
  rw [List.getElem?_map, List.getD_eq_getElem?_getD, List.getElem?_eq_getElem (by omega)]
  rfl
def rMin2 : List V → Hp → VK → Prop := fun xs H Q => ∃ i j, xs = [.int i, .int j] ∧ Q (.int (if j < i then j else i)) H
theorem cut_one (xs : List V) (k : Nat) : cutV xs (some (k : Int)) (some ((k : Int) + 1)) = (xs.drop k).take 1 := by
  unfold cutV
  rw [HT.sIx_nat, show HT.sIx xs.length xs.length (some ((k : Int) + 1)) = min (k + 1) xs.length from HT.sIx_nat _ _ (k + 1)]
  rcases Nat.lt_or_ge k xs.length with h | h
  · rw [Nat.min_eq_left (by omega), Nat.min_eq_left (by omega), Nat.add_sub_cancel_left]
  · rw [Nat.min_eq_right (by omega), Nat.min_eq_right (by omega), Nat.sub_self, List.drop_of_length_le h]
    simp
theorem flat_ints (is : List Int) : (is.map V.int).all flatV = true := by
  rw [List.all_map]
  exact List.all_eq_true.mpr fun _ _ => rfl
theorem given_nat (n : Nat) (f : Nat → Bool) : given n f (fun i => .int (i : Int)) = (asI ((List.range n).filter f)).map V.int := by
  unfold given asI
  rw [List.map_map]
  rfl
theorem q_parBent {D : Ends} {tz : TS} {i j : Nat} {ta ta' : TA} {a b : Addr} {is ap : List Int} {c c' : Int} {n : Nat} (h : EvA ta σ H [.ref a, .int c, .int (n : Int)]) (h' : EvA ta' σ H [.ref b, .int c', .int (n : Int)]) (hA : SqL K H a (is.map V.int)) (hB : SqL K H b (ap.map V.int)) (l1 : is.length ≤ 500) (l2 : ap.length ≤ 500)
    (k : ∀ (p r : Addr) (js ks : List Int) (H3 : Hp), Ex H H3 → H3 p = some (.lst (js.map V.int)) → H3 r = some (.lst (ks.map V.int)) → js.length ≤ is.length + 1 → ks.length ≤ ap.length + 1 → tz D ((σ.set i (some (.ref p))).set j (some (.ref r))) H3) :
    tSeq (tPar i j (tCons (tCall (spBent K) [] E0 ta) (tCons (tCall (spBent K) [] E0 ta') tNil))) tz D σ H :=
  h H (Ex.refl H) _ fun H1 e1 => ⟨a, is, c, n, rfl, ex_l e1 hA, l1, fun p js H2 e2 np hp lj => h' H2 (e1.trans e2) _ fun H3 e3 => ⟨b, ap, c', n, rfl, ex_l ((e1.trans e2).trans e3) hB, l2, fun r ks H4 e4 nr hr lk => ⟨_, _, rfl, k p r js ks H4 (((e1.trans e2).trans e3).trans e4) (e4 _ _ (e3 _ _ hp)) hr lj lk⟩⟩⟩
end
section
variable {P : Program} {w : World} {K : PySem.W.Frag} {mg : Str → Option Value} {base : Heap}
set_option maxHeartbeats 3200000 in
theorem ok_law4 {f fT fE fD fB fR fS fG fI fN fX fZ CS CN : Addr} {fd dT' dE dD dB dR dS dG dI dN dX dZ : FuncData} (F : Fun K "law" "law" sLaw f fd) (T : Bn mg) (T2 : Bn2 mg) (hmin : mg "min" = none) (NS : KSo K mg CS) (NN : KNe K mg CN) (S : L4ks K mg P w base fT fE fD fB fR fS fG fI fN fX fZ CS CN dT' dE dD dB dR dS dG dI dN dX dZ) : FnOk P w K mg base CX0 6 f fd ["_law_script"] (spLaw K) := by
  refine F.ok scLaw4 (fun vs H Q E h => ?_) (fun cdv Ar outer s H vs Q E hr h => ?_)
  · obtain ⟨a, ns, rfl, _⟩ := h
    rfl
  · obtain ⟨a, ns, rfl, hS, hz, q⟩ := h
    refine ⟨_, law4_pf T T2 hmin NS NN S hr, ?_⟩
    clear hr
    refine ⟨.ref a, rfl, a, ns, rfl, hS, hz, fun l zs H1 e1 nl hl hbd hzs => ?_⟩
    have hT : Ths K H1 l zs := ⟨sq_of hl, fun z hz => st_of (hbd z hz).1, fun z hz => (hbd z hz).2.nn, by omega⟩
    -- many, found
    refine ⟨.ref l, rfl, l, tv zs, rfl, .inl hT.ls, .ref l, rfl, l, zs, rfl, hT, fun x o c ord bench L ap H2 So => ⟨(by show 2 ≤ sizeLine; decide), fun p np => ?_⟩⟩
    refine eg_2 (st_of upd_same) eg_name eg_name _ (Ex.refl _) _ ?_
    rw [tv_len]
    obtain ⟨dx, hx⟩ := So.ob
    have hO := So.jo.ord.len
    have hap := So.few
    rw [ths_len] at hO hap
    have eP : Ex H2 (upd H2 p (.tup [.int (zs.length : Int), .ref x])) := Ex.new np
    have hx := eP _ _ hx
    have ho := eP _ _ So.ol
    have hc := eP _ _ So.cl
    have hL := hT.mono (So.ex.trans eP)
    have hS := ex_l (e1.trans (So.ex.trans eP)) hS
    generalize upd H2 p (.tup [.int (zs.length : Int), .ref x]) = H3 at hx ho hc hL hS
    clear eP np So hT hl hbd nl e1
    rw [ov_ints] at ho
    have hol : (asI ord).length = zs.length := by unfold asI; rw [List.length_map, hO]
    -- quick
    refine q_asgL (xs := (asI ((List.range zs.length).filter fun i => decide ((zs.getD i (0, th0)).2.1 ≤ (zs.getD i (0, th0)).2.2.2))).map V.int) (fun H4 e4 Q qq => el_lcE (a := l) (xs := tv zs) (fun i => decide ((zs.getD i (0, th0)).2.1 ≤ (zs.getD i (0, th0)).2.2.2)) (fun i => .int (i : Int)) (fun i => [some (.ref a), some (.ref l), some (.int (zs.length : Int)), some (.ref x), none, none, none, none, none, none, none, none, none, none, none, none, none, none, none, some (.int (i : Int)), some (.ref (zs.getD i (0, th0)).1)]) (ea_cons (ev_var rfl) ea_nil) hL.ls (by rw [tv_len]; omega) (fun i y T' H6 e6 hi hT6 => ?_) (fun i hi => rfl) (fun i y H6 e6 hi => ?_) (fun i y H6 e6 hi _ => ev_var rfl) H4 e4 Q fun p H6 np e6 hp => qq p H6 np e6 (by rw [hp, tv_len, given_nat])) fun qk H4 nqk e4 hqk => ?_
    · obtain ⟨_, rfl, _⟩ := tv_at hi
      exact eg_2 (st_of hT6) eg_name eg_name
    · obtain ⟨_, rfl, hm⟩ := tv_at hi
      exact et_test (ev_op (ev_op (ev_var rfl) ev_c (rv_ixT (ex_t e6 (hL.it _ hm)) (atI_nat (j := 0) rfl))) (ev_op (ev_var rfl) ev_c (rv_ixT (ex_t e6 (hL.it _ hm)) (atI_nat (j := 2) rfl))) rv_I0)
    have hql : (asI ((List.range zs.length).filter fun i => decide ((zs.getD i (0, th0)).2.1 ≤ (zs.getD i (0, th0)).2.2.2))).length ≤ zs.length := by
      unfold asI
      rw [List.length_map]
      exact Nat.le_trans (List.length_filter_le _ _) (by rw [List.length_range]; exact Nat.le_refl _)
    generalize asI ((List.range zs.length).filter fun i => decide ((zs.getD i (0, th0)).2.1 ≤ (zs.getD i (0, th0)).2.2.2)) = qs at hqk hql
    have hx := e4 _ _ hx
    have ho := e4 _ _ ho
    have hc := e4 _ _ hc
    have hL := hL.mono e4
    have hS := ex_l e4 hS
    clear e4 nqk
    have fld : ∀ {σ : L2.St} {H' : Hp} {te : TE} {g : Str} {v : V}, Ex H4 H' → NoAttr K CS g → (fSo o bench c L).lookup g = some v → Ev te σ H' (.ref x) → Ev (tFld K te g) σ H' v := fun e n lk h => ev_fld h (e _ _ hx) NS.ki.cl n lk
    have cellv : ∀ {σ : L2.St} {H2 : Hp} {tl tk : TE} (k : Nat), Ex H4 H2 → Ev tl σ H2 (.ref a) → Ev tk σ H2 (.int (k : Int)) → Ev (tCall (spCell K) [] E0 (tCons tl (tCons tk tNil))) σ H2 (.int (ns.getD k 0)) := fun k e2 h1 h2 =>
      ev_call (ea_cons h1 (ea_cons h2 ea_nil)) fun H3 e3 Q q E => ⟨a, ns, k, rfl, ex_l (e2.trans e3) hS, q⟩
    have drawv : ∀ {σ : L2.St} {H2 : Hp} {t1 t2 t3 : TE} {x y z : Int}, 0 < z → Ev t1 σ H2 (.int x) → Ev t2 σ H2 (.int y) → Ev t3 σ H2 (.int z) → Ev (tCall spDraw [] E0 (tCons t1 (tCons t2 (tCons t3 tNil)))) σ H2 (.int (drawF x y z)) := fun hp h1 h2 h3 =>
      ev_call (ea_cons h1 (ea_cons h2 (ea_cons h3 ea_nil))) fun H3 e3 Q q E => ⟨_, _, _, rfl, hp, q⟩
    have right : ∀ {σ : L2.St} {H' : Hp} {t1 t2 t3 t4 t5 : TE} {b' c' : Addr} {is' ap' : List Int} {bench' L' : Int}, Ex H4 H' → SqL K H' b' (is'.map V.int) → SqL K H' c' (ap'.map V.int) → is'.length ≤ 600 → ap'.length ≤ 600 → Ev t1 σ H' (.ref l) → Ev t2 σ H' (.ref b') → Ev t3 σ H' (.int bench') → Ev t4 σ H' (.ref c') → Ev t5 σ H' (.int L') → Ev (tCall (spRight K) [] E0 (tCons t1 (tCons t2 (tCons t3 (tCons t4 (tCons t5 tNil)))))) σ H' (.bl true) := fun e s1 s2 g1 g2 h1 h2 h3 h4 h5 =>
      ev_call (ea_cons h1 (ea_cons h2 (ea_cons h3 (ea_cons h4 (ea_cons h5 ea_nil))))) fun H3 e3 Q q E => ⟨l, _, _, zs, _, _, _, _, rfl, hL.mono (e.trans e3), ex_l e3 s1, ex_l e3 s2, g1, g2, q⟩
    have maxv : ∀ {σ : L2.St} {H' : Hp} {t1 t2 : TE} {i j : Int}, Ev t1 σ H' (.int i) → Ev t2 σ H' (.int j) → Ev (tCB rMax2 (tCons t1 (tCons t2 tNil))) σ H' (.int (if j > i then j else i)) := fun h1 h2 => ev_cb (ea_cons h1 (ea_cons h2 ea_nil)) fun H1 e Q q => ⟨_, _, rfl, q H1 (Ex.refl H1)⟩
    obtain ⟨mx, hmx, hmp⟩ : ∃ mx : Int, (if (zs.length : Int) > 1 then (zs.length : Int) else 1) = mx ∧ 0 < mx := ⟨_, rfl, by split <;> omega⟩
    obtain ⟨m, hm1, hm2, hm3⟩ : ∃ m : Int, (decide ((zs.length : Int) > 40) = true → m = 2) ∧ (decide ((zs.length : Int) > 40) = false → m = 4) ∧ 0 ≤ m ∧ m ≤ 100000 := by
      cases h : decide ((zs.length : Int) > 40) with
      | true => exact ⟨2, (fun _ => rfl), (fun h => by cases h), by decide, by decide⟩
      | false => exact ⟨4, (fun h => by cases h), (fun _ => rfl), by decide, by decide⟩
    refine q_forR1 (n := m) (ea_cons (ev_if (b := decide ((zs.length : Int) > 40)) (et_test (ev_op (ev_var rfl) ev_c rv_I0)) (fun h => by rw [hm1 h]; exact ev_c) (fun h => by rw [hm2 h]; exact ev_c)) ea_nil) hm3 (fun i σ' H' => ∃ v5 v6 v7 v8 v9 v10 v11 v12 v13 v14 v15 v16 v17 v18 v19 v20 : Option V, σ' = [some (.ref a), some (.ref l), some (.int (zs.length : Int)), some (.ref x), some (.ref qk), v5, v6, v7, v8, v9, v10, v11, v12, v13, v14, v15, v16, v17, v18, v19, v20] ∧ Ex H4 H')
      (fun H5 e5 => ⟨none, none, none, none, none, none, none, none, none, none, none, none, none, none, none, none, rfl, e5⟩) ?_ ?_
    · rintro i σ' H5 hi ⟨v5, v6, v7, v8, v9, v10, v11, v12, v13, v14, v15, v16, v17, v18, v19, v20, rfl, e0⟩
      refine q_asg (v := .int (ns.getD i 0 + 977 * (i : Int) + 7 * ns.getD (i + 1) 0)) (ev_op (ev_op (cellv i e0 (ev_var rfl) (ev_var rfl)) (ev_op ev_c (ev_var rfl) (rv_I (.inl (by decide)))) rv_I0) (ev_op ev_c (cellv (i + 1) e0 (ev_var rfl) (ev_op (ev_var rfl) ev_c rv_I0)) (rv_I (.inl (by decide)))) rv_I0) fun H6 e6 => ?_
      generalize ns.getD i 0 + 977 * (i : Int) + 7 * ns.getD (i + 1) 0 = cell
      have e06 := e0.trans e6
      have d5 := drawF_lt (c := cell) (k := 5) (m := 5) (by decide)
      refine q_asg (v := .int ([bench, bench, 3 - bench, 0, 3].getD (drawF cell 5 5).toNat 0)) (ev_opU1 (xs := [bench, bench, 3 - bench, 0, 3].map V.int) (eu_tup (ea_cons (fld e06 NS.nB (fSo_bench _ _ _ _) (ev_var rfl)) (ea_cons (fld e06 NS.nB (fSo_bench _ _ _ _) (ev_var rfl)) (ea_cons (ev_op ev_c (fld e06 NS.nB (fSo_bench _ _ _ _) (ev_var rfl)) rv_I0) (ea_cons ev_c (ea_cons ev_c ea_nil))))) (by show 5 ≤ 100000; decide)) (fun H7 e7 => drawv (z := 5) (by decide) (ev_var rfl) ev_c ev_c) fun p H7 hp e7 => rv_ixT (st_of hp) (at_ints d5.1 d5.2)) fun H7 e7 => ?_
      generalize [bench, bench, 3 - bench, 0, 3].getD (drawF cell 5 5).toNat 0 = bench'
      have e07 := e06.trans e7
      have d6 := drawF_lt (c := cell) (k := 6) (m := 5) (by decide)
      refine q_asg (v := .int (L + [0, 0, 0, 1, -1].getD (drawF cell 6 5).toNat 0)) (ev_op (fld e07 NS.nL (fSo_length _ _ _ _) (ev_var rfl)) (ev_opU1 (xs := [0, 0, 0, 1, -1].map V.int) (eu_tup (ea_cons ev_c (ea_cons ev_c (ea_cons ev_c (ea_cons ev_c (ea_cons (ev_un ev_c ru_neg) ea_nil))))) (by show 5 ≤ 100000; decide)) (fun H8 e8 => drawv (z := 5) (by decide) (ev_var rfl) ev_c ev_c) fun p H8 hp e8 => rv_ixT (st_of hp) (at_ints d6.1 d6.2)) rv_I0) fun H8 e8 => ?_
      generalize L + [0, 0, 0, 1, -1].getD (drawF cell 6 5).toNat 0 = len'
      have e08 := e07.trans e8
      refine q_parBent (n := zs.length) (ea_cons (fld e08 NS.nO (fSo_order _ _ _ _) (ev_var rfl)) (ea_cons (ev_var rfl) (ea_cons (ev_var rfl) ea_nil))) (ea_cons (fld e08 NS.nA (fSo_apart _ _ _ _) (ev_var rfl)) (ea_cons (ev_op (ev_var rfl) ev_c (rv_I ⟨by decide, by decide⟩)) (ea_cons (ev_var rfl) ea_nil))) (sq_of (e08 _ _ ho)) (sq_of (e08 _ _ hc)) (by omega) (by omega) fun p9 p10 js ks H9 e9 h9 h10 lj lk => ?_
      have e09 := e08.trans e9
      refine q_when (b := false) (et_is (et_not (et_B (right e09 (sq_of (e09 _ _ ho)) (sq_of h10) (by omega) (by omega) (ev_var rfl) (fld e09 NS.nO (fSo_order _ _ _ _) (ev_var rfl)) (ev_var rfl) (ev_var rfl) (ev_var rfl)))) rfl) (fun q => by cases q) fun _ H10 e10 => ?_
      have e010 := e09.trans e10
      refine q_when (b := false) (et_is (et_not (et_B (right e010 (sq_of (e10 _ _ h9)) (sq_of (e010 _ _ hc)) (by omega) (by omega) (ev_var rfl) (ev_var rfl) (fld e010 NS.nB (fSo_bench _ _ _ _) (ev_var rfl)) (fld e010 NS.nA (fSo_apart _ _ _ _) (ev_var rfl)) (fld e010 NS.nL (fSo_length _ _ _ _) (ev_var rfl))))) rfl) (fun q => by cases q) fun _ H11 e11 => ?_
      have e011 := e010.trans e11
      -- drawn
      have d8 := drawF_lt (c := cell) (k := 8) (m := 6) (by decide)
      obtain ⟨nd, hnd, hn1, hn2⟩ : ∃ nd : Int, (if drawF cell 8 6 < (zs.length : Int) then drawF cell 8 6 else (zs.length : Int)) = nd ∧ 0 ≤ nd ∧ nd ≤ 189 := ⟨_, rfl, by split <;> omega, by split <;> omega⟩
      refine q_asgL (xs := ((List.range nd.toNat).map fun (j : Nat) => drawF (cell + (j : Int)) 7 mx).map V.int) (fun H12 e12 Q qq => el_lcR1 (n := nd) (fun _ => true) (fun j => .int (drawF (cell + (j : Int)) 7 mx)) (ea_cons (ev_cb (z := .int nd) (r := rMin2) (ea_cons (ev_var rfl) (ea_cons (drawv (z := 6) (by decide) (ev_var rfl) ev_c ev_c) ea_nil)) fun H1 e Q q => ⟨_, _, rfl, by rw [hnd]; exact q H1 (Ex.refl H1)⟩) ea_nil) ⟨hn1, by omega⟩ (fun x => rfl) (fun j H1 e1 hj => et_yes) (fun j H1 e1 hj _ => drawv (z := mx) hmp (ev_op (ev_var rfl) (ev_var rfl) rv_I0) ev_c (ev_is (maxv ev_c (ev_var rfl)) (by rw [hmx]))) H12 e12 Q fun p H13 np e13 hp => qq p H13 np e13 (by rw [hp, given_all, List.map_map]; rfl)) fun p11 H12 np11 e12 h11 => ?_
      have hdl : ((List.range nd.toNat).map fun (j : Nat) => drawF (cell + (j : Int)) 7 mx).length ≤ 189 := by rw [List.length_map, List.length_range]; omega
      generalize ((List.range nd.toNat).map fun (j : Nat) => drawF (cell + (j : Int)) 7 mx) = ds at h11 hdl
      have e012 := e011.trans e12
      -- slow
      refine q_asgL (xs := (asI ((List.range zs.length).filter fun j => !inV (.int (j : Int)) (qs.map V.int))).map V.int) (fun H13 e13 Q qq => el_lcR1 (n := (zs.length : Int)) (fun j => !inV (.int (j : Int)) (qs.map V.int)) (fun j => .int (j : Int)) (ea_cons (ev_var rfl) ea_nil) ⟨by omega, by omega⟩ (fun x => rfl) (fun j H1 e1 hj => et_test (ev_op (ev_var rfl) (ev_var rfl) (rv_niL (sq_of ((e012.trans e1) _ _ hqk)) rfl (flat_ints qs)))) (fun j H1 e1 hj _ => ev_var rfl) H13 e13 Q fun p H14 np e14 hp => qq p H14 np e14 (by rw [hp, Int.toNat_natCast, given_nat])) fun p12 H13 np12 e13 h12 => ?_
      have hsl : (asI ((List.range zs.length).filter fun j => !inV (.int (j : Int)) (qs.map V.int))).length ≤ zs.length := by
        unfold asI
        rw [List.length_map]
        exact Nat.le_trans (List.length_filter_le _ _) (by rw [List.length_range]; exact Nat.le_refl _)
      generalize asI ((List.range zs.length).filter fun j => !inV (.int (j : Int)) (qs.map V.int)) = ss at h12 hsl
      have e013 := e012.trans e13
      -- lists, spot
      refine ⟨.ref p11, rfl, p11, ds, rfl, sq_of (e13 _ _ h11), by omega, fun st cnt hcnt nst => ⟨st, _, cnt, rfl, upd_same, by omega, fun js2 r hs hm hl2 nr => ⟨.ref qk, rfl, .ref p12, rfl, (by show 0 ≤ sizeLine; decide), fun e ne => ⟨(by show 4 ≤ sizeLine; decide), fun tp ntp => ?_⟩⟩⟩⟩
      have eS := (Ex.new (o := BpS.SetOx w st ds cnt) nst).trans (Ex.new (o := .lst (js2.map V.int)) nr)
      have hr1 : (upd (upd (upd (upd H13 st (BpS.SetOx w st ds cnt)) r (.lst (js2.map V.int))) e (.lst [])) tp (.tup [.ref r, .ref qk, .ref p12, .ref e])) r = some (.lst (js2.map V.int)) := Ex.new (o := .tup [.ref r, .ref qk, .ref p12, .ref e]) ntp _ _ (Ex.new (o := .lst []) ne _ _ (upd_same (H := upd H13 st (BpS.SetOx w st ds cnt)) (a := r) (o := .lst (js2.map V.int))))
      have he1 : (upd (upd (upd (upd H13 st (BpS.SetOx w st ds cnt)) r (.lst (js2.map V.int))) e (.lst [])) tp (.tup [.ref r, .ref qk, .ref p12, .ref e])) e = some (.lst []) := Ex.new (o := .tup [.ref r, .ref qk, .ref p12, .ref e]) ntp _ _ (upd_same (H := upd (upd H13 st (BpS.SetOx w st ds cnt)) r (.lst (js2.map V.int))) (a := e) (o := .lst []))
      have htp : (upd (upd (upd (upd H13 st (BpS.SetOx w st ds cnt)) r (.lst (js2.map V.int))) e (.lst [])) tp (.tup [.ref r, .ref qk, .ref p12, .ref e])) tp = some (.tup [.ref r, .ref qk, .ref p12, .ref e]) := upd_same (H := upd (upd (upd H13 st (BpS.SetOx w st ds cnt)) r (.lst (js2.map V.int))) e (.lst [])) (a := tp) (o := .tup [.ref r, .ref qk, .ref p12, .ref e])
      have e14 : Ex H13 (upd (upd (upd (upd H13 st (BpS.SetOx w st ds cnt)) r (.lst (js2.map V.int))) e (.lst [])) tp (.tup [.ref r, .ref qk, .ref p12, .ref e])) := (eS.trans (Ex.new (o := .lst []) ne)).trans (Ex.new (o := .tup [.ref r, .ref qk, .ref p12, .ref e]) ntp)
      change tCall spDraw [] E0 _ _ (upd (upd (upd (upd H13 st (BpS.SetOx w st ds cnt)) r (.lst (js2.map V.int))) e (.lst [])) tp (.tup [.ref r, .ref qk, .ref p12, .ref e])) _
      generalize upd (upd (upd (upd H13 st (BpS.SetOx w st ds cnt)) r (.lst (js2.map V.int))) e (.lst [])) tp (.tup [.ref r, .ref qk, .ref p12, .ref e]) = H14 at hr1 he1 htp e14
      have e014 := e013.trans e14
      have d9 := drawF_lt (c := cell) (k := 9) hmp
      refine (drawv (z := mx) hmp (ev_var rfl) ev_c (ev_is (maxv ev_c (ev_var rfl)) (by rw [hmx]))) H14 (Ex.refl _) _ fun H15 e15 => ⟨_, _, rfl, ?_⟩
      obtain ⟨spot, hspot⟩ : ∃ j : Nat, drawF cell 9 mx = (j : Int) := ⟨(drawF cell 9 mx).toNat, by omega⟩
      rw [hspot]
      have e015 := e014.trans e15
      have hL15 := hL.mono e015
      -- lengths
      have hul : ((zs.drop spot).take 1).length ≤ 1 := by rw [List.length_take]; omega
      have hum : ∀ u ∈ (zs.drop spot).take 1, u ∈ zs := fun u hu => List.mem_of_mem_drop (List.mem_of_mem_take hu)
      generalize hus : (zs.drop spot).take 1 = us at hul hum
      refine q_asgL (xs := ([0, L, -1] ++ us.map fun z => z.2.1 + z.2.2.1).map V.int) (fun H16 e16 Q qq => (el_cat (el_lst (vs := [.int 0, .int L, .int (-1)]) (ea_cons ev_c (ea_cons (fld e015 NS.nL (fSo_length _ _ _ _) (ev_var rfl)) (ea_cons (ev_un ev_c ru_neg) ea_nil))) (by show 3 ≤ 100000; decide)) (el_lcNL (xs := tv us) (fun _ => true) (fun j => .int ((us.getD j (0, th0)).2.1 + (us.getD j (0, th0)).2.2.1)) (fun H17 e17 Q q => el_sl (ev_var rfl) (eo_some (ev_var rfl)) (eo_some (ev_op (ev_var rfl) ev_c rv_I0)) hL15.ls H17 e17 Q fun p H18 np e18 hp => q p H18 np e18 (by rw [hp, cut_one, tv_drop, tv_take, hus])) (by rw [tv_len]; omega) (fun x => rfl) (fun j y H1 e1 hj => et_yes) fun j y H1 e1 hj _ => ?_) (by rw [tv_len, given_ints us (0, th0) (fun z => z.2.1 + z.2.2.1), List.length_map, List.length_map]; show 3 + us.length ≤ 100000; omega)) H16 e16 Q fun p H17 np e17 hp => qq p H17 np e17 (by rw [hp, tv_len, given_ints us (0, th0) (fun z => z.2.1 + z.2.2.1), List.map_append]; rfl)) fun p15 H16 np15 e16 h15 => ?_
      · obtain ⟨_, rfl, hm'⟩ := tv_at hj
        exact ev_op (ev_op (ev_var rfl) ev_c (rv_ixT (ex_t e1 (hL15.it _ (hum _ hm'))) (atI_nat (j := 0) rfl))) (ev_op (ev_var rfl) ev_c (rv_ixT (ex_t e1 (hL15.it _ (hum _ hm'))) (atI_nat (j := 1) rfl))) rv_I0
      have hlp : 0 < ([0, L, -1] ++ us.map fun z => z.2.1 + z.2.2.1).length := by rw [List.length_append]; show 0 < 3 + _; omega
      generalize [0, L, -1] ++ us.map (fun z => z.2.1 + z.2.2.1) = lens at h15 hlp
      have e016 := e015.trans e16
      have e1416 := e15.trans e16
      refine s_forR1 (n := 4) (ea_cons ev_c ea_nil) ⟨by decide, by decide⟩ (fun j σ' H' => ∃ v16 v17 v18 v19 v20 : Option V, σ' = [some (.ref a), some (.ref l), some (.int (zs.length : Int)), some (.ref x), some (.ref qk), some (.int (i : Int)), some (.int cell), some (.int bench'), some (.int len'), some (.ref p9), some (.ref p10), some (.ref p11), some (.ref p12), some (.ref tp), some (.int (spot : Int)), some (.ref p15), v16, v17, v18, v19, v20] ∧ Ex H16 H')
        (fun H17 e17 => ⟨_, _, _, _, _, rfl, e17⟩) ?_ ?_
      · rintro j σ' H17 hj ⟨w16, w17, w18, w19, w20, rfl, e17⟩
        have e017 := e016.trans e17
        obtain ⟨pj, xs, hat, hpj, hxl⟩ : ∃ (pj : Addr) (xs : List Int), atI [V.ref r, .ref qk, .ref p12, .ref e] (((j : Int) + (i : Int)) % 4) = some (.ref pj) ∧ H17 pj = some (.lst (xs.map V.int)) ∧ xs.length ≤ 600 := by
          have g1 : 0 ≤ ((j : Int) + (i : Int)) % 4 := Int.emod_nonneg _ (by decide)
          have g2 : ((j : Int) + (i : Int)) % 4 < 4 := Int.emod_lt_of_pos _ (by decide)
          obtain h | h | h | h : ((j : Int) + (i : Int)) % 4 = 0 ∨ ((j : Int) + (i : Int)) % 4 = 1 ∨ ((j : Int) + (i : Int)) % 4 = 2 ∨ ((j : Int) + (i : Int)) % 4 = 3 := by omega
          · exact ⟨r, js2, by rw [h]; exact atI_nat (j := 0) rfl, e17 _ _ (e1416 _ _ hr1), by omega⟩
          · exact ⟨qk, qs, by rw [h]; exact atI_nat (j := 1) rfl, e017 _ _ hqk, by omega⟩
          · exact ⟨p12, ss, by rw [h]; exact atI_nat (j := 2) rfl, e17 _ _ (e1416 _ _ (e14 _ _ h12)), by omega⟩
          · exact ⟨e, [], by rw [h]; exact atI_nat (j := 3) rfl, e17 _ _ (e1416 _ _ he1), Nat.zero_le _⟩
        have hll : 0 < ((lens.map V.int).length : Int) := by rw [List.length_map]; omega
        have g3 : 0 ≤ (j : Int) % ((lens.map V.int).length : Int) := Int.emod_nonneg _ (by omega)
        have g4 : (j : Int) % ((lens.map V.int).length : Int) < (lens.length : Int) := by
          have := Int.emod_lt_of_pos (j : Int) hll
          rw [List.length_map] at this ⊢
          exact this
        refine q_par (u := .ref pj) (v := .int (lens.getD ((j : Int) % ((lens.map V.int).length : Int)).toNat 0)) (ea_cons (ev_op (ev_var rfl) (ev_op (ev_op (ev_var rfl) (ev_var rfl) rv_I0) ev_c (rv_I (by decide))) (rv_ixT (st_of (e17 _ _ (e1416 _ _ htp))) hat)) (ea_cons (ev_op (ev_var rfl) (ev_op (ev_var rfl) (ev_cb (ea_cons (ev_var rfl) ea_nil) (rc_lenL (sq_of (e17 _ _ h15)))) (rv_I hll)) (rv_ixL (sq_of (e17 _ _ h15)) (at_ints g3 g4))) ea_nil)) fun H18 e18 => ?_
        have e018 := e017.trans e18
        exact s_when (b := false) (et_is (et_not (et_B (right e018 (sq_of (e018 _ _ ho)) (sq_of (e18 _ _ hpj)) (by omega) hxl (ev_var rfl) (fld e018 NS.nO (fSo_order _ _ _ _) (ev_var rfl)) (ev_op ev_c (drawv (z := 2) (by decide) (ev_var rfl) (ev_op ev_c (ev_var rfl) rv_I0) ev_c) rv_I0) (ev_var rfl) (ev_var rfl)))) rfl) (fun q => by cases q) fun _ H19 e19 => ⟨_, _, _, _, _, rfl, (e17.trans e18).trans e19⟩
      · rintro σ' H17 ⟨w16, w17, w18, w19, w20, rfl, e17⟩
        exact ⟨_, _, _, _, _, _, _, _, _, _, _, _, _, _, _, _, rfl, e016.trans e17⟩
    · rintro σ' H5 ⟨v5, v6, v7, v8, v9, v10, v11, v12, v13, v14, v15, v16, v17, v18, v19, v20, rfl, e0⟩
      have says : ∀ {σ : L2.St} {H' : Hp} {ta tb : TE} {p q : Bool}, Ev ta σ H' (.bl p) → Ev tb σ H' (.bl q) → Ev (tCall spSays [] E0 (tCons ta (tCons tb tNil))) σ H' (.bl (decide (p = q))) := fun h1 h2 => ev_call (ea_cons h1 (ea_cons h2 ea_nil)) fun H3 e3 Q q E => ⟨_, _, rfl, q⟩
      refine q_when (b := false) (et_is (et_not (et_B (says (ev_madeSo (is := [0]) (ap := []) (el_lst (ea_cons ev_c ea_nil) (by show 1 ≤ 100000; decide)) ev_c (el_lst ea_nil (by show 0 ≤ 100000; decide)) ev_c (by show 1 ≤ 1000; decide)) ev_c))) (by rw [so_first]; rfl)) (fun q => by cases q) fun _ H6 e6 => ?_
      refine q_when (b := false) (et_is (et_not (et_B (says (ev_madeSo (is := [0]) (ap := [0]) (el_lst (ea_cons ev_c ea_nil) (by show 1 ≤ 100000; decide)) ev_c (el_lst (ea_cons ev_c ea_nil) (by show 1 ≤ 100000; decide)) ev_c (by show 1 ≤ 1000; decide)) ev_c))) (by rw [so_second]; rfl)) (fun q => by cases q) fun _ H7 e7 => ?_
      refine s_ret (v := .bl (decide (neB one3 1 [0] 0 1 = true))) (says (ev_madeNe (ap := [0]) ev_c (el_lst (ea_cons ev_c ea_nil) (by show 1 ≤ 100000; decide)) ev_c (fun _ _ => ev_c)) ev_c) fun H8 e8 => ?_
      rw [ne_third]
      exact q _
end
end Bp
namespace Bp
open PySem L2 Evl
/-! ### what the top has written -/
set_option maxHeartbeats 4000000 in
theorem all_mk {l : PySem.W.OpenLaw} {w : World} {K : PySem.W.Frag} {h : Heap} {mg : Str → Option Value} {fa f_whole f_len f_thing f_order f_ckT f_make f_rising f_seen f_part f_stand f_reach f_isbar f_worth f_jo f_last f_find f_soonest f_cell f_draw f_things f_ldone f_lorder f_lworth f_lwhole f_says f_bent f_right f_law f_iSo f_mSo f_iWi f_mWi f_iNe f_mNe C_So C_Wi C_Ne : Addr} (X : K.In h) (G : h.Ns mainGlobals mg) (hfa : mg "law" = some (.ref fa))
    {od_whole an_whole od_len an_len od_thing an_thing od_order an_order od_ckT an_ckT od_make an_make od_rising an_rising od_seen an_seen od_part an_part od_stand an_stand od_reach an_reach od_isbar an_isbar od_worth an_worth od_jo an_jo od_last an_last od_find an_find od_soonest an_soonest od_cell an_cell od_draw an_draw od_things an_things od_ldone an_ldone od_lorder an_lorder od_lworth an_lworth od_lwhole an_lwhole od_says an_says od_bent an_bent od_right an_right od_law an_law od_iSo an_iSo od_mSo an_mSo od_iWi an_iWi od_mWi an_mWi od_iNe an_iNe od_mNe an_mNe : Option Addr} {sl_whole sl_len sl_thing sl_order sl_ckT sl_make sl_rising sl_seen sl_part sl_stand sl_reach sl_isbar sl_worth sl_jo sl_last sl_find sl_soonest sl_cell sl_draw sl_things sl_ldone sl_lorder sl_lworth sl_lwhole sl_says sl_bent sl_right sl_law sl_iSo sl_mSo sl_iWi sl_mWi sl_iNe sl_mNe : Array (Option Value)} {oc_whole kV_whole dc_whole pm_whole cd_whole ct_whole oc_len kV_len dc_len pm_len cd_len ct_len oc_thing kV_thing dc_thing pm_thing cd_thing ct_thing oc_order kV_order dc_order pm_order cd_order ct_order oc_ckT kV_ckT dc_ckT pm_ckT cd_ckT ct_ckT oc_make kV_make dc_make pm_make cd_make ct_make oc_rising kV_rising dc_rising pm_rising cd_rising ct_rising oc_seen kV_seen dc_seen pm_seen cd_seen ct_seen oc_part kV_part dc_part pm_part cd_part ct_part oc_stand kV_stand dc_stand pm_stand cd_stand ct_stand oc_reach kV_reach dc_reach pm_reach cd_reach ct_reach oc_isbar kV_isbar dc_isbar pm_isbar cd_isbar ct_isbar oc_worth kV_worth dc_worth pm_worth cd_worth ct_worth oc_jo kV_jo dc_jo pm_jo cd_jo ct_jo oc_last kV_last dc_last pm_last cd_last ct_last oc_find kV_find dc_find pm_find cd_find ct_find oc_soonest kV_soonest dc_soonest pm_soonest cd_soonest ct_soonest oc_cell kV_cell dc_cell pm_cell cd_cell ct_cell oc_draw kV_draw dc_draw pm_draw cd_draw ct_draw oc_things kV_things dc_things pm_things cd_things ct_things oc_ldone kV_ldone dc_ldone pm_ldone cd_ldone ct_ldone oc_lorder kV_lorder dc_lorder pm_lorder cd_lorder ct_lorder oc_lworth kV_lworth dc_lworth pm_lworth cd_lworth ct_lworth oc_lwhole kV_lwhole dc_lwhole pm_lwhole cd_lwhole ct_lwhole oc_says kV_says dc_says pm_says cd_says ct_says oc_bent kV_bent dc_bent pm_bent cd_bent ct_bent oc_right kV_right dc_right pm_right cd_right ct_right oc_law kV_law dc_law pm_law cd_law ct_law oc_iSo kV_iSo dc_iSo pm_iSo cd_iSo ct_iSo oc_mSo kV_mSo dc_mSo pm_mSo cd_mSo ct_mSo oc_iWi kV_iWi dc_iWi pm_iWi cd_iWi ct_iWi oc_mWi kV_mWi dc_mWi pm_mWi cd_mWi ct_mWi oc_iNe kV_iNe dc_iNe pm_iNe cd_iNe ct_iNe oc_mNe kV_mNe dc_mNe pm_mNe cd_mNe ct_mNe : Value}
    (a_whole : PySem.W.nsIn K mainGlobals "is_whole" = some (some (.ref f_whole))) (l_whole : K.lookup f_whole = some ⟨oc_whole, od_whole, .func (PySem.W.fnOf "is_whole" "is_whole" (defArgs sWhole) (defBody sWhole) (defScope sWhole) .none kV_whole dc_whole pm_whole an_whole cd_whole ct_whole), sl_whole⟩) (c_whole : PySem.W.codeIn K cd_whole "is_whole" = true) (k_whole : PySem.W.keepIn K (.ref f_whole) = true)
    (a_len : PySem.W.nsIn K mainGlobals "is_length" = some (some (.ref f_len))) (l_len : K.lookup f_len = some ⟨oc_len, od_len, .func (PySem.W.fnOf "is_length" "is_length" (defArgs sLen) (defBody sLen) (defScope sLen) .none kV_len dc_len pm_len an_len cd_len ct_len), sl_len⟩) (c_len : PySem.W.codeIn K cd_len "is_length" = true) (k_len : PySem.W.keepIn K (.ref f_len) = true)
    (a_thing : PySem.W.nsIn K mainGlobals "is_thing" = some (some (.ref f_thing))) (l_thing : K.lookup f_thing = some ⟨oc_thing, od_thing, .func (PySem.W.fnOf "is_thing" "is_thing" (defArgs sThing) (defBody sThing) (defScope sThing) .none kV_thing dc_thing pm_thing an_thing cd_thing ct_thing), sl_thing⟩) (c_thing : PySem.W.codeIn K cd_thing "is_thing" = true) (k_thing : PySem.W.keepIn K (.ref f_thing) = true)
    (a_order : PySem.W.nsIn K mainGlobals "is_order" = some (some (.ref f_order))) (l_order : K.lookup f_order = some ⟨oc_order, od_order, .func (PySem.W.fnOf "is_order" "is_order" (defArgs sOrder) (defBody sOrder) (defScope sOrder) .none kV_order dc_order pm_order an_order cd_order ct_order), sl_order⟩) (c_order : PySem.W.codeIn K cd_order "is_order" = true) (k_order : PySem.W.keepIn K (.ref f_order) = true)
    (a_ckT : PySem.W.nsIn K mainGlobals "check_things" = some (some (.ref f_ckT))) (l_ckT : K.lookup f_ckT = some ⟨oc_ckT, od_ckT, .func (PySem.W.fnOf "check_things" "check_things" (defArgs sCkT) (defBody sCkT) (defScope sCkT) .none kV_ckT dc_ckT pm_ckT an_ckT cd_ckT ct_ckT), sl_ckT⟩) (c_ckT : PySem.W.codeIn K cd_ckT "check_things" = true) (k_ckT : PySem.W.keepIn K (.ref f_ckT) = true)
    (a_make : PySem.W.nsIn K mainGlobals "make_in_order" = some (some (.ref f_make))) (l_make : K.lookup f_make = some ⟨oc_make, od_make, .func (PySem.W.fnOf "make_in_order" "make_in_order" (defArgs sMake) (defBody sMake) (defScope sMake) .none kV_make dc_make pm_make an_make cd_make ct_make), sl_make⟩) (c_make : PySem.W.codeIn K cd_make "make_in_order" = true) (k_make : PySem.W.keepIn K (.ref f_make) = true)
    (a_rising : PySem.W.nsIn K mainGlobals "is_rising" = some (some (.ref f_rising))) (l_rising : K.lookup f_rising = some ⟨oc_rising, od_rising, .func (PySem.W.fnOf "is_rising" "is_rising" (defArgs sRising) (defBody sRising) (defScope sRising) .none kV_rising dc_rising pm_rising an_rising cd_rising ct_rising), sl_rising⟩) (c_rising : PySem.W.codeIn K cd_rising "is_rising" = true) (k_rising : PySem.W.keepIn K (.ref f_rising) = true)
    (a_seen : PySem.W.nsIn K mainGlobals "seen_from" = some (some (.ref f_seen))) (l_seen : K.lookup f_seen = some ⟨oc_seen, od_seen, .func (PySem.W.fnOf "seen_from" "seen_from" (defArgs sSeen) (defBody sSeen) (defScope sSeen) .none kV_seen dc_seen pm_seen an_seen cd_seen ct_seen), sl_seen⟩) (c_seen : PySem.W.codeIn K cd_seen "seen_from" = true) (k_seen : PySem.W.keepIn K (.ref f_seen) = true)
    (a_part : PySem.W.nsIn K mainGlobals "part_things" = some (some (.ref f_part))) (l_part : K.lookup f_part = some ⟨oc_part, od_part, .func (PySem.W.fnOf "part_things" "part_things" (defArgs sPart) (defBody sPart) (defScope sPart) .none kV_part dc_part pm_part an_part cd_part ct_part), sl_part⟩) (c_part : PySem.W.codeIn K cd_part "part_things" = true) (k_part : PySem.W.keepIn K (.ref f_part) = true)
    (a_stand : PySem.W.nsIn K mainGlobals "may_stand_apart" = some (some (.ref f_stand))) (l_stand : K.lookup f_stand = some ⟨oc_stand, od_stand, .func (PySem.W.fnOf "may_stand_apart" "may_stand_apart" (defArgs sStand) (defBody sStand) (defScope sStand) .none kV_stand dc_stand pm_stand an_stand cd_stand ct_stand), sl_stand⟩) (c_stand : PySem.W.codeIn K cd_stand "may_stand_apart" = true) (k_stand : PySem.W.keepIn K (.ref f_stand) = true)
    (a_reach : PySem.W.nsIn K mainGlobals "reach_length" = some (some (.ref f_reach))) (l_reach : K.lookup f_reach = some ⟨oc_reach, od_reach, .func (PySem.W.fnOf "reach_length" "reach_length" (defArgs sReach) (defBody sReach) (defScope sReach) .none kV_reach dc_reach pm_reach an_reach cd_reach ct_reach), sl_reach⟩) (c_reach : PySem.W.codeIn K cd_reach "reach_length" = true) (k_reach : PySem.W.keepIn K (.ref f_reach) = true)
    (a_isbar : PySem.W.nsIn K mainGlobals "is_bar" = some (some (.ref f_isbar))) (l_isbar : K.lookup f_isbar = some ⟨oc_isbar, od_isbar, .func (PySem.W.fnOf "is_bar" "is_bar" (defArgs sIsBar) (defBody sIsBar) (defScope sIsBar) .none kV_isbar dc_isbar pm_isbar an_isbar cd_isbar ct_isbar), sl_isbar⟩) (c_isbar : PySem.W.codeIn K cd_isbar "is_bar" = true) (k_isbar : PySem.W.keepIn K (.ref f_isbar) = true)
    (a_worth : PySem.W.nsIn K mainGlobals "bar_worth" = some (some (.ref f_worth))) (l_worth : K.lookup f_worth = some ⟨oc_worth, od_worth, .func (PySem.W.fnOf "bar_worth" "bar_worth" (defArgs sWorth) (defBody sWorth) (defScope sWorth) .none kV_worth dc_worth pm_worth an_worth cd_worth ct_worth), sl_worth⟩) (c_worth : PySem.W.codeIn K cd_worth "bar_worth" = true) (k_worth : PySem.W.keepIn K (.ref f_worth) = true)
    (a_jo : PySem.W.nsIn K mainGlobals "soonest_order" = some (some (.ref f_jo))) (l_jo : K.lookup f_jo = some ⟨oc_jo, od_jo, .func (PySem.W.fnOf "soonest_order" "soonest_order" (defArgs sJo) (defBody sJo) (defScope sJo) .none kV_jo dc_jo pm_jo an_jo cd_jo ct_jo), sl_jo⟩) (c_jo : PySem.W.codeIn K cd_jo "soonest_order" = true) (k_jo : PySem.W.keepIn K (.ref f_jo) = true)
    (a_last : PySem.W.nsIn K mainGlobals "find_last_wait" = some (some (.ref f_last))) (l_last : K.lookup f_last = some ⟨oc_last, od_last, .func (PySem.W.fnOf "find_last_wait" "find_last_wait" (defArgs sLast) (defBody sLast) (defScope sLast) .none kV_last dc_last pm_last an_last cd_last ct_last), sl_last⟩) (c_last : PySem.W.codeIn K cd_last "find_last_wait" = true) (k_last : PySem.W.keepIn K (.ref f_last) = true)
    (a_find : PySem.W.nsIn K mainGlobals "find_bar" = some (some (.ref f_find))) (l_find : K.lookup f_find = some ⟨oc_find, od_find, .func (PySem.W.fnOf "find_bar" "find_bar" (defArgs sFind) (defBody sFind) (defScope sFind) .none kV_find dc_find pm_find an_find cd_find ct_find), sl_find⟩) (c_find : PySem.W.codeIn K cd_find "find_bar" = true) (k_find : PySem.W.keepIn K (.ref f_find) = true)
    (a_soonest : PySem.W.nsIn K mainGlobals "soonest" = some (some (.ref f_soonest))) (l_soonest : K.lookup f_soonest = some ⟨oc_soonest, od_soonest, .func (PySem.W.fnOf "soonest" "soonest" (defArgs sSoonest) (defBody sSoonest) (defScope sSoonest) .none kV_soonest dc_soonest pm_soonest an_soonest cd_soonest ct_soonest), sl_soonest⟩) (c_soonest : PySem.W.codeIn K cd_soonest "soonest" = true) (k_soonest : PySem.W.keepIn K (.ref f_soonest) = true)
    (a_cell : PySem.W.nsIn K mainGlobals "_law_cell_at" = some (some (.ref f_cell))) (l_cell : K.lookup f_cell = some ⟨oc_cell, od_cell, .func (PySem.W.fnOf "_law_cell_at" "_law_cell_at" (defArgs sCell) (defBody sCell) (defScope sCell) .none kV_cell dc_cell pm_cell an_cell cd_cell ct_cell), sl_cell⟩) (c_cell : PySem.W.codeIn K cd_cell "_law_cell_at" = true) (k_cell : PySem.W.keepIn K (.ref f_cell) = true)
    (a_draw : PySem.W.nsIn K mainGlobals "_law_draw" = some (some (.ref f_draw))) (l_draw : K.lookup f_draw = some ⟨oc_draw, od_draw, .func (PySem.W.fnOf "_law_draw" "_law_draw" (defArgs sDraw) (defBody sDraw) (defScope sDraw) .none kV_draw dc_draw pm_draw an_draw cd_draw ct_draw), sl_draw⟩) (c_draw : PySem.W.codeIn K cd_draw "_law_draw" = true) (k_draw : PySem.W.keepIn K (.ref f_draw) = true)
    (a_things : PySem.W.nsIn K mainGlobals "_law_things" = some (some (.ref f_things))) (l_things : K.lookup f_things = some ⟨oc_things, od_things, .func (PySem.W.fnOf "_law_things" "_law_things" (defArgs sThings) (defBody sThings) (defScope sThings) .none kV_things dc_things pm_things an_things cd_things ct_things), sl_things⟩) (c_things : PySem.W.codeIn K cd_things "_law_things" = true) (k_things : PySem.W.keepIn K (.ref f_things) = true)
    (a_ldone : PySem.W.nsIn K mainGlobals "_law_done" = some (some (.ref f_ldone))) (l_ldone : K.lookup f_ldone = some ⟨oc_ldone, od_ldone, .func (PySem.W.fnOf "_law_done" "_law_done" (defArgs sLdone) (defBody sLdone) (defScope sLdone) .none kV_ldone dc_ldone pm_ldone an_ldone cd_ldone ct_ldone), sl_ldone⟩) (c_ldone : PySem.W.codeIn K cd_ldone "_law_done" = true) (k_ldone : PySem.W.keepIn K (.ref f_ldone) = true)
    (a_lorder : PySem.W.nsIn K mainGlobals "_law_order" = some (some (.ref f_lorder))) (l_lorder : K.lookup f_lorder = some ⟨oc_lorder, od_lorder, .func (PySem.W.fnOf "_law_order" "_law_order" (defArgs sLorder) (defBody sLorder) (defScope sLorder) .none kV_lorder dc_lorder pm_lorder an_lorder cd_lorder ct_lorder), sl_lorder⟩) (c_lorder : PySem.W.codeIn K cd_lorder "_law_order" = true) (k_lorder : PySem.W.keepIn K (.ref f_lorder) = true)
    (a_lworth : PySem.W.nsIn K mainGlobals "_law_worth" = some (some (.ref f_lworth))) (l_lworth : K.lookup f_lworth = some ⟨oc_lworth, od_lworth, .func (PySem.W.fnOf "_law_worth" "_law_worth" (defArgs sLworth) (defBody sLworth) (defScope sLworth) .none kV_lworth dc_lworth pm_lworth an_lworth cd_lworth ct_lworth), sl_lworth⟩) (c_lworth : PySem.W.codeIn K cd_lworth "_law_worth" = true) (k_lworth : PySem.W.keepIn K (.ref f_lworth) = true)
    (a_lwhole : PySem.W.nsIn K mainGlobals "_law_whole" = some (some (.ref f_lwhole))) (l_lwhole : K.lookup f_lwhole = some ⟨oc_lwhole, od_lwhole, .func (PySem.W.fnOf "_law_whole" "_law_whole" (defArgs sLwhole) (defBody sLwhole) (defScope sLwhole) .none kV_lwhole dc_lwhole pm_lwhole an_lwhole cd_lwhole ct_lwhole), sl_lwhole⟩) (c_lwhole : PySem.W.codeIn K cd_lwhole "_law_whole" = true) (k_lwhole : PySem.W.keepIn K (.ref f_lwhole) = true)
    (a_says : PySem.W.nsIn K mainGlobals "_law_says" = some (some (.ref f_says))) (l_says : K.lookup f_says = some ⟨oc_says, od_says, .func (PySem.W.fnOf "_law_says" "_law_says" (defArgs sSays) (defBody sSays) (defScope sSays) .none kV_says dc_says pm_says an_says cd_says ct_says), sl_says⟩) (c_says : PySem.W.codeIn K cd_says "_law_says" = true) (k_says : PySem.W.keepIn K (.ref f_says) = true)
    (a_bent : PySem.W.nsIn K mainGlobals "_law_bent" = some (some (.ref f_bent))) (l_bent : K.lookup f_bent = some ⟨oc_bent, od_bent, .func (PySem.W.fnOf "_law_bent" "_law_bent" (defArgs sBent) (defBody sBent) (defScope sBent) .none kV_bent dc_bent pm_bent an_bent cd_bent ct_bent), sl_bent⟩) (c_bent : PySem.W.codeIn K cd_bent "_law_bent" = true) (k_bent : PySem.W.keepIn K (.ref f_bent) = true)
    (a_right : PySem.W.nsIn K mainGlobals "_law_right" = some (some (.ref f_right))) (l_right : K.lookup f_right = some ⟨oc_right, od_right, .func (PySem.W.fnOf "_law_right" "_law_right" (defArgs sRight) (defBody sRight) (defScope sRight) .none kV_right dc_right pm_right an_right cd_right ct_right), sl_right⟩) (c_right : PySem.W.codeIn K cd_right "_law_right" = true) (k_right : PySem.W.keepIn K (.ref f_right) = true)
    (a_law : PySem.W.nsIn K mainGlobals "law" = some (some (.ref f_law))) (l_law : K.lookup f_law = some ⟨oc_law, od_law, .func (PySem.W.fnOf "law" "law" (defArgs sLaw) (defBody sLaw) (defScope sLaw) .none kV_law dc_law pm_law an_law cd_law ct_law), sl_law⟩) (c_law : PySem.W.codeIn K cd_law "law" = true) (k_law : PySem.W.keepIn K (.ref f_law) = true)
    (g_So : PySem.W.nsIn K mainGlobals "Soonest" = some (some (.ref C_So)))
    (pg_So : PySem.W.plainGet K C_So Str.empty = true) (hd_So : PySem.W.hasDictIn K C_So = true) (po_So : PySem.W.plainOver K C_So = true) (sa_So : PySem.W.findIn K (.ref C_So) "__setattr__" = some (some (.builtin "object.__setattr__"))) (mk_So : PySem.W.makesIn K C_So = true) (kc_So : PySem.W.keepIn K (.ref C_So) = true) (ha_So : PySem.W.findIn K (.ref C_So) "__class__" = some (some (.builtin "object.__class__"))) (hm_So : PySem.W.mroIn K C_So (.type "object") = some true)
    (n_So_order : PySem.W.findIn K (.ref C_So) "order" = some none)
    (n_So_bench : PySem.W.findIn K (.ref C_So) "bench" = some none)
    (n_So_apart : PySem.W.findIn K (.ref C_So) "apart" = some none)
    (n_So_length : PySem.W.findIn K (.ref C_So) "length" = some none)
    (g_Wi : PySem.W.nsIn K mainGlobals "Within" = some (some (.ref C_Wi)))
    (pg_Wi : PySem.W.plainGet K C_Wi Str.empty = true) (hd_Wi : PySem.W.hasDictIn K C_Wi = true) (po_Wi : PySem.W.plainOver K C_Wi = true) (sa_Wi : PySem.W.findIn K (.ref C_Wi) "__setattr__" = some (some (.builtin "object.__setattr__"))) (mk_Wi : PySem.W.makesIn K C_Wi = true) (kc_Wi : PySem.W.keepIn K (.ref C_Wi) = true) (ha_Wi : PySem.W.findIn K (.ref C_Wi) "__class__" = some (some (.builtin "object.__class__"))) (hm_Wi : PySem.W.mroIn K C_Wi (.type "object") = some true)
    (n_Wi_order : PySem.W.findIn K (.ref C_Wi) "order" = some none)
    (g_Ne : PySem.W.nsIn K mainGlobals "Never" = some (some (.ref C_Ne)))
    (pg_Ne : PySem.W.plainGet K C_Ne Str.empty = true) (hd_Ne : PySem.W.hasDictIn K C_Ne = true) (po_Ne : PySem.W.plainOver K C_Ne = true) (sa_Ne : PySem.W.findIn K (.ref C_Ne) "__setattr__" = some (some (.builtin "object.__setattr__"))) (mk_Ne : PySem.W.makesIn K C_Ne = true) (kc_Ne : PySem.W.keepIn K (.ref C_Ne) = true) (ha_Ne : PySem.W.findIn K (.ref C_Ne) "__class__" = some (some (.builtin "object.__class__"))) (hm_Ne : PySem.W.mroIn K C_Ne (.type "object") = some true)
    (n_Ne_bench : PySem.W.findIn K (.ref C_Ne) "bench" = some none)
    (n_Ne_apart : PySem.W.findIn K (.ref C_Ne) "apart" = some none)
    (n_Ne_length : PySem.W.findIn K (.ref C_Ne) "length" = some none)
    (a_iSo : PySem.W.findIn K (.ref C_So) "__init__" = some (some (.ref f_iSo))) (i_iSo : PySem.W.isFn K (.ref f_iSo) = true) (l_iSo : K.lookup f_iSo = some ⟨oc_iSo, od_iSo, .func (PySem.W.fnOf "__init__" "Soonest.__init__" (defArgs iSoonest) (defBody iSoonest) (defScope iSoonest) .none kV_iSo dc_iSo pm_iSo an_iSo cd_iSo ct_iSo), sl_iSo⟩) (c_iSo : PySem.W.codeIn K cd_iSo "Soonest.__init__" = true) (k_iSo : PySem.W.keepIn K (.ref f_iSo) = true)
    (a_mSo : PySem.W.findIn K (.ref C_So) "shows" = some (some (.ref f_mSo))) (i_mSo : PySem.W.isFn K (.ref f_mSo) = true) (l_mSo : K.lookup f_mSo = some ⟨oc_mSo, od_mSo, .func (PySem.W.fnOf "shows" "Soonest.shows" (defArgs mSoonest) (defBody mSoonest) (defScope mSoonest) .none kV_mSo dc_mSo pm_mSo an_mSo cd_mSo ct_mSo), sl_mSo⟩) (c_mSo : PySem.W.codeIn K cd_mSo "Soonest.shows" = true) (k_mSo : PySem.W.keepIn K (.ref f_mSo) = true)
    (a_iWi : PySem.W.findIn K (.ref C_Wi) "__init__" = some (some (.ref f_iWi))) (i_iWi : PySem.W.isFn K (.ref f_iWi) = true) (l_iWi : K.lookup f_iWi = some ⟨oc_iWi, od_iWi, .func (PySem.W.fnOf "__init__" "Within.__init__" (defArgs iWithin) (defBody iWithin) (defScope iWithin) .none kV_iWi dc_iWi pm_iWi an_iWi cd_iWi ct_iWi), sl_iWi⟩) (c_iWi : PySem.W.codeIn K cd_iWi "Within.__init__" = true) (k_iWi : PySem.W.keepIn K (.ref f_iWi) = true)
    (a_mWi : PySem.W.findIn K (.ref C_Wi) "shows" = some (some (.ref f_mWi))) (i_mWi : PySem.W.isFn K (.ref f_mWi) = true) (l_mWi : K.lookup f_mWi = some ⟨oc_mWi, od_mWi, .func (PySem.W.fnOf "shows" "Within.shows" (defArgs mWithin) (defBody mWithin) (defScope mWithin) .none kV_mWi dc_mWi pm_mWi an_mWi cd_mWi ct_mWi), sl_mWi⟩) (c_mWi : PySem.W.codeIn K cd_mWi "Within.shows" = true) (k_mWi : PySem.W.keepIn K (.ref f_mWi) = true)
    (a_iNe : PySem.W.findIn K (.ref C_Ne) "__init__" = some (some (.ref f_iNe))) (i_iNe : PySem.W.isFn K (.ref f_iNe) = true) (l_iNe : K.lookup f_iNe = some ⟨oc_iNe, od_iNe, .func (PySem.W.fnOf "__init__" "Never.__init__" (defArgs iNever) (defBody iNever) (defScope iNever) .none kV_iNe dc_iNe pm_iNe an_iNe cd_iNe ct_iNe), sl_iNe⟩) (c_iNe : PySem.W.codeIn K cd_iNe "Never.__init__" = true) (k_iNe : PySem.W.keepIn K (.ref f_iNe) = true)
    (a_mNe : PySem.W.findIn K (.ref C_Ne) "shows" = some (some (.ref f_mNe))) (i_mNe : PySem.W.isFn K (.ref f_mNe) = true) (l_mNe : K.lookup f_mNe = some ⟨oc_mNe, od_mNe, .func (PySem.W.fnOf "shows" "Never.shows" (defArgs mNever) (defBody mNever) (defScope mNever) .none kV_mNe dc_mNe pm_mNe an_mNe cd_mNe ct_mNe), sl_mNe⟩) (c_mNe : PySem.W.codeIn K cd_mNe "Never.shows" = true) (k_mNe : PySem.W.keepIn K (.ref f_mNe) = true)
    (hn : PySem.W.specialIn K (.builtin "object.__class__") "__get__" = some (some (.builtin "getset_descriptor.__get__"))) (htk : PySem.W.takesIn K (.builtin "object.__class__") = some true)
    (z_isi : PySem.W.nsIn K mainGlobals "isinstance" = some none)
    (z_int : PySem.W.nsIn K mainGlobals "int" = some none)
    (z_bool : PySem.W.nsIn K mainGlobals "bool" = some none)
    (z_tuple : PySem.W.nsIn K mainGlobals "tuple" = some none)
    (z_len : PySem.W.nsIn K mainGlobals "len" = some none)
    (z_all : PySem.W.nsIn K mainGlobals "all" = some none)
    (z_list : PySem.W.nsIn K mainGlobals "list" = some none)
    (z_enum : PySem.W.nsIn K mainGlobals "enumerate" = some none)
    (z_max : PySem.W.nsIn K mainGlobals "max" = some none)
    (z_range : PySem.W.nsIn K mainGlobals "range" = some none)
    (z_sum : PySem.W.nsIn K mainGlobals "sum" = some none)
    (z_sorted : PySem.W.nsIn K mainGlobals "sorted" = some none)
    (z_rev : PySem.W.nsIn K mainGlobals "reversed" = some none)
    (z_set : PySem.W.nsIn K mainGlobals "set" = some none)
    (z_any : PySem.W.nsIn K mainGlobals "any" = some none)
    (z_zip : PySem.W.nsIn K mainGlobals "zip" = some none)
    (z_min : PySem.W.nsIn K mainGlobals "min" = some none)
    : ∃ fd : FuncData, (∀ (s : Shared) (v : Value), BindsTo s fd ⟨[v], []⟩ [("_law_script", v)]) ∧ ∀ base : Heap, K.In base → base.Ns mainGlobals mg → FnOk l.prog w K mg base CX0 6 fa fd ["_law_script"] (spLaw K) := by
  have e := hfa.symm.trans (PySem.W.mg_of X G a_law)
  cases e
  have F_whole := fun_mk (st := sWhole) l_whole c_whole k_whole
  have b_whole := F_whole.binds (ps := ["value"]) fun _ _ _ _ _ _ us hl => match us, hl with | [_], _ => rfl
  have m_whole := PySem.W.mg_of X G a_whole
  have F_len := fun_mk (st := sLen) l_len c_len k_len
  have b_len := F_len.binds (ps := ["value"]) fun _ _ _ _ _ _ us hl => match us, hl with | [_], _ => rfl
  have m_len := PySem.W.mg_of X G a_len
  have F_thing := fun_mk (st := sThing) l_thing c_thing k_thing
  have b_thing := F_thing.binds (ps := ["value"]) fun _ _ _ _ _ _ us hl => match us, hl with | [_], _ => rfl
  have m_thing := PySem.W.mg_of X G a_thing
  have F_order := fun_mk (st := sOrder) l_order c_order k_order
  have b_order := F_order.binds (ps := ["value", "many"]) fun _ _ _ _ _ _ us hl => match us, hl with | [_, _], _ => rfl
  have m_order := PySem.W.mg_of X G a_order
  have F_ckT := fun_mk (st := sCkT) l_ckT c_ckT k_ckT
  have b_ckT := F_ckT.binds (ps := ["things"]) fun _ _ _ _ _ _ us hl => match us, hl with | [_], _ => rfl
  have m_ckT := PySem.W.mg_of X G a_ckT
  have F_make := fun_mk (st := sMake) l_make c_make k_make
  have b_make := F_make.binds (ps := ["things", "order"]) fun _ _ _ _ _ _ us hl => match us, hl with | [_, _], _ => rfl
  have m_make := PySem.W.mg_of X G a_make
  have F_rising := fun_mk (st := sRising) l_rising c_rising k_rising
  have b_rising := F_rising.binds (ps := ["value", "many"]) fun _ _ _ _ _ _ us hl => match us, hl with | [_, _], _ => rfl
  have m_rising := PySem.W.mg_of X G a_rising
  have F_seen := fun_mk (st := sSeen) l_seen c_seen k_seen
  have b_seen := F_seen.binds (ps := ["things", "bench"]) fun _ _ _ _ _ _ us hl => match us, hl with | [_, _], _ => rfl
  have m_seen := PySem.W.mg_of X G a_seen
  have F_part := fun_mk (st := sPart) l_part c_part k_part
  have b_part := F_part.binds (ps := ["things", "bench", "apart"]) fun _ _ _ _ _ _ us hl => match us, hl with | [_, _, _], _ => rfl
  have m_part := PySem.W.mg_of X G a_part
  have F_stand := fun_mk (st := sStand) l_stand c_stand k_stand
  have b_stand := F_stand.binds (ps := ["inside"]) fun _ _ _ _ _ _ us hl => match us, hl with | [_], _ => rfl
  have m_stand := PySem.W.mg_of X G a_stand
  have F_reach := fun_mk (st := sReach) l_reach c_reach k_reach
  have b_reach := F_reach.binds (ps := ["others", "length"]) fun _ _ _ _ _ _ us hl => match us, hl with | [_, _], _ => rfl
  have m_reach := PySem.W.mg_of X G a_reach
  have F_isbar := fun_mk (st := sIsBar) l_isbar c_isbar k_isbar
  have b_isbar := F_isbar.binds (ps := ["things", "bench", "apart", "length"]) fun _ _ _ _ _ _ us hl => match us, hl with | [_, _, _, _], _ => rfl
  have m_isbar := PySem.W.mg_of X G a_isbar
  have F_worth := fun_mk (st := sWorth) l_worth c_worth k_worth
  have b_worth := F_worth.binds (ps := ["things", "bench", "apart", "length"]) fun _ _ _ _ _ _ us hl => match us, hl with | [_, _, _, _], _ => rfl
  have m_worth := PySem.W.mg_of X G a_worth
  have F_jo := fun_mk (st := sJo) l_jo c_jo k_jo
  have b_jo := F_jo.binds (ps := ["things"]) fun _ _ _ _ _ _ us hl => match us, hl with | [_], _ => rfl
  have m_jo := PySem.W.mg_of X G a_jo
  have F_last := fun_mk (st := sLast) l_last c_last k_last
  have b_last := F_last.binds (ps := ["things", "order"]) fun _ _ _ _ _ _ us hl => match us, hl with | [_, _], _ => rfl
  have m_last := PySem.W.mg_of X G a_last
  have F_find := fun_mk (st := sFind) l_find c_find k_find
  have b_find := F_find.binds (ps := ["things", "order"]) fun _ _ _ _ _ _ us hl => match us, hl with | [_, _], _ => rfl
  have m_find := PySem.W.mg_of X G a_find
  have F_soonest := fun_mk (st := sSoonest) l_soonest c_soonest k_soonest
  have b_soonest := F_soonest.binds (ps := ["things"]) fun _ _ _ _ _ _ us hl => match us, hl with | [_], _ => rfl
  have m_soonest := PySem.W.mg_of X G a_soonest
  have F_cell := fun_mk (st := sCell) l_cell c_cell k_cell
  have b_cell := F_cell.binds (ps := ["_law_script", "_law_k"]) fun _ _ _ _ _ _ us hl => match us, hl with | [_, _], _ => rfl
  have m_cell := PySem.W.mg_of X G a_cell
  have F_draw := fun_mk (st := sDraw) l_draw c_draw k_draw
  have b_draw := F_draw.binds (ps := ["_law_cell", "_law_k", "_law_many"]) fun _ _ _ _ _ _ us hl => match us, hl with | [_, _, _], _ => rfl
  have m_draw := PySem.W.mg_of X G a_draw
  have F_things := fun_mk (st := sThings) l_things c_things k_things
  have b_things := F_things.binds (ps := ["_law_script"]) fun _ _ _ _ _ _ us hl => match us, hl with | [_], _ => rfl
  have m_things := PySem.W.mg_of X G a_things
  have F_ldone := fun_mk (st := sLdone) l_ldone c_ldone k_ldone
  have b_ldone := F_ldone.binds (ps := ["_law_things_here", "_law_order_here"]) fun _ _ _ _ _ _ us hl => match us, hl with | [_, _], _ => rfl
  have m_ldone := PySem.W.mg_of X G a_ldone
  have F_lorder := fun_mk (st := sLorder) l_lorder c_lorder k_lorder
  have b_lorder := F_lorder.binds (ps := ["_law_things_here", "_law_order_here"]) fun _ _ _ _ _ _ us hl => match us, hl with | [_, _], _ => rfl
  have m_lorder := PySem.W.mg_of X G a_lorder
  have F_lworth := fun_mk (st := sLworth) l_lworth c_lworth k_lworth
  have b_lworth := F_lworth.binds (ps := ["_law_things_here", "_law_bench", "_law_apart", "_law_length"]) fun _ _ _ _ _ _ us hl => match us, hl with | [_, _, _, _], _ => rfl
  have m_lworth := PySem.W.mg_of X G a_lworth
  have F_lwhole := fun_mk (st := sLwhole) l_lwhole c_lwhole k_lwhole
  have b_lwhole := F_lwhole.binds (ps := ["_law_number"]) fun _ _ _ _ _ _ us hl => match us, hl with | [_], _ => rfl
  have m_lwhole := PySem.W.mg_of X G a_lwhole
  have F_says := fun_mk (st := sSays) l_says c_says k_says
  have b_says := F_says.binds (ps := ["_law_said", "_law_due"]) fun _ _ _ _ _ _ us hl => match us, hl with | [_, _], _ => rfl
  have m_says := PySem.W.mg_of X G a_says
  have F_bent := fun_mk (st := sBent) l_bent c_bent k_bent
  have b_bent := F_bent.binds (ps := ["_law_some", "_law_cell", "_law_many"]) fun _ _ _ _ _ _ us hl => match us, hl with | [_, _, _], _ => rfl
  have m_bent := PySem.W.mg_of X G a_bent
  have F_right := fun_mk (st := sRight) l_right c_right k_right
  have b_right := F_right.binds (ps := ["_law_things_here", "_law_order_here", "_law_bench", "_law_apart", "_law_length"]) fun _ _ _ _ _ _ us hl => match us, hl with | [_, _, _, _, _], _ => rfl
  have m_right := PySem.W.mg_of X G a_right
  have F_law := fun_mk (st := sLaw) l_law c_law k_law
  have m_law := PySem.W.mg_of X G a_law
  have F_iSo := fun_mk (st := iSoonest) l_iSo c_iSo k_iSo
  have b_iSo := F_iSo.binds (ps := ["self", "order", "bench", "apart", "length"]) fun _ _ _ _ _ _ us hl => match us, hl with | [_, _, _, _, _], _ => rfl
  have F_mSo := fun_mk (st := mSoonest) l_mSo c_mSo k_mSo
  have b_mSo := F_mSo.binds (ps := ["self", "things"]) fun _ _ _ _ _ _ us hl => match us, hl with | [_, _], _ => rfl
  have F_iWi := fun_mk (st := iWithin) l_iWi c_iWi k_iWi
  have b_iWi := F_iWi.binds (ps := ["self", "order"]) fun _ _ _ _ _ _ us hl => match us, hl with | [_, _], _ => rfl
  have F_mWi := fun_mk (st := mWithin) l_mWi c_mWi k_mWi
  have b_mWi := F_mWi.binds (ps := ["self", "things", "time"]) fun _ _ _ _ _ _ us hl => match us, hl with | [_, _, _], _ => rfl
  have F_iNe := fun_mk (st := iNever) l_iNe c_iNe k_iNe
  have b_iNe := F_iNe.binds (ps := ["self", "bench", "apart", "length"]) fun _ _ _ _ _ _ us hl => match us, hl with | [_, _, _, _], _ => rfl
  have F_mNe := fun_mk (st := mNever) l_mNe c_mNe k_mNe
  have b_mNe := F_mNe.binds (ps := ["self", "things", "time"]) fun _ _ _ _ _ _ us hl => match us, hl with | [_, _, _], _ => rfl
  have mg_So := PySem.W.mg_of X G g_So
  have ki_So : KI K C_So := ⟨⟨pg_So, hd_So, po_So, sa_So⟩, ha_So, hn, htk, hm_So⟩
  have mg_Wi := PySem.W.mg_of X G g_Wi
  have ki_Wi : KI K C_Wi := ⟨⟨pg_Wi, hd_Wi, po_Wi, sa_Wi⟩, ha_Wi, hn, htk, hm_Wi⟩
  have mg_Ne := PySem.W.mg_of X G g_Ne
  have ki_Ne : KI K C_Ne := ⟨⟨pg_Ne, hd_Ne, po_Ne, sa_Ne⟩, ha_Ne, hn, htk, hm_Ne⟩
  have Z_isi := PySem.W.mg_none_of X G z_isi
  have Z_int := PySem.W.mg_none_of X G z_int
  have Z_bool := PySem.W.mg_none_of X G z_bool
  have Z_tuple := PySem.W.mg_none_of X G z_tuple
  have Z_len := PySem.W.mg_none_of X G z_len
  have Z_all := PySem.W.mg_none_of X G z_all
  have Z_list := PySem.W.mg_none_of X G z_list
  have Z_enum := PySem.W.mg_none_of X G z_enum
  have Z_max := PySem.W.mg_none_of X G z_max
  have Z_range := PySem.W.mg_none_of X G z_range
  have Z_sum := PySem.W.mg_none_of X G z_sum
  have Z_sorted := PySem.W.mg_none_of X G z_sorted
  have Z_rev := PySem.W.mg_none_of X G z_rev
  have Z_set := PySem.W.mg_none_of X G z_set
  have Z_any := PySem.W.mg_none_of X G z_any
  have Z_zip := PySem.W.mg_none_of X G z_zip
  have Z_min := PySem.W.mg_none_of X G z_min
  have T : Bn mg := ⟨Z_isi, Z_int, Z_bool, Z_tuple, Z_len, Z_all, Z_list, Z_enum, Z_max, Z_range, Z_sum, Z_sorted, Z_rev⟩
  have T2 : Bn2 mg := ⟨Z_sorted, Z_set, Z_any, Z_zip⟩
  refine ⟨PySem.W.fnOf "law" "law" (defArgs sLaw) (defBody sLaw) (defScope sLaw) .none kV_law dc_law pm_law an_law cd_law ct_law, fun s v => .of_eq rfl, fun base _ _ => ?_⟩
  have G_whole : FnOk l.prog w K mg base CX0 1 _ _ _ _ := ok_whole F_whole T
  have G_len : FnOk l.prog w K mg base CX0 2 _ _ _ _ := ok_len F_len T m_whole F_whole b_whole
  have G_thing : FnOk l.prog w K mg base CX0 3 _ _ _ _ := ok_thing F_thing T m_len F_len b_len G_len
  have G_order : FnOk l.prog w K mg base CX0 2 _ _ _ _ := ok_order F_order T m_whole F_whole b_whole G_whole
  have G_ckT : FnOk l.prog w K mg base CX0 4 _ _ _ _ := ok_ckT F_ckT T m_thing F_thing b_thing G_thing
  have G_make : FnOk l.prog w K mg base CX0 1 _ _ _ _ := ok_make F_make T
  have G_rising : FnOk l.prog w K mg base CX0 2 _ _ _ _ := ok_rising F_rising T m_whole F_whole b_whole G_whole
  have G_seen : FnOk l.prog w K mg base CX0 1 _ _ _ _ := ok_seen F_seen
  have G_part : FnOk l.prog w K mg base CX0 2 _ _ _ _ := ok_part F_part T m_seen F_seen b_seen G_seen
  have G_stand : FnOk l.prog w K mg base CX0 1 _ _ _ _ := ok_stand F_stand T
  have G_reach : FnOk l.prog w K mg base CX0 1 _ _ _ _ := ok_reach F_reach T
  have G_isbar : FnOk l.prog w K mg base CX0 3 _ _ _ _ := ok_isbar F_isbar T ⟨m_whole, F_whole, b_whole, G_whole, m_len, F_len, b_len, G_len, m_rising, F_rising, b_rising, G_rising, m_part, F_part, b_part, G_part, m_stand, F_stand, b_stand, G_stand, m_reach, F_reach, b_reach, G_reach⟩
  have G_worth : FnOk l.prog w K mg base CX0 3 _ _ _ _ := ok_worth F_worth T m_part F_part b_part G_part
  have Sk : Sks K mg l.prog w base _ _ _ _ _ _ _ _ := ⟨m_order, F_order, b_order, G_order, m_isbar, F_isbar, b_isbar, G_isbar, m_make, F_make, b_make, G_make, m_worth, F_worth, b_worth, G_worth⟩
  have N_So : KSo K mg C_So := ⟨ki_So, n_So_order, n_So_bench, n_So_apart, n_So_length, mg_So⟩
  have G_iSo : FnOk l.prog w K mg base CX0 1 _ _ _ _ := ok_initSo F_iSo T N_So
  have G_mSo : FnOk l.prog w K mg base CX0 4 _ _ _ _ := ok_showsSo F_mSo T N_So Sk
  have G_jo : FnOk l.prog w K mg base CX0 1 _ _ _ _ := ok_jo F_jo T
  have G_last : FnOk l.prog w K mg base CX0 2 _ _ _ _ := ok_last F_last T m_make F_make b_make G_make
  have G_find : FnOk l.prog w K mg base CX0 3 _ _ _ _ := ok_find F_find T m_last F_last b_last G_last
  have G_soonest : FnOk l.prog w K mg base CX0 5 _ _ _ _ := ok_soonest F_soonest N_So ⟨m_ckT, F_ckT, b_ckT, G_ckT, m_jo, F_jo, b_jo, G_jo, m_find, F_find, b_find, G_find, ⟨mk_So, a_iSo, i_iSo, kc_So⟩, b_iSo, G_iSo⟩
  have N_Wi : KWi K mg C_Wi := ⟨ki_Wi, n_Wi_order, mg_Wi⟩
  have N_Ne : KNe K mg C_Ne := ⟨ki_Ne, n_Ne_bench, n_Ne_apart, n_Ne_length, mg_Ne⟩
  have G_iWi : FnOk l.prog w K mg base CX0 1 _ _ _ _ := ok_initWi F_iWi T N_Wi
  have G_mWi : FnOk l.prog w K mg base CX0 4 _ _ _ _ := ok_showsWi F_mWi T N_Wi Sk
  have G_iNe : FnOk l.prog w K mg base CX0 1 _ _ _ _ := ok_initNe F_iNe T N_Ne
  have G_mNe : FnOk l.prog w K mg base CX0 4 _ _ _ _ := ok_showsNe F_mNe N_Ne Sk
  have G_cell : FnOk l.prog w K mg base CX0 1 _ _ _ _ := ok_cell F_cell T
  have G_draw : FnOk l.prog w K mg base CX0 1 _ _ _ _ := ok_draw F_draw
  have G_things : FnOk l.prog w K mg base CX0 2 _ _ _ _ := ok_things F_things T m_cell F_cell b_cell G_cell m_draw F_draw b_draw G_draw
  have G_ldone : FnOk l.prog w K mg base CX0 1 _ _ _ _ := ok_ldone F_ldone T
  have G_lwhole : FnOk l.prog w K mg base CX0 1 _ _ _ _ := ok_lwhole F_lwhole T
  have G_lorder : FnOk l.prog w K mg base CX0 2 _ _ _ _ := ok_lorder F_lorder T T2 m_lwhole F_lwhole b_lwhole G_lwhole
  have G_lworth : FnOk l.prog w K mg base CX0 1 _ _ _ _ := ok_lworth F_lworth T T2
  have Jk : Jks K mg l.prog w base _ _ _ _ _ _ _ _ := ⟨m_lorder, F_lorder, b_lorder, G_lorder, m_lworth, F_lworth, b_lworth, G_lworth, m_ldone, F_ldone, b_ldone, G_ldone, m_lwhole, F_lwhole, b_lwhole, G_lwhole⟩
  have G_says : FnOk l.prog w K mg base CX0 1 _ _ _ _ := ok_says F_says T
  have G_bent : FnOk l.prog w K mg base CX0 2 _ _ _ _ := ok_bent F_bent T T2 m_draw F_draw b_draw G_draw
  have G_right : FnOk l.prog w K mg base CX0 5 _ _ _ _ := ok_right F_right T N_So N_Wi N_Ne Jk ⟨m_says, F_says, b_says, G_says, ⟨mk_So, a_iSo, i_iSo, kc_So⟩, b_iSo, G_iSo, ⟨mk_Wi, a_iWi, i_iWi, kc_Wi⟩, b_iWi, G_iWi, ⟨mk_Ne, a_iNe, i_iNe, kc_Ne⟩, b_iNe, G_iNe, ⟨a_mSo, i_mSo, k_mSo⟩, b_mSo, G_mSo, ⟨a_mWi, i_mWi, k_mWi⟩, b_mWi, G_mWi, ⟨a_mNe, i_mNe, k_mNe⟩, b_mNe, G_mNe⟩
  exact ok_law4 F_law T T2 Z_min N_So N_Ne ⟨m_things, F_things, b_things, G_things, m_cell, F_cell, b_cell, G_cell, m_draw, F_draw, b_draw, G_draw, m_bent, F_bent, b_bent, G_bent, m_right, F_right, b_right, G_right, m_soonest, F_soonest, b_soonest, G_soonest, m_says, F_says, b_says, G_says, ⟨mk_So, a_iSo, i_iSo, kc_So⟩, b_iSo, G_iSo, ⟨mk_Ne, a_iNe, i_iNe, kc_Ne⟩, b_iNe, G_iNe, ⟨a_mSo, i_mSo, k_mSo⟩, b_mSo, G_mSo, ⟨a_mNe, i_mNe, k_mNe⟩, b_mNe, G_mNe⟩
end Bp
open PySem PySem.W PyProof.Rows
set_option maxRecDepth 100000 in
set_option maxHeartbeats 0 in
theorem PySem.Challenge.cw_benchpair_k04_answers_by_hand_holds : PySem.Challenge.rw_benchpair_k04_answers_by_hand.Holds := by
  w_on; o_law; k_head; (case hw => w_witness2)
  k_fill
  refine L2.walk_of (l := PySem.Challenge.rw_benchpair_k04_answers_by_hand) (n := 63) (k := 6) (x := "_law_script") (CX := fun w => L2.CX0) (sp := fun w => Bp.spLaw _) rfl (by decide) rfl ⟨rfl, by decide, by decide⟩ (fun w h Y => PySem.W.kIn_of Y) ?F (fun _ _ a ns hl _ hS => ⟨a, ns, rfl, hS, hl, fun _ => rfl⟩) (fun _ _ _ _ _ h => h)
  case F =>
    intro w mg fa h KX G hmg
    refine' Bp.all_mk KX G hmg ?a_whole ?l_whole ?c_whole ?k_whole ?a_len ?l_len ?c_len ?k_len ?a_thing ?l_thing ?c_thing ?k_thing ?a_order ?l_order ?c_order ?k_order ?a_ckT ?l_ckT ?c_ckT ?k_ckT ?a_make ?l_make ?c_make ?k_make ?a_rising ?l_rising ?c_rising ?k_rising ?a_seen ?l_seen ?c_seen ?k_seen ?a_part ?l_part ?c_part ?k_part ?a_stand ?l_stand ?c_stand ?k_stand ?a_reach ?l_reach ?c_reach ?k_reach ?a_isbar ?l_isbar ?c_isbar ?k_isbar ?a_worth ?l_worth ?c_worth ?k_worth ?a_jo ?l_jo ?c_jo ?k_jo ?a_last ?l_last ?c_last ?k_last ?a_find ?l_find ?c_find ?k_find ?a_soonest ?l_soonest ?c_soonest ?k_soonest ?a_cell ?l_cell ?c_cell ?k_cell ?a_draw ?l_draw ?c_draw ?k_draw ?a_things ?l_things ?c_things ?k_things ?a_ldone ?l_ldone ?c_ldone ?k_ldone ?a_lorder ?l_lorder ?c_lorder ?k_lorder ?a_lworth ?l_lworth ?c_lworth ?k_lworth ?a_lwhole ?l_lwhole ?c_lwhole ?k_lwhole ?a_says ?l_says ?c_says ?k_says ?a_bent ?l_bent ?c_bent ?k_bent ?a_right ?l_right ?c_right ?k_right ?a_law ?l_law ?c_law ?k_law ?g_So ?pg_So ?hd_So ?po_So ?sa_So ?mk_So ?kc_So ?ha_So ?hm_So ?n_So_order ?n_So_bench ?n_So_apart ?n_So_length ?g_Wi ?pg_Wi ?hd_Wi ?po_Wi ?sa_Wi ?mk_Wi ?kc_Wi ?ha_Wi ?hm_Wi ?n_Wi_order ?g_Ne ?pg_Ne ?hd_Ne ?po_Ne ?sa_Ne ?mk_Ne ?kc_Ne ?ha_Ne ?hm_Ne ?n_Ne_bench ?n_Ne_apart ?n_Ne_length ?a_iSo ?i_iSo ?l_iSo ?c_iSo ?k_iSo ?a_mSo ?i_mSo ?l_mSo ?c_mSo ?k_mSo ?a_iWi ?i_iWi ?l_iWi ?c_iWi ?k_iWi ?a_mWi ?i_mWi ?l_mWi ?c_mWi ?k_mWi ?a_iNe ?i_iNe ?l_iNe ?c_iNe ?k_iNe ?a_mNe ?i_mNe ?l_mNe ?c_mNe ?k_mNe ?hn ?htk ?z_isi ?z_int ?z_bool ?z_tuple ?z_len ?z_all ?z_list ?z_enum ?z_max ?z_range ?z_sum ?z_sorted ?z_rev ?z_set ?z_any ?z_zip ?z_min
    (case a_whole => k_is)
    (case l_whole => k_is)
    (case c_whole => k_is)
    (case k_whole => k_is)
    (case a_len => k_is)
    (case l_len => k_is)
    (case c_len => k_is)
    (case k_len => k_is)
    (case a_thing => k_is)
    (case l_thing => k_is)
    (case c_thing => k_is)
    (case k_thing => k_is)
    (case a_order => k_is)
    (case l_order => k_is)
    (case c_order => k_is)
    (case k_order => k_is)
    (case a_ckT => k_is)
    (case l_ckT => k_is)
    (case c_ckT => k_is)
    (case k_ckT => k_is)
    (case a_make => k_is)
    (case l_make => k_is)
    (case c_make => k_is)
    (case k_make => k_is)
    (case a_rising => k_is)
    (case l_rising => k_is)
    (case c_rising => k_is)
    (case k_rising => k_is)
    (case a_seen => k_is)
    (case l_seen => k_is)
    (case c_seen => k_is)
    (case k_seen => k_is)
    (case a_part => k_is)
    (case l_part => k_is)
    (case c_part => k_is)
    (case k_part => k_is)
    (case a_stand => k_is)
    (case l_stand => k_is)
    (case c_stand => k_is)
    (case k_stand => k_is)
    (case a_reach => k_is)
    (case l_reach => k_is)
    (case c_reach => k_is)
    (case k_reach => k_is)
    (case a_isbar => k_is)
    (case l_isbar => k_is)
    (case c_isbar => k_is)
    (case k_isbar => k_is)
    (case a_worth => k_is)
    (case l_worth => k_is)
    (case c_worth => k_is)
    (case k_worth => k_is)
    (case a_jo => k_is)
    (case l_jo => k_is)
    (case c_jo => k_is)
    (case k_jo => k_is)
    (case a_last => k_is)
    (case l_last => k_is)
    (case c_last => k_is)
    (case k_last => k_is)
    (case a_find => k_is)
    (case l_find => k_is)
    (case c_find => k_is)
    (case k_find => k_is)
    (case a_soonest => k_is)
    (case l_soonest => k_is)
    (case c_soonest => k_is)
    (case k_soonest => k_is)
    (case a_cell => k_is)
    (case l_cell => k_is)
    (case c_cell => k_is)
    (case k_cell => k_is)
    (case a_draw => k_is)
    (case l_draw => k_is)
    (case c_draw => k_is)
    (case k_draw => k_is)
    (case a_things => k_is)
    (case l_things => k_is)
    (case c_things => k_is)
    (case k_things => k_is)
    (case a_ldone => k_is)
    (case l_ldone => k_is)
    (case c_ldone => k_is)
    (case k_ldone => k_is)
    (case a_lorder => k_is)
    (case l_lorder => k_is)
    (case c_lorder => k_is)
    (case k_lorder => k_is)
    (case a_lworth => k_is)
    (case l_lworth => k_is)
    (case c_lworth => k_is)
    (case k_lworth => k_is)
    (case a_lwhole => k_is)
    (case l_lwhole => k_is)
    (case c_lwhole => k_is)
    (case k_lwhole => k_is)
    (case a_says => k_is)
    (case l_says => k_is)
    (case c_says => k_is)
    (case k_says => k_is)
    (case a_bent => k_is)
    (case l_bent => k_is)
    (case c_bent => k_is)
    (case k_bent => k_is)
    (case a_right => k_is)
    (case l_right => k_is)
    (case c_right => k_is)
    (case k_right => k_is)
    (case a_law => k_is)
    (case l_law => k_is)
    (case c_law => k_is)
    (case k_law => k_is)
    (case g_So => k_is)
    (case pg_So => k_is)
    (case hd_So => k_is)
    (case po_So => k_is)
    (case sa_So => k_is)
    (case mk_So => k_is)
    (case kc_So => k_is)
    (case ha_So => k_is)
    (case hm_So => k_is)
    (case n_So_order => k_is)
    (case n_So_bench => k_is)
    (case n_So_apart => k_is)
    (case n_So_length => k_is)
    (case g_Wi => k_is)
    (case pg_Wi => k_is)
    (case hd_Wi => k_is)
    (case po_Wi => k_is)
    (case sa_Wi => k_is)
    (case mk_Wi => k_is)
    (case kc_Wi => k_is)
    (case ha_Wi => k_is)
    (case hm_Wi => k_is)
    (case n_Wi_order => k_is)
    (case g_Ne => k_is)
    (case pg_Ne => k_is)
    (case hd_Ne => k_is)
    (case po_Ne => k_is)
    (case sa_Ne => k_is)
    (case mk_Ne => k_is)
    (case kc_Ne => k_is)
    (case ha_Ne => k_is)
    (case hm_Ne => k_is)
    (case n_Ne_bench => k_is)
    (case n_Ne_apart => k_is)
    (case n_Ne_length => k_is)
    (case a_iSo => k_is)
    (case i_iSo => k_is)
    (case l_iSo => k_is)
    (case c_iSo => k_is)
    (case k_iSo => k_is)
    (case a_mSo => k_is)
    (case i_mSo => k_is)
    (case l_mSo => k_is)
    (case c_mSo => k_is)
    (case k_mSo => k_is)
    (case a_iWi => k_is)
    (case i_iWi => k_is)
    (case l_iWi => k_is)
    (case c_iWi => k_is)
    (case k_iWi => k_is)
    (case a_mWi => k_is)
    (case i_mWi => k_is)
    (case l_mWi => k_is)
    (case c_mWi => k_is)
    (case k_mWi => k_is)
    (case a_iNe => k_is)
    (case i_iNe => k_is)
    (case l_iNe => k_is)
    (case c_iNe => k_is)
    (case k_iNe => k_is)
    (case a_mNe => k_is)
    (case i_mNe => k_is)
    (case l_mNe => k_is)
    (case c_mNe => k_is)
    (case k_mNe => k_is)
    (case hn => k_is)
    (case htk => k_is)
    (case z_isi => k_is)
    (case z_int => k_is)
    (case z_bool => k_is)
    (case z_tuple => k_is)
    (case z_len => k_is)
    (case z_all => k_is)
    (case z_list => k_is)
    (case z_enum => k_is)
    (case z_max => k_is)
    (case z_range => k_is)
    (case z_sum => k_is)
    (case z_sorted => k_is)
    (case z_rev => k_is)
    (case z_set => k_is)
    (case z_any => k_is)
    (case z_zip => k_is)
    (case z_min => k_is)
