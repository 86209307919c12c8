import PyProof.Rows.All
import Wide.All
import OpenK.AllK
import Wide.FinOn
import HandS.Base
import HandS.Call
import HandS.List
import HandS.Ends
import HandS.Words
import HandS.WordsList
import HandS.Set
import HandS.SetFor
import HandS.Strs
import HandS.SortOrd
import HandS.SortInts
import HandS.Evl
import HandS.Comp
import HandS.Dict
import HandS.Iter
import HandS.Text
import HandS.IsInst
import HandS.Conv
import HandS.Style
import HandS.Wide
import HandS.More
import HandS.Walk
import HandS.Zip
import HandS.Rev
import HandS.SortRule
import HandS.TupLe
import HandS.Codes
import HandS.RevRange
import HandS.Exc
import HandS.ExcOwn
import HandS.ExcIs
import HandS.TryOnly
import HandS.CallLocal
import HandS.WordsExc
import HandS.RaiseMore
import HandS.FStr
import HandS.HotCalls
import PyProof.StrBlock2
import PySem.Challenge.RW_benchpair_k06_refused
set_option Elab.async false
set_option linter.all false
set_option maxRecDepth 100000
namespace Bp
/-- a thing: on bench 1, drying, on bench 2 -/
abbrev Th := Int × Int × Int
def Nn (t : Th) : Prop := 0 ≤ t.1 ∧ 0 ≤ t.2.1 ∧ 0 ≤ t.2.2
def th0 : Th := (0, 0, 0)
def turn (t : Th) : Th := (t.2.2, t.2.1, t.1)
def path (ts : List Th) (o : List Nat) : List Th := o.map fun c => ts.getD c th0
def A : List Th → Int
  | [] => 0
  | t :: r => t.1 + A r
def B : List Th → Int
  | [] => 0
  | t :: r => t.2.2 + B r
/-- the longest of all ways -/
def W : List Th → Int
  | [] => 0
  | t :: r => max (t.1 + t.2.1 + t.2.2 + B r) (t.1 + W r)
def mk2 : List Th → Int → Int → Int
  | [], _, g => g
  | t :: r, f, g => mk2 r (f + t.1) (max (f + t.1 + t.2.1) g + t.2.2)
theorem Nn.of_cons {t : Th} {r : List Th} (h : ∀ x ∈ t :: r, Nn x) : Nn t ∧ ∀ x ∈ r, Nn x :=
  ⟨h t List.mem_cons_self, fun x hx => h x (List.mem_cons_of_mem _ hx)⟩
theorem W_nn : ∀ {l : List Th}, (∀ x ∈ l, Nn x) → 0 ≤ B l ∧ 0 ≤ A l ∧ 0 ≤ W l ∧ B l ≤ W l
  | [], _ => ⟨Int.le_refl _, Int.le_refl _, Int.le_refl _, Int.le_refl _⟩
  | t :: r, h => by
    obtain ⟨⟨h1, h2, h3⟩, hr⟩ := Nn.of_cons h
    obtain ⟨i1, i2, i3, i4⟩ := W_nn hr
    show 0 ≤ t.2.2 + B r ∧ 0 ≤ t.1 + A r ∧ 0 ≤ max (t.1 + t.2.1 + t.2.2 + B r) (t.1 + W r) ∧ t.2.2 + B r ≤ max (t.1 + t.2.1 + t.2.2 + B r) (t.1 + W r)
    omega
theorem mk2_eq : ∀ (l : List Th) (f g : Int), (∀ x ∈ l, Nn x) → f ≤ g → mk2 l f g = max (g + B l) (f + W l)
  | [], f, g, _, hfg => by
    show g = max (g + 0) (f + 0)
    omega
  | t :: r, f, g, h, hfg => by
    obtain ⟨⟨h1, h2, h3⟩, hr⟩ := Nn.of_cons h
    have ih := mk2_eq r (f + t.1) (max (f + t.1 + t.2.1) g + t.2.2) hr (by omega)
    show mk2 r (f + t.1) (max (f + t.1 + t.2.1) g + t.2.2) = max (g + (t.2.2 + B r)) (f + max (t.1 + t.2.1 + t.2.2 + B r) (t.1 + W r))
    rw [ih]
    omega
theorem mk2_W {l : List Th} (h : ∀ x ∈ l, Nn x) : mk2 l 0 0 = W l := by
  rw [mk2_eq l 0 0 h (Int.le_refl _)]
  have := W_nn h
  omega
/-- the law's own reckoning -/
def ldS (s : Int × Int × Int) (t : Th) : Int × Int × Int := (s.1 + t.1, s.2.1 - t.2.2, max s.2.2 (s.1 + t.1 + t.2.1 + s.2.1))
theorem ld_eq : ∀ (l : List Th) (ah fo : Int), (∀ x ∈ l, Nn x) → ah ≤ fo → (l.foldl ldS (ah, B l, fo)).2.2 = max fo (ah + W l)
  | [], ah, fo, _, hfg => by
    show fo = max fo (ah + 0)
    omega
  | t :: r, ah, fo, h, hfg => by
    obtain ⟨⟨h1, h2, h3⟩, hr⟩ := Nn.of_cons h
    have hn := W_nn hr
    have ih := ld_eq r (ah + t.1) (max fo (ah + t.1 + t.2.1 + (t.2.2 + B r))) hr (by omega)
    show (r.foldl ldS (ah + t.1, t.2.2 + B r - t.2.2, max fo (ah + t.1 + t.2.1 + (t.2.2 + B r)))).2.2 = max fo (ah + max (t.1 + t.2.1 + t.2.2 + B r) (t.1 + W r))
    rw [show t.2.2 + B r - t.2.2 = B r by omega, ih]
    omega
theorem ld_W {l : List Th} (h : ∀ x ∈ l, Nn x) : (l.foldl ldS (0, B l, 0)).2.2 = W l := by
  rw [ld_eq l 0 0 h (Int.le_refl _)]
  have := W_nn h
  omega
theorem B_append (l m : List Th) : B (l ++ m) = B l + B m := by
  induction l with
  | nil => show B m = 0 + B m; omega
  | cons t r ih => show t.2.2 + B (r ++ m) = t.2.2 + B r + B m; rw [ih]; omega
theorem A_append (l m : List Th) : A (l ++ m) = A l + A m := by
  induction l with
  | nil => show A m = 0 + A m; omega
  | cons t r ih => show t.1 + A (r ++ m) = t.1 + A r + A m; rw [ih]; omega
theorem B_sum (l : List Th) : B l = (l.map fun t => t.2.2).sum := by
  induction l with
  | nil => rfl
  | cons t r ih => rw [List.map_cons, List.sum_cons, ← ih]; rfl
theorem W_snoc : ∀ (l : List Th) (t : Th), (∀ x ∈ l, Nn x) → Nn t → W (l ++ [t]) = max (W l + t.2.2) (A l + t.1 + t.2.1 + t.2.2)
  | [], t, _, ⟨h1, h2, h3⟩ => by
    show max (t.1 + t.2.1 + t.2.2 + 0) (t.1 + 0) = max (0 + t.2.2) (0 + t.1 + t.2.1 + t.2.2)
    omega
  | s :: r, t, h, ht => by
    obtain ⟨⟨h1, h2, h3⟩, hr⟩ := Nn.of_cons h
    have ih := W_snoc r t hr ht
    show max (s.1 + s.2.1 + s.2.2 + B (r ++ [t])) (s.1 + W (r ++ [t])) = max (max (s.1 + s.2.1 + s.2.2 + B r) (s.1 + W r) + t.2.2) (s.1 + A r + t.1 + t.2.1 + t.2.2)
    rw [ih, B_append, show B [t] = t.2.2 + 0 from rfl]
    omega
theorem Nn.turn {t : Th} (h : Nn t) : Nn (Bp.turn t) := ⟨h.2.2, h.2.1, h.1⟩
theorem A_turn_rev (l : List Th) : A (l.map turn).reverse = B l := by
  induction l with
  | nil => rfl
  | cons t r ih =>
    rw [List.map_cons, List.reverse_cons, A_append, ih]
    show B r + (t.2.2 + 0) = t.2.2 + B r
    omega
theorem W_turn : ∀ (l : List Th), (∀ x ∈ l, Nn x) → W (l.map turn).reverse = W l
  | [], _ => rfl
  | t :: r, h => by
    obtain ⟨ht, hr⟩ := Nn.of_cons h
    rw [List.map_cons, List.reverse_cons, W_snoc _ _ (fun x hx => by
      obtain ⟨y, hy, rfl⟩ := List.mem_map.mp (List.mem_reverse.mp hx)
      exact (hr y hy).turn) ht.turn, W_turn r hr, A_turn_rev]
    show max (W r + t.1) (B r + t.2.2 + t.2.1 + t.1) = max (t.1 + t.2.1 + t.2.2 + B r) (t.1 + W r)
    omega
theorem W_sub {l m : List Th} (s : l.Sublist m) : (∀ x ∈ m, Nn x) → W l ≤ W m ∧ B l ≤ B m := by
  induction s with
  | slnil => intro _; exact ⟨Int.le_refl _, Int.le_refl _⟩
  | @cons l m t s ih =>
    intro h
    obtain ⟨⟨h1, h2, h3⟩, hr⟩ := Nn.of_cons h
    obtain ⟨i1, i2⟩ := ih hr
    show W l ≤ max (t.1 + t.2.1 + t.2.2 + B m) (t.1 + W m) ∧ B l ≤ t.2.2 + B m
    omega
  | @cons_cons l m t s ih =>
    intro h
    obtain ⟨⟨h1, h2, h3⟩, hr⟩ := Nn.of_cons h
    obtain ⟨i1, i2⟩ := ih hr
    show max (t.1 + t.2.1 + t.2.2 + B l) (t.1 + W l) ≤ max (t.1 + t.2.1 + t.2.2 + B m) (t.1 + W m) ∧ t.2.2 + B l ≤ t.2.2 + B m
    omega
end Bp
namespace Bp
/-- a fold over the first i -/
theorem fold_more {α β : Type} {f : β → α → β} {b : β} {l : List α} {i : Nat} {x : α} (h : l[i]? = some x) : (l.take (i + 1)).foldl f b = f ((l.take i).foldl f b) x := by
  rw [List.take_add_one, h, List.foldl_append]
  rfl
/-- an order of n things -/
def Ord (n : Nat) (o : List Nat) : Prop := o.Perm (List.range n)
theorem Ord.len {n : Nat} {o : List Nat} (h : Ord n o) : o.length = n := by
  have := h.length_eq
  rwa [List.length_range] at this
theorem Ord.nd {n : Nat} {o : List Nat} (h : Ord n o) : o.Nodup := h.nodup_iff.mpr List.nodup_range
theorem Ord.lt {n : Nat} {o : List Nat} (h : Ord n o) {c : Nat} (hc : c ∈ o) : c < n := List.mem_range.mp (h.mem_iff.mp hc)
theorem Ord.mem {n : Nat} {o : List Nat} (h : Ord n o) {c : Nat} (hc : c < n) : c ∈ o := h.mem_iff.mpr (List.mem_range.mpr hc)
theorem Ord.range (n : Nat) : Ord n (List.range n) := List.Perm.refl _
theorem Ord.rev {n : Nat} {o : List Nat} (h : Ord n o) : Ord n o.reverse := (List.reverse_perm o).trans h
theorem Ord.ins {n : Nat} {o : List Nat} (h : Ord n o) {i : Nat} (hi : i ≤ o.length) : Ord (n + 1) (o.insertIdx i n) := by
  refine (List.perm_insertIdx n o hi).trans ?_
  refine (h.cons n).trans ?_
  rw [List.range_succ]
  exact (List.perm_append_singleton n (List.range n)).symm
/-- the counts above k one less -/
def shift (k c : Nat) : Nat := if k < c then c - 1 else c
def less (k : Nat) (o : List Nat) : List Nat := (o.filter fun c => c != k).map (shift k)
theorem less_range (n k : Nat) (hk : k < n + 1) : less k (List.range (n + 1)) = List.range n := by
  induction n with
  | zero =>
    obtain rfl : k = 0 := by omega
    rfl
  | succ n ih =>
    rw [List.range_succ]
    unfold less
    rw [List.filter_append, List.map_append]
    by_cases e : k = n + 1
    · subst e
      have h1 : (List.range (n + 1)).filter (fun c => c != n + 1) = List.range (n + 1) := by
        rw [List.filter_eq_self]
        intro a ha
        have := List.mem_range.mp ha
        simp; omega
      rw [h1]
      have h2 : List.filter (fun c => c != n + 1) [n + 1] = [] := by simp
      rw [h2, List.map_nil, List.append_nil]
      have : List.map (shift (n + 1)) (List.range (n + 1)) = List.map id (List.range (n + 1)) := List.map_congr_left fun a ha => by
        have := List.mem_range.mp ha
        unfold shift
        rw [if_neg (by omega)]
        rfl
      rw [this, List.map_id]
    · have ih' := ih (by omega)
      unfold less at ih'
      rw [ih', List.range_succ]
      have h2 : List.filter (fun c => c != k) [n + 1] = [n + 1] := by
        simp; omega
      rw [h2]
      have : List.map (shift k) [n + 1] = [n] := by
        show [shift k (n + 1)] = [n]
        unfold shift
        rw [if_pos (by omega)]
        rfl
      rw [this]
theorem Ord.less {n k : Nat} {o : List Nat} (h : Ord (n + 1) o) (hk : k < n + 1) : Ord n (Bp.less k o) := by
  have := (List.Perm.filter (fun c => c != k) h).map (shift k)
  unfold Ord
  rw [← less_range n k hk]
  exact this
theorem path_less (ts : List Th) (k : Nat) (o : List Nat) (hk : k < ts.length) : path (ts.take k ++ ts.drop (k + 1)) (Bp.less k o) = path ts (o.filter fun c => c != k) := by
  unfold path Bp.less
  rw [List.map_map]
  refine List.map_congr_left fun c hc => ?_
  have hck : c ≠ k := by
    have := (List.mem_filter.mp hc).2
    simpa using this
  show (ts.take k ++ ts.drop (k + 1)).getD (shift k c) th0 = ts.getD c th0
  unfold shift
  have hl : (ts.take k).length = k := by rw [List.length_take]; omega
  by_cases h : k < c
  · rw [if_pos h, List.getD_eq_getElem?_getD, List.getElem?_append_right (by omega), hl, List.getElem?_drop, List.getD_eq_getElem?_getD]
    rw [show k + 1 + (c - 1 - k) = c by omega]
  · rw [if_neg h, List.getD_eq_getElem?_getD, List.getElem?_append_left (by omega), List.getElem?_take_of_lt (by omega), List.getD_eq_getElem?_getD]
theorem path_sub (ts : List Th) {o p : List Nat} (s : o.Sublist p) : (path ts o).Sublist (path ts p) := s.map _
theorem path_turn (ts : List Th) (o : List Nat) (n : Nat) (hn : n = ts.length) (h : ∀ c ∈ o, c < n) : path (ts.map turn) o.reverse = ((path ts o).map turn).reverse := by
  unfold path
  rw [List.map_reverse, List.map_map]
  refine congrArg _ (List.map_congr_left fun c hc => ?_)
  have hl : c < ts.length := hn ▸ h c hc
  show (ts.map turn).getD c th0 = turn (ts.getD c th0)
  rw [List.getD_eq_getElem?_getD, List.getD_eq_getElem?_getD, List.getElem?_map, List.getElem?_eq_getElem hl]
  rfl
theorem path_nn {ts : List Th} (h : ∀ t ∈ ts, Nn t) (o : List Nat) : ∀ t ∈ path ts o, Nn t := by
  intro t ht
  obtain ⟨c, _, rfl⟩ := List.mem_map.mp ht
  show Nn (ts.getD c th0)
  rw [List.getD_eq_getElem?_getD]
  cases e : ts[c]? with
  | none => exact ⟨Int.le_refl _, Int.le_refl _, Int.le_refl _⟩
  | some t => exact h t (List.mem_of_getElem? e)
/-- going along: when each begins on either bench, bench 1 free, bench 2 free -/
abbrev Sg := List (Int × Int) × Int × Int
def stp (ts : List Th) (s : Sg) (c : Nat) : Sg :=
  let t := ts.getD c th0
  let h := max (s.2.1 + t.1 + t.2.1) s.2.2
  (s.1.set c (s.2.1, h), s.2.1 + t.1, h + t.2.2)
def sg0 (n : Nat) : Sg := (List.replicate n (0, 0), 0, 0)
def going (ts : List Th) (o : List Nat) : Sg := o.foldl (stp ts) (sg0 ts.length)
theorem stp_len (ts : List Th) : ∀ (o : List Nat) (s : Sg), (o.foldl (stp ts) s).1.length = s.1.length
  | [], _ => rfl
  | c :: r, s => by
    rw [List.foldl_cons, stp_len ts r]
    show (s.1.set c _).length = s.1.length
    exact List.length_set
theorem going_len (ts : List Th) (o : List Nat) : (going ts o).1.length = ts.length := by
  unfold going
  rw [stp_len]
  exact List.length_replicate
theorem stp_mk2 (ts : List Th) : ∀ (o : List Nat) (s : Sg), (o.foldl (stp ts) s).2.2 = mk2 (path ts o) s.2.1 s.2.2
  | [], _ => rfl
  | c :: r, s => stp_mk2 ts r (stp ts s c)
theorem going_W {ts : List Th} (h : ∀ t ∈ ts, Nn t) (o : List Nat) : (going ts o).2.2 = W (path ts o) := by
  unfold going
  rw [stp_mk2]
  exact mk2_W (path_nn h o)
/-- done, turned about -/
theorem W_turned {ts : List Th} (h : ∀ t ∈ ts, Nn t) {o : List Nat} (ho : Ord ts.length o) : W (path (ts.map turn) o.reverse) = W (path ts o) := by
  rw [path_turn ts o _ rfl (fun c hc => ho.lt hc)]
  exact W_turn _ (path_nn h o)
theorem W_less {ts : List Th} (h : ∀ t ∈ ts, Nn t) {o : List Nat} {k : Nat} (hk : k < ts.length) : W (path (ts.take k ++ ts.drop (k + 1)) (Bp.less k o)) ≤ W (path ts o) := by
  rw [path_less ts k o hk]
  exact (W_sub (path_sub ts (List.filter_sublist)) (path_nn h o)).1
/-- the marks of is_order -/
def mrk (m : List Bool) (o : List Nat) : List Bool := o.foldl (fun m c => m.set c true) m
theorem mrk_get : ∀ (o : List Nat) (m : List Bool) (c : Nat), c ∉ o → (mrk m o)[c]? = m[c]?
  | [], _, _, _ => rfl
  | d :: r, m, c, h => by
    have h1 : c ≠ d := fun e => h (e ▸ List.mem_cons_self)
    have h2 : c ∉ r := fun e => h (List.mem_cons_of_mem _ e)
    show (mrk (m.set d true) r)[c]? = m[c]?
    rw [mrk_get r _ c h2, List.getElem?_set_ne (Ne.symm h1)]
theorem mrk_len : ∀ (o : List Nat) (m : List Bool), (mrk m o).length = m.length
  | [], _ => rfl
  | d :: r, m => by
    show (mrk (m.set d true) r).length = m.length
    rw [mrk_len r, List.length_set]
theorem nd_take {o : List Nat} (h : o.Nodup) {i c : Nat} (hc : o[i]? = some c) : c ∉ o.take i := by
  intro hm
  obtain ⟨j, hj, e⟩ := List.mem_iff_getElem.mp hm
  have hj' : j < i ∧ j < o.length := by
    rw [List.length_take] at hj
    omega
  rw [List.getElem_take] at e
  obtain ⟨hi, ei⟩ := List.getElem?_eq_some_iff.mp hc
  exact (List.pairwise_iff_getElem.mp h) j i hj'.2 hi hj'.1 (e.trans ei.symm)
theorem mrk_no {n : Nat} {o : List Nat} (h : Ord n o) {i c : Nat} (hc : o[i]? = some c) : (mrk (List.replicate n false) (o.take i))[c]? = some false := by
  rw [mrk_get _ _ _ (nd_take h.nd hc), List.getElem?_replicate, if_pos (h.lt (List.mem_of_getElem? hc))]
end Bp
namespace Bp
/-! ### bars: no order is done sooner than a bar's worth -/
/-- here and there: the lengths on the bar's bench and on the other one -/
def hereOf (bench : Int) (t : Th) : Int := if bench = 1 then t.1 else t.2.2
def thereOf (bench : Int) (t : Th) : Int := if bench = 1 then t.2.2 else t.1
/-- what the marked are long here, all others there -/
def Wsum : List (Bool × Th) → Int
  | [] => 0
  | x :: r => (if x.1 then x.2.1 else x.2.2.2) + Wsum r
theorem weak1 {L : Int} (hL : 0 ≤ L) : ∀ m : List (Bool × Th), (∀ x ∈ m, Nn x.2) → (∀ x ∈ m, x.1 = true → x.2.1 ≤ x.2.2.2) → (∀ x ∈ m, x.1 = false → x.2.1 + x.2.2.1 < L → x.2.2.2 ≤ x.2.1) →
    ((∃ x ∈ m, x.1 = false ∧ L ≤ x.2.1 + x.2.2.1) ∨ L = 0) → L + Wsum m ≤ W (m.map fun x => x.2)
  | [], _, _, _, h => by
    rcases h with ⟨x, hx, _⟩ | h
    · cases hx
    · show L + 0 ≤ 0
      omega
  | x :: r, hn, h1, h2, h3 => by
    have hr : ∀ y ∈ r, Nn y.2 := fun y hy => hn y (List.mem_cons_of_mem _ hy)
    have g1 : ∀ y ∈ r, y.1 = true → y.2.1 ≤ y.2.2.2 := fun y hy => h1 y (List.mem_cons_of_mem _ hy)
    have g2 : ∀ y ∈ r, y.1 = false → y.2.1 + y.2.2.1 < L → y.2.2.2 ≤ y.2.1 := fun y hy => h2 y (List.mem_cons_of_mem _ hy)
    have hnn : ∀ t ∈ r.map (fun y => y.2), Nn t := by
      intro t ht
      obtain ⟨y, hy, rfl⟩ := List.mem_map.mp ht
      exact hr y hy
    have hw := W_nn hnn
    have hx := hn x List.mem_cons_self
    obtain ⟨x1, x2, x3⟩ := hx
    have hB : ∀ s : List (Bool × Th), (∀ y ∈ s, y.1 = true → y.2.1 ≤ y.2.2.2) → Wsum s ≤ B (s.map fun y => y.2) := by
      intro s
      induction s with
      | nil => intro _; exact Int.le_refl _
      | cons y s ih =>
        intro hs
        have := ih fun z hz => hs z (List.mem_cons_of_mem _ hz)
        have hy := hs y List.mem_cons_self
        show (if y.1 then y.2.1 else y.2.2.2) + Wsum s ≤ y.2.2.2 + B (s.map fun y => y.2)
        cases e : y.1 with
        | true => have := hy e; simp only [if_true]; omega
        | false => simp only [Bool.false_eq_true, if_false]; omega
    have hBr := hB r g1
    show L + ((if x.1 then x.2.1 else x.2.2.2) + Wsum r) ≤ max (x.2.1 + x.2.2.1 + x.2.2.2 + B (r.map fun y => y.2)) (x.2.1 + W (r.map fun y => y.2))
    by_cases hc : x.1 = false ∧ L ≤ x.2.1 + x.2.2.1
    · rw [hc.1]
      simp only [Bool.false_eq_true, if_false]
      omega
    · have h3' : (∃ y ∈ r, y.1 = false ∧ L ≤ y.2.1 + y.2.2.1) ∨ L = 0 := by
        rcases h3 with ⟨y, hy, h⟩ | h
        · rcases List.mem_cons.mp hy with rfl | hy
          · exact absurd h hc
          · exact .inl ⟨y, hy, h⟩
        · exact .inr h
      have ih := weak1 hL r hr g1 g2 h3'
      cases e : x.1 with
      | true => simp only [if_true]; omega
      | false =>
        have : x.2.1 + x.2.2.1 < L := by
          rcases Int.lt_or_le (x.2.1 + x.2.2.1) L with h | h
          · exact h
          · exact absurd ⟨e, h⟩ hc
        have := h2 x List.mem_cons_self e this
        simp only [Bool.false_eq_true, if_false]
        omega
theorem Wsum_append (l m : List (Bool × Th)) : Wsum (l ++ m) = Wsum l + Wsum m := by
  induction l with
  | nil => show Wsum m = 0 + Wsum m; omega
  | cons x r ih => show (if x.1 then x.2.1 else x.2.2.2) + Wsum (r ++ m) = (if x.1 then x.2.1 else x.2.2.2) + Wsum r + Wsum m; rw [ih]; omega
theorem Wsum_perm {l m : List (Bool × Th)} (h : l.Perm m) : Wsum l = Wsum m := by
  induction h with
  | nil => rfl
  | cons x _ ih => show _ + _ = _ + _; rw [ih]
  | swap x y l =>
    show (if y.1 then y.2.1 else y.2.2.2) + ((if x.1 then x.2.1 else x.2.2.2) + Wsum l) = (if x.1 then x.2.1 else x.2.2.2) + ((if y.1 then y.2.1 else y.2.2.2) + Wsum l)
    omega
  | trans _ _ h1 h2 => exact h1.trans h2
/-- a thing on the benches as the bar names them -/
def facing (bench : Int) (t : Th) : Th := if bench = 1 then t else turn t
theorem facing_here (bench : Int) (t : Th) : (facing bench t).1 = hereOf bench t := by unfold facing hereOf; split <;> rfl
theorem facing_there (bench : Int) (t : Th) : (facing bench t).2.2 = thereOf bench t := by unfold facing thereOf; split <;> rfl
theorem facing_dry (bench : Int) (t : Th) : (facing bench t).2.1 = t.2.1 := by unfold facing; split <;> rfl
theorem facing_nn {bench : Int} {t : Th} (h : Nn t) : Nn (facing bench t) := by unfold facing; split; exact h; exact h.turn
/-- the marks of a bar over all things, by their counts -/
structure BarOk (ts : List Th) (bench : Int) (mk : Nat → Bool) (L : Int) : Prop where
  len : 0 ≤ L
  own : ∀ (c : Nat) (t : Th), ts[c]? = some t → mk c = true → hereOf bench t ≤ thereOf bench t
  oth : ∀ (c : Nat) (t : Th), ts[c]? = some t → mk c = false → hereOf bench t + t.2.1 < L → thereOf bench t ≤ hereOf bench t
  some_ : (∃ (c : Nat) (t : Th), ts[c]? = some t ∧ mk c = false ∧ L ≤ hereOf bench t + t.2.1) ∨ L = 0
def facingAt (ts : List Th) (bench : Int) (mk : Nat → Bool) (o : List Nat) : List (Bool × Th) := o.map fun c => (mk c, facing bench (ts.getD c th0))
/-- a bar's worth -/
def barWorth (ts : List Th) (bench : Int) (mk : Nat → Bool) (L : Int) : Int := L + Wsum (facingAt ts bench mk (List.range ts.length))
theorem getD_some {ts : List Th} {c : Nat} (h : c < ts.length) : ts[c]? = some (ts.getD c th0) := by
  rw [List.getD_eq_getElem?_getD, List.getElem?_eq_getElem h]
  rfl
theorem facing_path {ts : List Th} (hn : ∀ t ∈ ts, Nn t) (bench : Int) (mk : Nat → Bool) {o : List Nat} : (facingAt ts bench mk o).map (fun x => x.2) = (path ts o).map (facing bench) := by
  unfold facingAt path
  rw [List.map_map, List.map_map]
  rfl
/-- NO ORDER IS DONE SOONER THAN A BAR'S WORTH -/
theorem weak {ts : List Th} (hn : ∀ t ∈ ts, Nn t) {bench : Int} {mk : Nat → Bool} {L : Int} (h : BarOk ts bench mk L) {o : List Nat} (ho : Ord ts.length o) : barWorth ts bench mk L ≤ W (path ts o) := by
  have hg : ∀ c ∈ o, ts[c]? = some (ts.getD c th0) := fun c hc => getD_some (ho.lt hc)
  have key : ∀ p : List Nat, p.Perm o → L + Wsum (facingAt ts bench mk p) ≤ W ((facingAt ts bench mk p).map fun x => x.2) := by
    intro p hp
    have hgp : ∀ c ∈ p, ts[c]? = some (ts.getD c th0) := fun c hc => hg c (hp.mem_iff.mp hc)
    refine weak1 h.len _ ?_ ?_ ?_ ?_
    · intro x hx
      obtain ⟨c, hc, rfl⟩ := List.mem_map.mp hx
      exact facing_nn (hn _ (List.mem_of_getElem? (hgp c hc)))
    · intro x hx hm
      obtain ⟨c, hc, rfl⟩ := List.mem_map.mp hx
      show (facing bench (ts.getD c th0)).1 ≤ (facing bench (ts.getD c th0)).2.2
      rw [facing_here, facing_there]
      exact h.own c _ (hgp c hc) hm
    · intro x hx hm
      obtain ⟨c, hc, rfl⟩ := List.mem_map.mp hx
      show (facing bench (ts.getD c th0)).1 + (facing bench (ts.getD c th0)).2.1 < L → (facing bench (ts.getD c th0)).2.2 ≤ (facing bench (ts.getD c th0)).1
      rw [facing_here, facing_there, facing_dry]
      exact h.oth c _ (hgp c hc) hm
    · rcases h.some_ with ⟨c, t, hc, hm, hl⟩ | h0
      · have hcl : c < ts.length := (List.getElem?_eq_some_iff.mp hc).1
        have hcp : c ∈ p := hp.mem_iff.mpr (ho.mem hcl)
        have e : ts.getD c th0 = t := Option.some.inj ((getD_some hcl).symm.trans hc)
        refine .inl ⟨_, List.mem_map.mpr ⟨c, hcp, rfl⟩, hm, ?_⟩
        show L ≤ (facing bench (ts.getD c th0)).1 + (facing bench (ts.getD c th0)).2.1
        rw [facing_here, facing_dry, e]
        exact hl
      · exact .inr h0
  have hs : ∀ p : List Nat, p.Perm o → Wsum (facingAt ts bench mk p) = Wsum (facingAt ts bench mk (List.range ts.length)) := fun p hp => Wsum_perm ((hp.trans ho).map _)
  unfold barWorth
  by_cases hb : bench = 1
  · have := key o (List.Perm.refl _)
    rw [hs o (List.Perm.refl _), facing_path hn] at this
    have e : (path ts o).map (facing bench) = path ts o := by
      rw [show facing bench = id from funext fun t => by unfold facing; rw [if_pos hb]; rfl, List.map_id]
    rw [e] at this
    exact this
  · have hr := List.reverse_perm o
    have := key o.reverse hr
    rw [hs o.reverse hr, facing_path hn] at this
    have e : (path ts o.reverse).map (facing bench) = ((path ts o).map turn).reverse := by
      rw [show facing bench = turn from funext fun t => by unfold facing; rw [if_neg hb]]
      unfold path
      rw [List.map_reverse, List.map_reverse]
    rw [e, W_turn _ (path_nn hn o)] at this
    exact this
/-! ### ways: which thing is the one at which a longest way changes benches -/
theorem W_split : ∀ l : List Th, l ≠ [] → (∀ x ∈ l, Nn x) → ∃ p t q, l = p ++ t :: q ∧ W l = A p + t.1 + t.2.1 + t.2.2 + B q
  | [], h, _ => absurd rfl h
  | t :: r, _, hn => by
    obtain ⟨⟨h1, h2, h3⟩, hr⟩ := Nn.of_cons hn
    rcases Int.le_total (t.1 + W r) (t.1 + t.2.1 + t.2.2 + B r) with h | h
    · refine ⟨[], t, r, rfl, ?_⟩
      show max (t.1 + t.2.1 + t.2.2 + B r) (t.1 + W r) = 0 + t.1 + t.2.1 + t.2.2 + B r
      omega
    · cases r with
      | nil =>
        refine ⟨[], t, [], rfl, ?_⟩
        show max (t.1 + t.2.1 + t.2.2 + 0) (t.1 + 0) = 0 + t.1 + t.2.1 + t.2.2 + 0
        omega
      | cons u s =>
        obtain ⟨p, v, q, e, ew⟩ := W_split (u :: s) (by simp) hr
        refine ⟨t :: p, v, q, by rw [e]; rfl, ?_⟩
        show max (t.1 + t.2.1 + t.2.2 + B (u :: s)) (t.1 + W (u :: s)) = t.1 + A p + v.1 + v.2.1 + v.2.2 + B q
        omega
theorem W_ge : ∀ (p : List Th) (t : Th) (q : List Th), A p + t.1 + t.2.1 + t.2.2 + B q ≤ W (p ++ t :: q)
  | [], t, q => by
    show 0 + t.1 + t.2.1 + t.2.2 + B q ≤ max (t.1 + t.2.1 + t.2.2 + B q) (t.1 + W q)
    omega
  | s :: p, t, q => by
    have := W_ge p t q
    show s.1 + A p + t.1 + t.2.1 + t.2.2 + B q ≤ max (s.1 + s.2.1 + s.2.2 + B (p ++ t :: q)) (s.1 + W (p ++ t :: q))
    omega
end Bp
namespace Bp
theorem Wsum_mark1 (ts : List Th) (mk : Nat → Bool) : ∀ p : List Nat, (∀ c ∈ p, mk c = true) → Wsum (facingAt ts 1 mk p) = A (path ts p)
  | [], _ => rfl
  | c :: r, h => by
    have ih := Wsum_mark1 ts mk r fun x hx => h x (List.mem_cons_of_mem _ hx)
    show (if mk c then (facing 1 (ts.getD c th0)).1 else (facing 1 (ts.getD c th0)).2.2) + Wsum (facingAt ts 1 mk r) = (ts.getD c th0).1 + A (path ts r)
    rw [h c List.mem_cons_self, ih]
    rfl
theorem Wsum_none1 (ts : List Th) (mk : Nat → Bool) : ∀ p : List Nat, (∀ c ∈ p, mk c = false) → Wsum (facingAt ts 1 mk p) = B (path ts p)
  | [], _ => rfl
  | c :: r, h => by
    have ih := Wsum_none1 ts mk r fun x hx => h x (List.mem_cons_of_mem _ hx)
    show (if mk c then (facing 1 (ts.getD c th0)).1 else (facing 1 (ts.getD c th0)).2.2) + Wsum (facingAt ts 1 mk r) = (ts.getD c th0).2.2 + B (path ts r)
    rw [h c List.mem_cons_self, ih]
    rfl
theorem Wsum_mark2 (ts : List Th) (mk : Nat → Bool) : ∀ p : List Nat, (∀ c ∈ p, mk c = true) → Wsum (facingAt ts 2 mk p) = B (path ts p)
  | [], _ => rfl
  | c :: r, h => by
    have ih := Wsum_mark2 ts mk r fun x hx => h x (List.mem_cons_of_mem _ hx)
    show (if mk c then (facing 2 (ts.getD c th0)).1 else (facing 2 (ts.getD c th0)).2.2) + Wsum (facingAt ts 2 mk r) = (ts.getD c th0).2.2 + B (path ts r)
    rw [h c List.mem_cons_self, ih]
    rfl
theorem Wsum_none2 (ts : List Th) (mk : Nat → Bool) : ∀ p : List Nat, (∀ c ∈ p, mk c = false) → Wsum (facingAt ts 2 mk p) = A (path ts p)
  | [], _ => rfl
  | c :: r, h => by
    have ih := Wsum_none2 ts mk r fun x hx => h x (List.mem_cons_of_mem _ hx)
    show (if mk c then (facing 2 (ts.getD c th0)).1 else (facing 2 (ts.getD c th0)).2.2) + Wsum (facingAt ts 2 mk r) = (ts.getD c th0).1 + A (path ts r)
    rw [h c List.mem_cons_self, ih]
    rfl
theorem facingAt_append (ts : List Th) (bench : Int) (mk : Nat → Bool) (p q : List Nat) : facingAt ts bench mk (p ++ q) = facingAt ts bench mk p ++ facingAt ts bench mk q := by unfold facingAt; rw [List.map_append]
theorem Wsum_ord (ts : List Th) (bench : Int) (mk : Nat → Bool) {n : Nat} {o : List Nat} (ho : Ord n o) : Wsum (facingAt ts bench mk (List.range n)) = Wsum (facingAt ts bench mk o) := (Wsum_perm (ho.map _)).symm
/-- the thing at which a longest way changes benches gives a bar: those ahead of it, or those behind it -/
theorem bar_first {ts : List Th} (hn : ∀ t ∈ ts, Nn t) {p q : List Nat} {c : Nat} (ho : Ord ts.length (p ++ c :: q)) {mk : Nat → Bool} (hmk : ∀ x, mk x = true ↔ x ∈ p)
    (h1 : ∀ x ∈ p, (ts.getD x th0).1 ≤ (ts.getD x th0).2.2) (h2 : ∀ y ∈ q, (ts.getD y th0).2.2 ≤ (ts.getD y th0).1 ∨ (ts.getD c th0).1 + (ts.getD c th0).2.1 ≤ (ts.getD y th0).1 + (ts.getD y th0).2.1) :
    BarOk ts 1 mk ((ts.getD c th0).1 + (ts.getD c th0).2.1) ∧ barWorth ts 1 mk ((ts.getD c th0).1 + (ts.getD c th0).2.1) = A (path ts p) + (ts.getD c th0).1 + (ts.getD c th0).2.1 + (ts.getD c th0).2.2 + B (path ts q) := by
  have nd := ho.nd
  have hcl : c < ts.length := ho.lt (by simp)
  have hc := getD_some hcl
  have hcn := hn _ (List.mem_of_getElem? hc)
  have hno : ∀ x, x ∈ c :: q → mk x = false := fun x hx => by
    cases e : mk x with
    | false => rfl
    | true => exact absurd rfl ((List.nodup_append.mp nd).2.2 x ((hmk x).mp e) x hx)
  refine ⟨⟨by have := hcn.1; have := hcn.2.1; omega, fun x t hx hm => ?_, fun x t hx hm hl => ?_, .inl ⟨c, _, hc, hno c List.mem_cons_self, Int.le_refl _⟩⟩, ?_⟩
  · have hxl := (List.getElem?_eq_some_iff.mp hx).1
    have e : ts.getD x th0 = t := Option.some.inj ((getD_some hxl).symm.trans hx)
    have := h1 x ((hmk x).mp hm)
    rw [e] at this
    exact this
  · have hxl := (List.getElem?_eq_some_iff.mp hx).1
    have e : ts.getD x th0 = t := Option.some.inj ((getD_some hxl).symm.trans hx)
    have hxo := ho.mem hxl
    rcases List.mem_append.mp hxo with h | h
    · rw [(hmk x).mpr h] at hm
      cases hm
    · rcases List.mem_cons.mp h with rfl | h
      · rw [e] at hl
        exact absurd hl (Int.lt_irrefl _)
      · rcases h2 x h with h | h
        · rw [e] at h
          exact h
        · rw [e] at h
          exact absurd hl (Int.not_lt.mpr h)
  · unfold barWorth
    rw [Wsum_ord ts 1 mk ho, facingAt_append, Wsum_append, Wsum_mark1 ts mk p fun x hx => (hmk x).mpr hx, Wsum_none1 ts mk (c :: q) hno]
    show (ts.getD c th0).1 + (ts.getD c th0).2.1 + (A (path ts p) + ((ts.getD c th0).2.2 + B (path ts q))) = _
    omega
theorem bar_second {ts : List Th} (hn : ∀ t ∈ ts, Nn t) {p q : List Nat} {c : Nat} (ho : Ord ts.length (p ++ c :: q)) {mk : Nat → Bool} (hmk : ∀ x, mk x = true ↔ x ∈ q)
    (h1 : ∀ x ∈ q, (ts.getD x th0).2.2 ≤ (ts.getD x th0).1) (h2 : ∀ y ∈ p, (ts.getD y th0).1 ≤ (ts.getD y th0).2.2 ∨ (ts.getD c th0).2.2 + (ts.getD c th0).2.1 ≤ (ts.getD y th0).2.2 + (ts.getD y th0).2.1) :
    BarOk ts 2 mk ((ts.getD c th0).2.2 + (ts.getD c th0).2.1) ∧ barWorth ts 2 mk ((ts.getD c th0).2.2 + (ts.getD c th0).2.1) = A (path ts p) + (ts.getD c th0).1 + (ts.getD c th0).2.1 + (ts.getD c th0).2.2 + B (path ts q) := by
  have nd := ho.nd
  have hcl : c < ts.length := ho.lt (by simp)
  have hc := getD_some hcl
  have hcn := hn _ (List.mem_of_getElem? hc)
  have nd2 := (List.nodup_append.mp nd)
  have nc : c ∉ q := (List.nodup_cons.mp nd2.2.1).1
  have hnc : mk c = false := by
    cases e : mk c with
    | false => rfl
    | true => exact absurd ((hmk c).mp e) nc
  have hnp : ∀ x, x ∈ p → mk x = false := fun x hx => by
    cases e : mk x with
    | false => rfl
    | true => exact absurd rfl (nd2.2.2 x hx x (List.mem_cons_of_mem _ ((hmk x).mp e)))
  refine ⟨⟨by have := hcn.2.2; have := hcn.2.1; omega, fun x t hx hm => ?_, fun x t hx hm hl => ?_, .inl ⟨c, _, hc, hnc, Int.le_refl _⟩⟩, ?_⟩
  · have hxl := (List.getElem?_eq_some_iff.mp hx).1
    have e : ts.getD x th0 = t := Option.some.inj ((getD_some hxl).symm.trans hx)
    have := h1 x ((hmk x).mp hm)
    rw [e] at this
    exact this
  · have hxl := (List.getElem?_eq_some_iff.mp hx).1
    have e : ts.getD x th0 = t := Option.some.inj ((getD_some hxl).symm.trans hx)
    have hxo := ho.mem hxl
    rcases List.mem_append.mp hxo with h | h
    · rcases h2 x h with h | h
      · rw [e] at h
        exact h
      · rw [e] at h
        exact absurd hl (Int.not_lt.mpr h)
    · rcases List.mem_cons.mp h with rfl | h
      · rw [e] at hl
        exact absurd hl (Int.lt_irrefl _)
      · rw [(hmk x).mpr h] at hm
        cases hm
  · unfold barWorth
    rw [Wsum_ord ts 2 mk ho, facingAt_append, Wsum_append, Wsum_none2 ts mk p hnp,
      show facingAt ts 2 mk (c :: q) = facingAt ts 2 mk [c] ++ facingAt ts 2 mk q from rfl, Wsum_append, Wsum_mark2 ts mk q fun x hx => (hmk x).mpr hx, Wsum_none2 ts mk [c] (by intro x hx; obtain rfl := List.mem_singleton.mp hx; exact hnc)]
    show (ts.getD c th0).2.2 + (ts.getD c th0).2.1 + (A (path ts p) + ((ts.getD c th0).1 + 0 + B (path ts q))) = _
    omega
end Bp
namespace Bp
/-! ### orders and bars told as lists of asI -/
def asI (o : List Nat) : List Int := o.map Int.ofNat
def ordB (n : Nat) (is : List Int) : Bool := is.isPerm (asI (List.range n))
theorem ordB_iff {n : Nat} {is : List Int} : ordB n is = true ↔ is.Perm (asI (List.range n)) := List.isPerm_iff
theorem asI_back {o : List Nat} : (asI o).map Int.toNat = o := by
  unfold asI
  rw [List.map_map]
  exact (List.map_congr_left fun _ _ => rfl).trans (List.map_id o)
theorem ordB_ord {n : Nat} {is : List Int} (h : ordB n is = true) : ∃ o, is = asI o ∧ Ord n o := by
  have hp := ordB_iff.mp h
  refine ⟨is.map Int.toNat, ?_, ?_⟩
  · unfold asI
    rw [List.map_map]
    refine ((List.map_id is).symm.trans (List.map_congr_left fun x hx => ?_))
    obtain ⟨c, _, rfl⟩ := List.mem_map.mp (hp.mem_iff.mp hx)
    rfl
  · have := hp.map Int.toNat
    rw [asI_back] at this
    exact this
theorem ord_ordB {n : Nat} {o : List Nat} (h : Ord n o) : ordB n (asI o) = true := ordB_iff.mpr (h.map _)
/-- rising lists with the same members are one -/
theorem sorted_one : ∀ {l m : List Int}, l.Pairwise (· ≤ ·) → m.Pairwise (· ≤ ·) → l.Perm m → l = m
  | [], m, _, _, p => (List.Perm.nil_eq p)
  | x :: l, [], _, _, p => absurd p.length_eq (by simp)
  | x :: l, y :: m, h1, h2, p => by
    obtain ⟨a1, a2⟩ := List.pairwise_cons.mp h1
    obtain ⟨b1, b2⟩ := List.pairwise_cons.mp h2
    have exy : x = y := by
      have hx : x ∈ y :: m := p.mem_iff.mp List.mem_cons_self
      have hy : y ∈ x :: l := p.mem_iff.mpr List.mem_cons_self
      rcases List.mem_cons.mp hx with h | h
      · exact h
      · rcases List.mem_cons.mp hy with h' | h'
        · exact h'.symm
        · have := a1 y h'
          have := b1 x h
          omega
    subst exy
    rw [sorted_one a2 b2 (List.perm_cons x |>.mp p)]
theorem rising_range : ∀ n : Nat, (asI (List.range n)).Pairwise (· ≤ ·) := fun n => by
  unfold asI
  refine List.pairwise_map.mpr ((List.pairwise_lt_range (n := n)).imp fun {a b} h => ?_)
  show (a : Int) ≤ (b : Int)
  omega
/-- what sorted(is) == list(range(n)) tells -/
theorem ordB_sorted {n : Nat} {is js : List Int} (p : js.Perm is) (s : js.Pairwise (· ≤ ·)) : decide (js = asI (List.range n)) = ordB n is := by
  cases h : ordB n is with
  | true => exact decide_eq_true (sorted_one s (rising_range n) (p.trans (ordB_iff.mp h)))
  | false =>
    refine decide_eq_false fun e => ?_
    subst e
    rw [ordB_iff.mpr p.symm] at h
    cases h
def mkOf (ap : List Int) (c : Nat) : Bool := decide ((c : Int) ∈ ap)
structure BarW (ts : List Th) (bench : Int) (ap : List Int) (L : Int) : Prop where
  two : bench = 1 ∨ bench = 2
  rise : ap.Pairwise (· < ·)
  inn : ∀ x ∈ ap, 0 ≤ x ∧ x < (ts.length : Int)
  ok : BarOk ts bench (mkOf ap) L
open Classical in
noncomputable def lawW (ts : List Th) (bench : Int) (ap : List Int) (L : Int) : Int := if BarW ts bench ap L then barWorth ts bench (mkOf ap) L else -1
theorem lawW_yes {ts : List Th} {bench : Int} {ap : List Int} {L : Int} (h : BarW ts bench ap L) : lawW ts bench ap L = barWorth ts bench (mkOf ap) L := if_pos h
theorem lawW_no {ts : List Th} {bench : Int} {ap : List Int} {L : Int} (h : ¬ BarW ts bench ap L) : lawW ts bench ap L = -1 := if_neg h
theorem Wsum_nn : ∀ m : List (Bool × Th), (∀ x ∈ m, Nn x.2) → 0 ≤ Wsum m
  | [], _ => Int.le_refl _
  | x :: r, h => by
    have := Wsum_nn r fun y hy => h y (List.mem_cons_of_mem _ hy)
    obtain ⟨h1, h2, h3⟩ := h x List.mem_cons_self
    show 0 ≤ (if x.1 then x.2.1 else x.2.2.2) + Wsum r
    split <;> omega
theorem barWorth_nn {ts : List Th} (hn : ∀ t ∈ ts, Nn t) {bench : Int} {mk : Nat → Bool} {L : Int} (h : BarOk ts bench mk L) : 0 ≤ barWorth ts bench mk L := by
  have := Wsum_nn (facingAt ts bench mk (List.range ts.length)) fun x hx => by
    obtain ⟨c, hc, rfl⟩ := List.mem_map.mp hx
    exact facing_nn (hn _ (List.mem_of_getElem? (getD_some (List.mem_range.mp hc))))
  have := h.len
  unfold barWorth
  omega
/-- the longest of those that are not told apart, -1 for none -/
def lng (ts : List Th) (bench : Int) (mk : Nat → Bool) (i : Nat) : Int := (List.range i).foldl (fun m c => if mk c then m else max m (hereOf bench (ts.getD c th0) + (ts.getD c th0).2.1)) (-1)
theorem lng_succ (ts : List Th) (bench : Int) (mk : Nat → Bool) (i : Nat) : lng ts bench mk (i + 1) = if mk i then lng ts bench mk i else max (lng ts bench mk i) (hereOf bench (ts.getD i th0) + (ts.getD i th0).2.1) := by
  unfold lng
  rw [List.range_succ, List.foldl_append]
  rfl
theorem lng_ge {ts : List Th} {bench : Int} {mk : Nat → Bool} {L : Int} (hL : 0 ≤ L) : ∀ i : Nat, L ≤ lng ts bench mk i ↔ ∃ c, c < i ∧ mk c = false ∧ L ≤ hereOf bench (ts.getD c th0) + (ts.getD c th0).2.1
  | 0 => by
    refine ⟨fun h => ?_, fun ⟨c, h, _⟩ => absurd h (Nat.not_lt_zero _)⟩
    have h : L ≤ -1 := h
    omega
  | i + 1 => by
    rw [lng_succ]
    have ih := lng_ge (ts := ts) (bench := bench) (mk := mk) hL i
    cases e : mk i with
    | true =>
      simp only [if_true]
      rw [ih]
      refine ⟨fun ⟨c, h1, h2⟩ => ⟨c, by omega, h2⟩, fun ⟨c, h1, h2, h3⟩ => ⟨c, ?_, h2, h3⟩⟩
      rcases Nat.lt_or_ge c i with h | h
      · exact h
      · have : c = i := by omega
        subst this
        rw [e] at h2
        cases h2
    | false =>
      simp only [Bool.false_eq_true, if_false]
      refine ⟨fun h => ?_, fun ⟨c, h1, h2, h3⟩ => ?_⟩
      · rcases Int.le_total (lng ts bench mk i) (hereOf bench (ts.getD i th0) + (ts.getD i th0).2.1) with g | g
        · exact ⟨i, by omega, e, by omega⟩
        · obtain ⟨c, h1, h2⟩ := ih.mp (by omega)
          exact ⟨c, by omega, h2⟩
      · rcases Nat.lt_or_ge c i with h | h
        · have := ih.mpr ⟨c, h, h2, h3⟩
          omega
        · have : c = i := by omega
          subst this
          omega
theorem Wsum_range (ts : List Th) (bench : Int) (mk : Nat → Bool) (i : Nat) : Wsum (facingAt ts bench mk (List.range (i + 1))) = Wsum (facingAt ts bench mk (List.range i)) + (if mk i then hereOf bench (ts.getD i th0) else thereOf bench (ts.getD i th0)) := by
  rw [List.range_succ, facingAt_append, Wsum_append]
  have : Wsum (facingAt ts bench mk [i]) = if mk i then hereOf bench (ts.getD i th0) else thereOf bench (ts.getD i th0) := by
    show (if mk i then (facing bench (ts.getD i th0)).1 else (facing bench (ts.getD i th0)).2.2) + 0 = _
    rw [facing_here, facing_there, Int.add_zero]
  rw [this]
/-- rising, and just the members of set(ap) in rising order -/
theorem rise_of {ap js : List Int} (hs : js.Pairwise (· < ·)) (hm : ∀ k, k ∈ js ↔ k ∈ ap) : ap = js ↔ ap.Pairwise (· < ·) := by
  refine ⟨fun e => e ▸ hs, fun h => ?_⟩
  have n1 : ap.Nodup := h.imp fun {a b} h => by omega
  have n2 : js.Nodup := hs.imp fun {a b} h => by omega
  have p : ap.Perm js := (List.perm_ext_iff_of_nodup n1 n2).mpr fun k => (hm k).symm
  exact sorted_one (h.imp fun {a b} h => by omega) (hs.imp fun {a b} h => by omega) p
end Bp
/-! sorted(s) of a set of ints of any number; set(xs) of a list of ints -/
namespace BpS
open PySem PySem.Spec PyProof.Rows L2
section
variable {P : Program} {w : World} {A : Around} {E : Value → Shared → Prop} {s : Shared} {a : Addr}
/-- sorted of a set, by the collected members and the sort of any number of ints -/
theorem sorted_any {S : Int → Bool} {n : Nat} {Q : Value → Shared → Prop} (R : SetR w s.heap a S n) (quiet : A.handled = none) (few : n ≤ 100000)
    (fin : ∀ s' p (out : List Value) (c : Nat) (ns : List Int), (∀ b o, s.heap.get? b = some o → s'.heap.get? b = some o) → s'.gens = s.gens → s'.os = s.os → s.heap.objs.size ≤ p → s'.heap.get? p = some (seqObj "list" out.toArray c) → IntsAre out ns →
      ns.Pairwise (· < ·) → (∀ k, k ∈ ns ↔ S k = true) → ns.length = n → Q (.ref p) s') : wpAny (model P w) A (call (.builtin "sorted") [.ref a]) Q E s := by
  obtain ⟨ob, els, epo, tab, look, exact_, dat, good, nodup, memb, below_, fits_, size_, rising, drawn_⟩ := R
  refine Calls.call_function_entry kind_sorted plain_sorted entry_sorted (args_sorted1 _) ?_
  unfold Builtin.«sorted»
  refine wpAny_bind (m := checkCount "sorted" 1 1 _) (wpAny_pure (wpAny_bind (collect_set (A := A.in1) quiet ⟨ob, look, exact_.1, dat⟩ fits_ below_ rising drawn_ fun s1 vs keep1 grow1 gens1 os1 perm1 => ?_)))
  have len1 : vs.length = n := (perm1.length_eq.trans (by rw [List.length_map, Array.length_toList])).trans size_
  have every : ∀ v ∈ vs, ∃ i t, v = Value.int i t := fun v hv => by
    obtain ⟨e, he, rfl⟩ := List.mem_map.mp (perm1.mem_iff.mp hv)
    obtain ⟨k, tk, q, _⟩ := good e he
    exact ⟨k, tk, q⟩
  have ints1 : IntsAre vs (vs.map SrtO.iv) := SrtO.ints_iv every
  have keys1 : (vs.map SrtO.iv).Perm (els.toList.map keyOf) := by
    have z := perm1.map SrtO.iv
    rw [List.map_map] at z
    have ee : els.toList.map (SrtO.iv ∘ fun x => x.2) = els.toList.map keyOf := List.map_congr_left fun e he => by
      obtain ⟨k, tk, q, _⟩ := good e he
      show SrtO.iv e.2 = keyOf e
      unfold keyOf
      rw [q]
      rfl
    rwa [ee] at z
  have small : vs.length ≤ sizeLine := by rw [len1, sizeLine_eq]; omega
  refine wpAny_bind (wpAny_newList ?_ small)
  have laid : (s1.heap.push (seqObj "list" vs.toArray 0)).get? s1.heap.objs.size = some (seqObj "list" vs.toArray 0) := Heap.get?_push_size _ rfl
  refine wpAny_bind (wpAny_holding (wpAny_call_entry slot_list_sort ⟨_, laid, rfl⟩ entry_list_sort (SrtO.list_sort_ord SrtO.swo_int laid small (fun two => SrtO.ints_sortable ints1 two) fun out srt stb => ⟨_, rfl, ?_⟩) (args_list_sort _)))
  obtain ⟨outI, outP, outS⟩ := SrtO.ints_out ints1 srt stb
  obtain ⟨c, hc⟩ := sortedHeap_at (vs := vs) (out := out.toArray) laid
  have pn : (out.map SrtO.iv).Perm (els.toList.map keyOf) := outP.trans keys1
  refine wpAny_pure ⟨_, rfl, fin _ s1.heap.objs.size out c (out.map SrtO.iv) (fun b u e => ?_) gens1 os1 grow1 hc outI ?_ (fun k => by rw [pn.mem_iff, ← memb k]) ?_⟩
  · have old := keep1 b u e
    have lower := Heap.lt_size old
    have stay := sortedHeap_old (vs := vs) (out := out.toArray) (Nat.ne_of_lt lower) (show b < (s1.heap.push (seqObj "list" vs.toArray 0)).objs.size by rw [size_push']; exact Nat.lt_succ_of_lt lower)
    exact stay.trans (Heap.get?_push_of_some _ old)
  · have nd' := pn.nodup_iff.mpr nodup
    exact List.Pairwise.imp₂ (fun x y h1 h2 => by omega) outS nd'
  · rw [pn.length_eq, List.length_map, Array.length_toList]
    exact size_
/-- a fresh set -/
def freshO (w : World) : Obj := { cls := .type "set", dict := none, data := .set #[] 0 (.fresh 0 0 (!w.params.followText "set-order")) }
set_option maxHeartbeats 3200000 in
/-- set(xs), xs a list of ints -/
theorem set_ints {l : Addr} {its : Array Value} (ns : List Int) {Q : Value → Shared → Prop} (quiet : A.handled = none) (isl : s.heap.IsList l its) (hints : IntsAre its.toList ns) (few : ns.length + 1 < scanBound)
    (fin : ∀ (h' : Heap) (tk c : Nat), SetR w h' s.heap.objs.size (fun j => decide (j ∈ ns)) c → c ≤ ns.length → (∀ b o, s.heap.get? b = some o → h'.get? b = some o) → Q (.ref s.heap.objs.size) { s with heap := h', toks := tk }) : wpAny (model P w) A (call (.type "set") [.ref l]) Q E s := by
  have size1 : its.size = ns.length := (Array.length_toList (xs := its)).symm.trans (IntsAre.length hints)
  obtain ⟨mroC, mroT, mroE⟩ := PySem.F.called_set.mro
  have made1 := PySem.F.called_set.made
  have sub1 := PySem.F.called_set.sub
  have not1 := PySem.F.called_set.notType
  have can1 := PySem.F.called_set.canCreate
  have typ1 := PySem.F.typeCall_set_1 (.ref l)
  refine wpAny_call (codeAny_of_tree ?_)
  show wpAny _ _ (callAny (.type "set") ⟨[.ref l], []⟩) _ _ _
  refine wpAny_pure ⟨Code.quiet_builtin _ (by decide +kernel), codeAny_builtin F.entry_type_call ?_⟩
  rw [Around.under_plain (weight_type_call_type "set" [Value.ref l] []) rfl]
  repeat (any_goals (first | assumption | wp_step))
  refine codeAny_mono (code_set_led1 (Value.ref l) (E := E) (Q₁ := fun v s₁ => v = .ref s.heap.objs.size ∧ s₁ = { s with heap := s.heap.push (freshO w) }) ⟨rfl, rfl⟩) fun r s₁ got => ?_
  cases r with
  | error e => exact got
  | ok fl => cases fl with
    | ret v =>
      obtain ⟨rfl, rfl⟩ := got
      have atS : (s.heap.push (freshO w)).get? s.heap.objs.size = some (freshO w) := Heap.get?_push_size _ rfl
      have tyS : Shared.TypeIs { s with heap := s.heap.push (freshO w) } (.ref s.heap.objs.size) "set" := ⟨_, atS, rfl⟩
      have look1 := PySem.F.called_set.init.lookup
      have bind1 := PySem.F.called_set.init.bind (Value.ref s.heap.objs.size)
      repeat (any_goals (first | assumption | wp_step))
      let Done : Value → Shared → Prop := fun v s₂ => v = .none ∧ ∃ h' tk c, s₂ = { s with heap := h', toks := tk } ∧ SetR w h' s.heap.objs.size (fun j => decide (j ∈ ns)) c ∧ c ≤ ns.length ∧ ∀ b o, s.heap.get? b = some o → h'.get? b = some o
      refine codeAny_mono (codeAny_call_builtin (R := wants Done E) PySem.F.called_set.init.plain PySem.F.entry_set_init (check_set_init_1 tyS ?_)) fun r₂ s₂ got₂ => ?_
      · obtain ⟨⟨lc, ld, ldat, lsl⟩, lget, lcls, lcap, ldata⟩ := isl
        simp only at lcls ldata
        subst lcls; subst ldata
        have below_ : l < s.heap.objs.size := Heap.lt_size lget
        have lget1 : (s.heap.push (freshO w)).get? l = some ⟨.type "list", ld, .seq its lcap, lsl⟩ := Heap.get?_push_of_some _ lget
        have isl1 : (s.heap.push (freshO w)).IsList l its := ⟨_, lget1, rfl, lcap, rfl⟩
        have subS := PySem.F.sub_list_set
        have subF := PySem.F.sub_list_frozenset
        have noD : (Value.type "list" == Value.type "dict") = false := by decide
        unfold Builtin.«set.__init__» noKeywords Builtin.Frozenset.updateFrom
        generalize keepPI : pyIter = PI
        wp_walk
        subst keepPI
        refine wpAny_pyIter_list isl1 (wpAny_bind (wpAny_runValue ?_))
        have quiet3 : A.in1.in1.in1.handled = none := by simp [quiet]
        have bigger : (s.heap.push (freshO w)).objs.size = s.heap.objs.size + 1 := Heap.size_push ..
        have apart1 : l ≠ (s.heap.push (freshO w)).objs.size := by rw [bigger]; exact Nat.ne_of_lt (Nat.lt_succ_of_lt below_)
        have apart2 : s.heap.objs.size ∉ [(s.heap.push (freshO w)).objs.size, l] := by
          rw [bigger]
          simp only [List.mem_cons, List.not_mem_nil, or_false, not_or]
          exact ⟨Nat.ne_of_lt (Nat.lt_succ_self _), Nat.ne_of_gt below_⟩
        have each : ∀ (i : Nat) (v : Value), its[i]? = some v → ∃ k t, ns[i]? = some k ∧ v = .int k t := fun i v hv => by
          have lower : i < ns.length := size1 ▸ (Array.getElem?_eq_some_iff.mp hv).1
          obtain ⟨t, e⟩ := PyProof.Rows.IntsAre.int_at hints i v ((Array.getElem?_toList).trans hv)
          refine ⟨_, t, List.getElem?_eq_getElem lower, ?_⟩
          rw [e, List.getD_eq_getElem?_getD, List.getElem?_eq_getElem lower]
          rfl
        refine set_update_ints ((Walks.list quiet3 _ l apart1 its).toS) s.heap.objs.size apart2 ns size1 few each (its.size - 0) 0 _ (by omega) (Nat.zero_le _) ⟨⟨_, Heap.get?_push_size _ rfl, rfl, rfl⟩, isl1.push _⟩ ⟨0, Nat.le_refl 0, setR_new_at (Heap.get?_push_of_some _ atS)⟩ ?_
        intro s' c' moved few' made'
        obtain ⟨h', g', d', tk', os'⟩ := s'
        obtain rfl : g' = s.gens := moved.gens
        obtain rfl : d' = s.drawn := moved.drawn
        obtain rfl : os' = s.os := moved.os
        show wpAny _ _ _ _ _ _
        refine wpAny_pure ?_
        show wpAny _ _ (ret Value.none) _ _ _
        refine wpAny_pure ⟨rfl, h', tk', c', rfl, made', size1 ▸ few', fun b o e => moved.heap b o ?_ (Heap.get?_push_of_some _ (Heap.get?_push_of_some _ e))⟩
        have lower := Heap.lt_size e
        simp only [List.mem_cons, List.not_mem_nil, or_false, not_or]
        rw [bigger]
        exact ⟨Nat.ne_of_lt lower, Nat.ne_of_lt (Nat.lt_succ_of_lt lower)⟩
      · cases r₂ with
        | error e => exact got₂
        | ok fl₂ => cases fl₂ with
          | ret v =>
            obtain ⟨rfl, h', tk, c', rfl, made', few', keep'⟩ := got₂
            repeat (any_goals (first | assumption | wp_step))
            exact fin _ _ _ made' few' keep'
          | _ => exact got₂.elim
    | _ => exact got.elim
end
/-- the set of the members of ns, c of them, at p -/
def SetOx (w : World) (p : Addr) (ns : List Int) (c : Nat) : HO := SetO w p (fun j => decide (j ∈ ns)) c
section
variable {X : Cx}
/-- set(xs) -/
def rSetL (K : PySem.W.Frag) (w : World) : List V → Hp → VK → Prop := fun xs H Q => ∃ (l : Addr) (ns : List Int), xs = [V.ref l] ∧ SqL K H l (ns.map V.int) ∧ ns.length ≤ 1000 ∧ ∀ (p : Addr) (c : Nat), c ≤ ns.length → H p = none → Q (.ref p) (upd H p (SetO w p (fun j => decide (j ∈ ns)) c))
theorem cr_setL (hc : X.calm = true) : CallR X (.type "set") (rSetL X.K X.w) := by
  intro pins s σ H xs us Q I r h
  obtain ⟨l, ns, rfl, hl, few, q⟩ := h
  rw [Vals.ref1 r]
  obtain ⟨its, rv, pl, _⟩ := I.list hl
  refine set_ints (P := X.prog) (w := X.w) ns (I.ok.hd hc) pl.isList (by simpa using ints_of_vals rv) (by unfold scanBound; omega) fun h' tk c made small keep => ?_
  exact ⟨.ref s.heap.objs.size, upd H s.heap.objs.size (SetO X.w s.heap.objs.size (fun j => decide (j ∈ ns)) c), I.laid (t' := tk) keep (Nat.le_refl _) (setO_new made), rfl, q _ c small (I.hok.fresh (Nat.le_refl _))⟩
/-- sorted(s) -/
def rSortA (w : World) : List V → Hp → VK → Prop := fun vs H Q => ∃ (a : Addr) (S : Int → Bool) (n : Nat), vs = [V.ref a] ∧ H a = some (SetO w a S n) ∧ n ≤ 100000 ∧ ∀ (ns : List Int) (p : Addr), ns.Pairwise (· < ·) → (∀ k : Int, k ∈ ns ↔ S k = true) → ns.length = n → H p = none → Q (.ref p) (upd H p (.lst (ns.map V.int)))
theorem cr_sortA (hc : X.calm = true) : CallR X (.builtin "sorted") (rSortA X.w) := by
  intro pins s σ H vs us Q I r h
  obtain ⟨a, S, n, rfl, ha, few, q⟩ := h
  rw [Vals.ref1 r]
  refine sorted_any (setO_get I ha) (I.ok.hd hc) few fun s' p out c ns keep gens1 os1 later laid ints1 srt mem1 len1 => ?_
  have fresh : H p = none := I.hok.fresh later
  have small : (ns.map V.int).length ≤ sizeLine := by rw [List.length_map, len1, sizeLine_eq]; omega
  obtain ⟨h', g', d', tk', os'⟩ := s'
  obtain rfl : g' = s.gens := gens1
  obtain rfl : os' = s.os := os1
  exact ⟨.ref p, upd H p (.lst (ns.map V.int)), I.call (ch := []) (Un.laid keep later fresh) (I.hok.laid keep later ⟨small, out, c, vals_of_ints ints1, laid⟩) I.bare (fun _ z => nomatch z), rfl, q ns p srt mem1 len1 fresh⟩
end
end BpS
namespace Bp
/-! ### orders by their marks -/
theorem nd_len : ∀ (n : Nat) (o : List Nat), o.Nodup → (∀ x ∈ o, x < n) → o.length ≤ n
  | 0, [], _, _ => Nat.le_refl _
  | 0, x :: _, _, h => absurd (h x List.mem_cons_self) (Nat.not_lt_zero _)
  | n + 1, o, nd, h => by
    have h1 := nd_len n (o.erase n) (nd.erase n) fun x hx => by
      have hx' := (nd.mem_erase_iff).mp hx
      have := h x hx'.2
      have := hx'.1
      omega
    have h2 : o.length ≤ (o.erase n).length + 1 := by
      rw [List.length_erase]
      split <;> omega
    omega
theorem ord_nd {n : Nat} {o : List Nat} (hl : o.length = n) (nd : o.Nodup) (h : ∀ x ∈ o, x < n) : Ord n o := by
  refine (List.perm_ext_iff_of_nodup nd List.nodup_range).mpr fun c => ⟨fun hc => List.mem_range.mpr (h c hc), fun hc => ?_⟩
  by_cases hm : c ∈ o
  · exact hm
  · have := nd_len n (c :: o) (List.nodup_cons.mpr ⟨hm, nd⟩) fun x hx => by
      rcases List.mem_cons.mp hx with rfl | hx
      · exact List.mem_range.mp hc
      · exact h x hx
    rw [List.length_cons] at this
    omega
theorem ints_nat {n : Nat} : ∀ {is : List Int}, (∀ x ∈ is, 0 ≤ x ∧ x < (n : Int)) → is = asI (is.map Int.toNat) := fun {is} h => by
  unfold asI
  rw [List.map_map]
  refine ((List.map_id is).symm.trans (List.map_congr_left fun x hx => ?_))
  show x = ((x.toNat : Nat) : Int)
  have := h x hx
  omega
theorem asI_inj {a b : Nat} (h : (Int.ofNat a) = Int.ofNat b) : a = b := Int.ofNat.inj h
theorem asI_nd {o : List Nat} : (asI o).Nodup ↔ o.Nodup := by
  unfold asI
  refine ⟨fun h => (List.pairwise_map.mp h).imp fun {a b} q e => q (by rw [e]), fun h => List.pairwise_map.mpr (h.imp fun {a b} q e => q (asI_inj e))⟩
theorem ordB_yes {n : Nat} {is : List Int} (hl : is.length = n) (nd : is.Nodup) (h : ∀ x ∈ is, 0 ≤ x ∧ x < (n : Int)) : ordB n is = true := by
  have e := ints_nat h
  rw [e]
  refine ord_ordB (ord_nd (by rw [List.length_map]; exact hl) ?_ fun x hx => ?_)
  · rw [e] at nd
    exact asI_nd.mp nd
  · obtain ⟨y, hy, rfl⟩ := List.mem_map.mp hx
    have := h y hy
    omega
theorem ordB_in {n : Nat} {is : List Int} (h : ordB n is = true) : is.length = n ∧ is.Nodup ∧ ∀ x ∈ is, 0 ≤ x ∧ x < (n : Int) := by
  obtain ⟨o, rfl, ho⟩ := ordB_ord h
  refine ⟨by unfold asI; rw [List.length_map]; exact ho.len, asI_nd.mpr ho.nd, fun x hx => ?_⟩
  obtain ⟨c, hc, rfl⟩ := List.mem_map.mp hx
  have := ho.lt hc
  show 0 ≤ (c : Int) ∧ (c : Int) < (n : Int)
  omega
theorem ordB_no {n : Nat} {is : List Int} (h : ¬ (is.length = n ∧ is.Nodup ∧ ∀ x ∈ is, 0 ≤ x ∧ x < (n : Int))) : ordB n is = false := by
  cases e : ordB n is with
  | false => rfl
  | true => exact absurd (ordB_in e) h
/-- at each turn: what is told so far is of counts below n, each once -/
structure Fine (n : Nat) (is : List Int) : Prop where
  nd : is.Nodup
  rg : ∀ x ∈ is, 0 ≤ x ∧ x < (n : Int)
theorem take_snoc {α : Type} {l : List α} {i : Nat} {x : α} (h : l[i]? = some x) : l.take (i + 1) = l.take i ++ [x] := by
  rw [List.take_add_one, h]
  rfl
theorem Fine.more {n : Nat} {is : List Int} {i : Nat} {x : Int} (h : Fine n (is.take i)) (hx : is[i]? = some x) (h1 : 0 ≤ x ∧ x < (n : Int)) (h2 : x ∉ is.take i) : Fine n (is.take (i + 1)) := by
  rw [take_snoc hx]
  refine ⟨List.nodup_append.mpr ⟨h.nd, by simp, fun a ha b hb e => ?_⟩, fun y hy => ?_⟩
  · obtain rfl := List.mem_singleton.mp hb
    exact h2 (e ▸ ha)
  · rcases List.mem_append.mp hy with hy | hy
    · exact h.rg y hy
    · obtain rfl := List.mem_singleton.mp hy
      exact h1
theorem twice {is : List Int} {i : Nat} {x : Int} (hx : is[i]? = some x) (h2 : x ∈ is.take i) : ¬ is.Nodup := fun nd => by
  have e : is = is.take i ++ (x :: is.drop (i + 1)) := by
    have h := (List.getElem?_eq_some_iff.mp hx)
    obtain ⟨hi, rfl⟩ := h
    rw [← List.drop_eq_getElem_cons hi, List.take_append_drop]
  rw [e] at nd
  exact (List.nodup_append.mp nd).2.2 x h2 x List.mem_cons_self rfl
/-! ### rising counts -/
def Rises (n : Nat) (ap : List Int) : Prop := ap.Pairwise (· < ·) ∧ ∀ x ∈ ap, 0 ≤ x ∧ x < (n : Int)
instance (n : Nat) (ap : List Int) : Decidable (Rises n ap) := inferInstanceAs (Decidable (_ ∧ _))
/-- least: one more than the last -/
structure Ris (n : Nat) (ap : List Int) (m : Int) : Prop where
  ok : Rises n ap
  nn : 0 ≤ m
  lt : ∀ x ∈ ap, x < m
  is : m = 0 ∨ m - 1 ∈ ap
theorem Ris.nil (n : Nat) : Ris n [] 0 := ⟨⟨List.Pairwise.nil, (fun _ h => nomatch h)⟩, Int.le_refl _, (fun _ h => nomatch h), .inl rfl⟩
theorem Ris.more {n : Nat} {ap : List Int} {m x : Int} (h : Ris n ap m) (h1 : m ≤ x) (h2 : x < (n : Int)) : Ris n (ap ++ [x]) (x + 1) := by
  refine ⟨⟨List.pairwise_append.mpr ⟨h.ok.1, by simp, fun a ha b hb => ?_⟩, fun y hy => ?_⟩, by have := h.nn; omega, fun y hy => ?_, .inr ?_⟩
  · obtain rfl := List.mem_singleton.mp hb
    have := h.lt a ha
    omega
  · rcases List.mem_append.mp hy with hy | hy
    · exact h.ok.2 y hy
    · obtain rfl := List.mem_singleton.mp hy
      have := h.nn
      omega
  · rcases List.mem_append.mp hy with hy | hy
    · have := h.lt y hy
      omega
    · obtain rfl := List.mem_singleton.mp hy
      omega
  · rw [show x + 1 - 1 = x by omega]
    simp
theorem Ris.stop {n : Nat} {ap : List Int} {i : Nat} {m x : Int} (h : Ris n (ap.take i) m) (hx : ap[i]? = some x) (hn : ¬ (m ≤ x ∧ x < (n : Int))) : ¬ Rises n ap := fun hr => by
  have hm : x ∈ ap := List.mem_of_getElem? hx
  have hb := hr.2 x hm
  have e : ap = ap.take i ++ (x :: ap.drop (i + 1)) := by
    obtain ⟨hi, rfl⟩ := List.getElem?_eq_some_iff.mp hx
    rw [← List.drop_eq_getElem_cons hi, List.take_append_drop]
  rcases h.is with h0 | h0
  · omega
  · have hp := hr.1
    rw [e] at hp
    have := (List.pairwise_append.mp hp).2.2 (m - 1) h0 x List.mem_cons_self
    omega
/-! ### a bar, as the program asks -/
def sel (ts : List Th) (bench : Int) (mk : Nat → Bool) : List Nat → List Th := fun l => (l.filter mk).map fun c => facing bench (ts.getD c th0)
def standB (l : List Th) : Bool := l.all fun t => decide (t.1 ≤ t.2.2)
def rchB (l : List Th) (L : Int) : Bool := (l.all fun t => decide (L ≤ t.1 + t.2.1) || decide (t.2.2 ≤ t.1)) && (decide (L = 0) || l.any fun t => decide (L ≤ t.1 + t.2.1))
theorem sel_mem {ts : List Th} {bench : Int} {mk : Nat → Bool} {n : Nat} {t : Th} : t ∈ sel ts bench mk (List.range n) ↔ ∃ c, c < n ∧ mk c = true ∧ t = facing bench (ts.getD c th0) := by
  unfold sel
  refine ⟨fun h => ?_, fun ⟨c, h1, h2, h3⟩ => List.mem_map.mpr ⟨c, List.mem_filter.mpr ⟨List.mem_range.mpr h1, h2⟩, h3.symm⟩⟩
  obtain ⟨c, hc, rfl⟩ := List.mem_map.mp h
  obtain ⟨h1, h2⟩ := List.mem_filter.mp hc
  exact ⟨c, List.mem_range.mp h1, h2, rfl⟩
theorem barOk_iff {ts : List Th} {bench : Int} {mk : Nat → Bool} {L : Int} (hL : 0 ≤ L) : (standB (sel ts bench mk (List.range ts.length)) && rchB (sel ts bench (fun c => !mk c) (List.range ts.length)) L) = true ↔ BarOk ts bench mk L := by
  have hg : ∀ {c : Nat} {t : Th}, ts[c]? = some t → c < ts.length ∧ ts.getD c th0 = t := fun {c t} h => by
    have hc := (List.getElem?_eq_some_iff.mp h).1
    exact ⟨hc, Option.some.inj ((getD_some hc).symm.trans h)⟩
  unfold standB rchB
  rw [Bool.and_eq_true, Bool.and_eq_true, List.all_eq_true, List.all_eq_true, Bool.or_eq_true, List.any_eq_true]
  refine ⟨fun ⟨h1, h2, h3⟩ => ⟨hL, fun c t hc hm => ?_, fun c t hc hm hl => ?_, ?_⟩, fun h => ⟨fun t ht => ?_, fun t ht => ?_, ?_⟩⟩
  · obtain ⟨hcl, e⟩ := hg hc
    have := of_decide_eq_true (h1 _ (sel_mem.mpr ⟨c, hcl, hm, rfl⟩))
    rw [facing_here, facing_there, e] at this
    exact this
  · obtain ⟨hcl, e⟩ := hg hc
    have := h2 _ (sel_mem.mpr ⟨c, hcl, by rw [hm]; rfl, rfl⟩)
    rw [facing_here, facing_there, facing_dry, e] at this
    rcases (Bool.or_eq_true _ _).mp this with h | h
    · have := of_decide_eq_true h
      omega
    · exact of_decide_eq_true h
  · rcases h3 with h | ⟨t, ht, h⟩
    · exact .inr (of_decide_eq_true h)
    · obtain ⟨c, h1, h2, rfl⟩ := sel_mem.mp ht
      have := of_decide_eq_true h
      rw [facing_here, facing_dry] at this
      exact .inl ⟨c, _, getD_some h1, by simpa using h2, this⟩
  · obtain ⟨c, h1, h2, rfl⟩ := sel_mem.mp ht
    refine decide_eq_true ?_
    rw [facing_here, facing_there]
    exact h.own c _ (getD_some h1) h2
  · obtain ⟨c, h1, h2, rfl⟩ := sel_mem.mp ht
    rw [facing_here, facing_there, facing_dry]
    by_cases hl : hereOf bench (ts.getD c th0) + (ts.getD c th0).2.1 < L
    · rw [decide_eq_true (h.oth c _ (getD_some h1) (by simpa using h2) hl), Bool.or_true]
    · rw [decide_eq_true (by omega), Bool.true_or]
  · rcases h.some_ with ⟨c, t, hc, hm, hl⟩ | h0
    · obtain ⟨hcl, e⟩ := hg hc
      refine .inr ⟨_, sel_mem.mpr ⟨c, hcl, by rw [hm]; rfl, rfl⟩, decide_eq_true ?_⟩
      rw [facing_here, facing_dry, e]
      exact hl
    · exact .inl (decide_eq_true h0)
theorem sel_worth (ts : List Th) (bench : Int) (mk : Nat → Bool) : ∀ l : List Nat, A (sel ts bench mk l) + B (sel ts bench (fun c => !mk c) l) = Wsum (facingAt ts bench mk l)
  | [] => rfl
  | c :: r => by
    have ih := sel_worth ts bench mk r
    show A (sel ts bench mk (c :: r)) + B (sel ts bench (fun c => !mk c) (c :: r)) = (if mk c then (facing bench (ts.getD c th0)).1 else (facing bench (ts.getD c th0)).2.2) + Wsum (facingAt ts bench mk r)
    unfold sel at ih ⊢
    cases e : mk c with
    | true =>
      rw [List.filter_cons_of_pos e, List.filter_cons_of_neg (by rw [e]; decide), List.map_cons, ← ih]
      show (facing bench (ts.getD c th0)).1 + _ + _ = (facing bench (ts.getD c th0)).1 + _
      omega
    | false =>
      rw [List.filter_cons_of_neg (by rw [e]; decide), List.filter_cons_of_pos (by rw [e]; decide), List.map_cons, ← ih]
      show _ + ((facing bench (ts.getD c th0)).2.2 + _) = (facing bench (ts.getD c th0)).2.2 + _
      omega
/-- Soonest, as it is told -/
noncomputable def soB (ts : List Th) (is : List Int) (bench : Int) (ap : List Int) (L : Int) : Bool := ordB ts.length is && decide (lawW ts bench ap L = W (path ts (is.map Int.toNat)))
theorem path_toNat (ts : List Th) (o : List Nat) : path ts ((asI o).map Int.toNat) = path ts o := by rw [asI_back]
theorem W_nonneg {ts : List Th} (hn : ∀ t ∈ ts, Nn t) (o : List Nat) : 0 ≤ W (path ts o) := (W_nn (path_nn hn o)).2.2.1
theorem soB_no {ts : List Th} {is : List Int} {bench : Int} {ap : List Int} {L : Int} (hn : ∀ t ∈ ts, Nn t) (h : ¬ BarW ts bench ap L) : soB ts is bench ap L = false := by
  unfold soB
  have := W_nonneg hn (is.map Int.toNat)
  rw [lawW_no h, decide_eq_false (by omega), Bool.and_false]
/-! ### the order that is done soonest -/
def fr (ts : List Th) (c : Nat) : Int := (ts.getD c th0).1
def dr (ts : List Th) (c : Nat) : Int := (ts.getD c th0).2.1
def se (ts : List Th) (c : Nat) : Int := (ts.getD c th0).2.2
def Rj (ts : List Th) (a b : Nat) : Prop := (fr ts a ≤ se ts a ∧ fr ts b ≤ se ts b ∧ fr ts a + dr ts a ≤ fr ts b + dr ts b) ∨ (fr ts a ≤ se ts a ∧ se ts b < fr ts b) ∨ (se ts a < fr ts a ∧ se ts b < fr ts b ∧ dr ts b + se ts b ≤ dr ts a + se ts a)
structure Jo (ts : List Th) (o : List Nat) : Prop where
  ord : Ord ts.length o
  pw : o.Pairwise (Rj ts)
theorem jo_of {ts : List Th} {e d : List Nat} (he : e.Perm ((List.range ts.length).filter fun c => decide (fr ts c ≤ se ts c))) (hd : d.Perm ((List.range ts.length).filter fun c => !decide (fr ts c ≤ se ts c)))
    (pe : e.Pairwise fun a b => fr ts a + dr ts a ≤ fr ts b + dr ts b) (pd : d.Pairwise fun a b => dr ts b + se ts b ≤ dr ts a + se ts a) : Jo ts (e ++ d) := by
  have me : ∀ c ∈ e, fr ts c ≤ se ts c := fun c hc => of_decide_eq_true (List.mem_filter.mp (he.mem_iff.mp hc)).2
  have md : ∀ c ∈ d, se ts c < fr ts c := fun c hc => by
    have := (List.mem_filter.mp (hd.mem_iff.mp hc)).2
    simp at this
    exact this
  refine ⟨(he.append hd).trans (List.filter_append_perm _ _), List.pairwise_append.mpr ⟨?_, ?_, fun a ha b hb => .inr (.inl ⟨me a ha, md b hb⟩)⟩⟩
  · exact List.Pairwise.imp_of_mem (fun {a b} ha hb h => .inl ⟨me a ha, me b hb, h⟩) pe
  · exact List.Pairwise.imp_of_mem (fun {a b} ha hb h => .inr (.inr ⟨md a ha, md b hb, h⟩)) pd
/-! ### where bench 2 waits last -/
theorem going_succ {ts : List Th} {o : List Nat} {i c : Nat} (h : o[i]? = some c) : going ts (o.take (i + 1)) = stp ts (going ts (o.take i)) c := fold_more h
theorem path_succ {ts : List Th} {o : List Nat} {i c : Nat} (h : o[i]? = some c) : path ts (o.take (i + 1)) = path ts (o.take i) ++ [ts.getD c th0] := by
  rw [take_snoc h]
  unfold path
  rw [List.map_append]
  rfl
theorem going_A (ts : List Th) (o : List Nat) : ∀ i, i ≤ o.length → (going ts (o.take i)).2.1 = A (path ts (o.take i))
  | 0, _ => by rw [List.take_zero]; rfl
  | i + 1, hi => by
    have h : o[i]? = some o[i] := List.getElem?_eq_getElem (by omega)
    rw [going_succ h, path_succ h, A_append, ← going_A ts o i (by omega)]
    show (going ts (o.take i)).2.1 + fr ts o[i] = (going ts (o.take i)).2.1 + (fr ts o[i] + 0)
    omega
/-- bench 2 begins just as the thing is dry -/
def waitsAt (ts : List Th) (o : List Nat) (i : Nat) : Prop := (going ts (o.take i)).2.2 ≤ (going ts (o.take i)).2.1 + fr ts (o.getD i 0) + dr ts (o.getD i 0)
instance (ts : List Th) (o : List Nat) (i : Nat) : Decidable (waitsAt ts o i) := inferInstanceAs (Decidable (_ ≤ _))
theorem getD_of {o : List Nat} {i c : Nat} (h : o[i]? = some c) : o.getD i 0 = c := by rw [List.getD_eq_getElem?_getD, h]; rfl
theorem last_run {ts : List Th} {o : List Nat} {i c : Nat} (h : o[i]? = some c) (hw : waitsAt ts o i) (hl : ∀ j, i < j → j < o.length → ¬ waitsAt ts o j) : ∀ k, i + 1 + k ≤ o.length →
    (going ts (o.take (i + 1 + k))).2.2 + B (path ts (o.take (i + 1))) = A (path ts (o.take i)) + fr ts c + dr ts c + se ts c + B (path ts (o.take (i + 1 + k)))
  | 0, hk => by
    have hi : i < o.length := (List.getElem?_eq_some_iff.mp h).1
    unfold waitsAt at hw
    rw [getD_of h] at hw
    rw [Nat.add_zero, going_succ h, ← going_A ts o i (by omega)]
    show max ((going ts (o.take i)).2.1 + fr ts c + dr ts c) (going ts (o.take i)).2.2 + se ts c + _ = _
    omega
  | k + 1, hk => by
    have hj : o[i + 1 + k]? = some o[i + 1 + k] := List.getElem?_eq_getElem (by omega)
    have ih := last_run h hw hl k (by omega)
    have hn := hl (i + 1 + k) (by omega) (by omega)
    unfold waitsAt at hn
    rw [getD_of hj] at hn
    rw [show i + 1 + (k + 1) = i + 1 + k + 1 by omega, going_succ hj, path_succ hj, B_append]
    show max ((going ts (o.take (i + 1 + k))).2.1 + fr ts o[i + 1 + k] + dr ts o[i + 1 + k]) (going ts (o.take (i + 1 + k))).2.2 + se ts o[i + 1 + k] + B (path ts (o.take (i + 1))) = _ + (B (path ts (o.take (i + 1 + k))) + (se ts o[i + 1 + k] + 0))
    omega
theorem split_at {o : List Nat} {i c : Nat} (h : o[i]? = some c) : o = o.take i ++ c :: o.drop (i + 1) := by
  obtain ⟨hi, rfl⟩ := List.getElem?_eq_some_iff.mp h
  rw [← List.drop_eq_getElem_cons hi, List.take_append_drop]
theorem path_append (ts : List Th) (p q : List Nat) : path ts (p ++ q) = path ts p ++ path ts q := by unfold path; rw [List.map_append]
theorem last_W {ts : List Th} (hn : ∀ t ∈ ts, Nn t) {o : List Nat} {i c : Nat} (h : o[i]? = some c) (hw : waitsAt ts o i) (hl : ∀ j, i < j → j < o.length → ¬ waitsAt ts o j) :
    W (path ts o) = A (path ts (o.take i)) + fr ts c + dr ts c + se ts c + B (path ts (o.drop (i + 1))) := by
  have hi : i < o.length := (List.getElem?_eq_some_iff.mp h).1
  have := last_run h hw hl (o.length - (i + 1)) (by omega)
  rw [show i + 1 + (o.length - (i + 1)) = o.length by omega, List.take_length, going_W hn] at this
  have hb : B (path ts o) = B (path ts (o.take (i + 1))) + B (path ts (o.drop (i + 1))) := by
    rw [← B_append, ← path_append, List.take_append_drop]
  omega
theorem waits_first {ts : List Th} (hn : ∀ t ∈ ts, Nn t) (o : List Nat) : waitsAt ts o 0 := by
  unfold waitsAt
  rw [List.take_zero]
  show (0 : Int) ≤ 0 + fr ts (o.getD 0 0) + dr ts (o.getD 0 0)
  have : Nn (ts.getD (o.getD 0 0) th0) := by
    rw [List.getD_eq_getElem?_getD (l := ts)]
    cases e : ts[o.getD 0 0]? with
    | none => exact ⟨Int.le_refl _, Int.le_refl _, Int.le_refl _⟩
    | some t => exact hn t (List.mem_of_getElem? e)
  have h1 : 0 ≤ fr ts (o.getD 0 0) := this.1
  have h2 : 0 ≤ dr ts (o.getD 0 0) := this.2.1
  omega
/-- when the i-th of the order begins -/
theorem fold_keep (ts : List Th) : ∀ (r : List Nat) (s : Sg) (c : Nat), c ∉ r → (r.foldl (stp ts) s).1[c]? = s.1[c]?
  | [], _, _, _ => rfl
  | d :: r, s, c, h => by
    have h1 : d ≠ c := fun e => h (e ▸ List.mem_cons_self)
    have h2 : c ∉ r := fun e => h (List.mem_cons_of_mem _ e)
    rw [List.foldl_cons, fold_keep ts r _ c h2]
    show (s.1.set d _)[c]? = s.1[c]?
    rw [List.getElem?_set_ne h1]
theorem going_at {ts : List Th} {o : List Nat} (nd : o.Nodup) {i c : Nat} (h : o[i]? = some c) (hc : c < ts.length) :
    (going ts o).1[c]? = some ((going ts (o.take i)).2.1, max ((going ts (o.take i)).2.1 + fr ts c + dr ts c) (going ts (o.take i)).2.2) := by
  have e := split_at h
  have hnot : c ∉ o.drop (i + 1) := by
    rw [e] at nd
    exact (List.nodup_cons.mp (List.nodup_append.mp nd).2.1).1
  have g : going ts o = (o.drop (i + 1)).foldl (stp ts) (going ts (o.take (i + 1))) := by
    unfold going
    rw [← List.foldl_append, List.take_append_drop]
  rw [g, fold_keep ts _ _ c hnot, going_succ h]
  show ((going ts (o.take i)).1.set c _)[c]? = _
  rw [List.getElem?_set_self (by rw [going_len]; exact hc)]
  rfl
theorem waits_iff {ts : List Th} {o : List Nat} {i c : Nat} (h : o[i]? = some c) : waitsAt ts o i ↔ max ((going ts (o.take i)).2.1 + fr ts c + dr ts c) (going ts (o.take i)).2.2 = (going ts (o.take i)).2.1 + fr ts c + dr ts c := by
  unfold waitsAt
  rw [getD_of h]
  omega
/-! ### the bar out of it -/
theorem strict_of {ap : List Int} (h : ap.Pairwise (· ≤ ·)) (nd : ap.Nodup) : ap.Pairwise (· < ·) := List.Pairwise.imp₂ (fun a b h1 h2 => by omega) h nd
theorem mk_of {ap : List Int} {p : List Nat} (h : ap.Perm (asI p)) (c : Nat) : mkOf ap c = true ↔ c ∈ p := by
  unfold mkOf
  rw [decide_eq_true_iff, h.mem_iff]
  unfold asI
  refine ⟨fun q => ?_, fun q => List.mem_map.mpr ⟨c, q, rfl⟩⟩
  obtain ⟨d, hd, e⟩ := List.mem_map.mp q
  obtain rfl : d = c := asI_inj e
  exact hd
theorem part_bar {n : Nat} {o p : List Nat} (ho : Ord n o) (hs : p.Sublist o) {ap : List Int} (hp : ap.Perm (asI p)) (hr : ap.Pairwise (· ≤ ·)) : ap.Pairwise (· < ·) ∧ ∀ x ∈ ap, 0 ≤ x ∧ x < (n : Int) := by
  refine ⟨strict_of hr (hp.nodup_iff.mpr (asI_nd.mpr (ho.nd.sublist hs))), fun x hx => ?_⟩
  obtain ⟨c, hc, rfl⟩ := List.mem_map.mp (hp.mem_iff.mp hx)
  have := ho.lt (hs.subset hc)
  show 0 ≤ (c : Int) ∧ (c : Int) < (n : Int)
  omega
theorem find_first {ts : List Th} (hn : ∀ t ∈ ts, Nn t) {o : List Nat} (J : Jo ts o) {i c : Nat} (h : o[i]? = some c) (hW : W (path ts o) = A (path ts (o.take i)) + fr ts c + dr ts c + se ts c + B (path ts (o.drop (i + 1)))) (hc : fr ts c ≤ se ts c)
    {ap : List Int} (hp : ap.Perm (asI (o.take i))) (hr : ap.Pairwise (· ≤ ·)) : BarW ts 1 ap (fr ts c + dr ts c) ∧ lawW ts 1 ap (fr ts c + dr ts c) = W (path ts o) := by
  have e := split_at h
  have ho := J.ord
  have pw := J.pw
  rw [e] at ho pw
  obtain ⟨p1, p2, p3⟩ := List.pairwise_append.mp pw
  obtain ⟨p4, p5⟩ := List.pairwise_cons.mp p2
  obtain ⟨b1, b2⟩ := bar_first hn ho (mk := mkOf ap) (mk_of hp) (fun x hx => by
    have := p3 x hx c List.mem_cons_self
    show fr ts x ≤ se ts x
    unfold Rj at this
    omega) (fun y hy => by
    have := p4 y hy
    show se ts y ≤ fr ts y ∨ fr ts c + dr ts c ≤ fr ts y + dr ts y
    unfold Rj at this
    omega)
  obtain ⟨r1, r2⟩ := part_bar J.ord (List.take_sublist i o) hp hr
  have hB : BarW ts 1 ap (fr ts c + dr ts c) := ⟨.inl rfl, r1, r2, b1⟩
  exact ⟨hB, by rw [lawW_yes hB, hW]; exact b2⟩
theorem find_second {ts : List Th} (hn : ∀ t ∈ ts, Nn t) {o : List Nat} (J : Jo ts o) {i c : Nat} (h : o[i]? = some c) (hW : W (path ts o) = A (path ts (o.take i)) + fr ts c + dr ts c + se ts c + B (path ts (o.drop (i + 1)))) (hc : se ts c < fr ts c)
    {ap : List Int} (hp : ap.Perm (asI (o.drop (i + 1)))) (hr : ap.Pairwise (· ≤ ·)) : BarW ts 2 ap (dr ts c + se ts c) ∧ lawW ts 2 ap (dr ts c + se ts c) = W (path ts o) := by
  have e := split_at h
  have ho := J.ord
  have pw := J.pw
  rw [e] at ho pw
  obtain ⟨p1, p2, p3⟩ := List.pairwise_append.mp pw
  obtain ⟨p4, p5⟩ := List.pairwise_cons.mp p2
  obtain ⟨b1, b2⟩ := bar_second hn ho (mk := mkOf ap) (mk_of hp) (fun x hx => by
    have := p4 x hx
    show se ts x ≤ fr ts x
    unfold Rj at this
    omega) (fun y hy => by
    have := p3 y hy c List.mem_cons_self
    show fr ts y ≤ se ts y ∨ se ts c + dr ts c ≤ se ts y + dr ts y
    unfold Rj at this
    omega)
  obtain ⟨r1, r2⟩ := part_bar J.ord (List.drop_sublist (i + 1) o) hp hr
  have el : dr ts c + se ts c = se ts c + dr ts c := Int.add_comm _ _
  rw [el]
  have hB : BarW ts 2 ap (se ts c + dr ts c) := ⟨.inr rfl, r1, r2, b1⟩
  exact ⟨hB, by rw [lawW_yes hB, hW]; exact b2⟩
theorem bar_none {bench : Int} (hb : bench = 1 ∨ bench = 2) : BarW [] bench [] 0 ∧ lawW [] bench [] 0 = 0 := by
  have hB : BarW [] bench [] 0 := ⟨hb, List.Pairwise.nil, (fun _ h => nomatch h), ⟨Int.le_refl _, fun c t h => by simp at h, fun c t h => by simp at h, .inr rfl⟩⟩
  exact ⟨hB, by rw [lawW_yes hB]; rfl⟩
/-! ### none sooner -/
theorem lawW_le {ts : List Th} (hn : ∀ t ∈ ts, Nn t) {bench : Int} {ap : List Int} {L : Int} {o : List Nat} (ho : Ord ts.length o) : lawW ts bench ap L ≤ W (path ts o) := by
  by_cases h : BarW ts bench ap L
  · rw [lawW_yes h]
    exact weak hn h.ok ho
  · rw [lawW_no h]
    have := W_nonneg hn o
    omega
theorem best {ts : List Th} (hn : ∀ t ∈ ts, Nn t) {bench : Int} {ap : List Int} {L : Int} {o o2 : List Nat} (h : lawW ts bench ap L = W (path ts o)) (ho : Ord ts.length o2) : W (path ts o) ≤ W (path ts o2) := h ▸ lawW_le hn ho
theorem turned_nn {ts : List Th} (hn : ∀ t ∈ ts, Nn t) : ∀ t ∈ ts.map turn, Nn t := fun t ht => by
  obtain ⟨s, hs, rfl⟩ := List.mem_map.mp ht
  exact (hn s hs).turn
theorem turned_best {ts : List Th} (hn : ∀ t ∈ ts, Nn t) {b1 b2 : Int} {a1 a2 : List Int} {L1 L2 : Int} {o p : List Nat} (ho : Ord ts.length o) (hp : Ord ts.length p) (h1 : lawW ts b1 a1 L1 = W (path ts o)) (h2 : lawW (ts.map turn) b2 a2 L2 = W (path (ts.map turn) p)) :
    W (path (ts.map turn) p) = W (path ts o) := by
  have hl : (ts.map turn).length = ts.length := List.length_map _
  have g1 := best (turned_nn hn) h2 (o2 := o.reverse) (by rw [hl]; exact ho.rev)
  rw [W_turned hn ho] at g1
  have g2 := best hn h1 hp.rev
  have g3 := W_turned hn hp.rev
  rw [List.reverse_reverse] at g3
  omega
end Bp
namespace Bp
open PySem L2 Evl
/-! ### data in the heap -/
def iv (t : Th) : List V := [.int t.1, .int t.2.1, .int t.2.2]
def tv {α : Type} (zs : List (Addr × α)) : List V := zs.map fun z => V.ref z.1
def ths {α : Type} (zs : List (Addr × α)) : List α := zs.map fun z => z.2
def ov (o : List Nat) : List V := o.map fun (c : Nat) => V.int (c : Int)
structure Ths (K : PySem.W.Frag) (H : Hp) (l : Addr) (zs : List (Addr × Th)) : Prop where
  ls : SqL K H l (tv zs)
  it : ∀ z ∈ zs, SqT K H z.1 (iv z.2)
  nn : ∀ z ∈ zs, Nn z.2
  le : zs.length ≤ 1000
theorem Ths.mono {K : PySem.W.Frag} {H H' : Hp} {l : Addr} {zs : List (Addr × Th)} (e : Ex H H') (h : Ths K H l zs) : Ths K H' l zs :=
  ⟨ex_l e h.ls, fun z hz => ex_t e (h.it z hz), h.nn, h.le⟩
theorem tv_len {α : Type} (zs : List (Addr × α)) : (tv zs).length = zs.length := List.length_map _
theorem ths_len {α : Type} (zs : List (Addr × α)) : (ths zs).length = zs.length := List.length_map _
theorem ov_len (o : List Nat) : (ov o).length = o.length := List.length_map _
theorem tv_get {α : Type} {zs : List (Addr × α)} {i : Nat} {x : V} (h : (tv zs)[i]? = some x) : ∃ z, zs[i]? = some z ∧ x = .ref z.1 := by
  unfold tv at h
  rw [List.getElem?_map] at h
  cases e : zs[i]? with
  | none => rw [e] at h; cases h
  | some z => rw [e] at h; exact ⟨z, rfl, (Option.some.inj h).symm⟩
theorem ov_get {o : List Nat} {i : Nat} {x : V} (h : (ov o)[i]? = some x) : ∃ c, o[i]? = some c ∧ x = .int (c : Int) := by
  unfold ov at h
  rw [List.getElem?_map] at h
  cases e : o[i]? with
  | none => rw [e] at h; cases h
  | some z => rw [e] at h; exact ⟨z, rfl, (Option.some.inj h).symm⟩
theorem ths_nn {K : PySem.W.Frag} {H : Hp} {l : Addr} {zs : List (Addr × Th)} (h : Ths K H l zs) : ∀ t ∈ ths zs, Nn t := by
  intro t ht
  obtain ⟨z, hz, rfl⟩ := List.mem_map.mp ht
  exact h.nn z hz
/-! ### small readings -/
theorem rc_isi {K : PySem.W.Frag} {H : Hp} {x : V} {n c : String} {b : Bool} (ty : ∀ H1, Ex H H1 → TyX K H1 x (.type n)) (k : kitB n c = some b) : RC (rIsi K) [x, .ty c] H (.bl b) :=
  fun H1 e Q q => ⟨x, .ty c, .type n, .type c, b, rfl, .ty c, ty H1 e, kit_ty k, q H1 (Ex.refl H1)⟩
theorem ty_int {K : PySem.W.Frag} {H : Hp} {i : Int} : ∀ H1, Ex H H1 → TyX K H1 (.int i) (.type "int") := fun _ _ => .base (.int i)
theorem ty_lst {K : PySem.W.Frag} {H : Hp} {a : Addr} {xs : List V} (h : SqL K H a xs) : ∀ H1, Ex H H1 → TyX K H1 (.ref a) (.type "list") := fun H1 e => by
  rcases h with (h | ⟨o, h⟩) | h
  · exact .base (.lst (e _ _ h))
  · exact .base (.frz (e _ _ h))
  · obtain ⟨o, its, n, h1, h2, _⟩ := h
    exact .kList h1 h2
theorem ty_tup {K : PySem.W.Frag} {H : Hp} {a : Addr} {xs : List V} (h : SqT K H a xs) : ∀ H1, Ex H H1 → TyX K H1 (.ref a) (.type "tuple") := fun H1 e => by
  rcases h with (h | ⟨o, h⟩) | h
  · exact .base (.tup (e _ _ h))
  · exact .fTuple (e _ _ h)
  · obtain ⟨o, its, n, h1, h2, _⟩ := h
    exact .kTuple h1 h2
theorem rc_lenT {K : PySem.W.Frag} {H : Hp} {a : Addr} {xs : List V} (h : SqT K H a xs) : RC (rLenS K) [.ref a] H (.int (xs.length : Int)) :=
  fun H1 e Q q => ⟨a, xs, rfl, .inr (ex_t e h), q H1 (Ex.refl H1)⟩
theorem rc_lenL {K : PySem.W.Frag} {H : Hp} {a : Addr} {xs : List V} (h : SqL K H a xs) : RC (rLenS K) [.ref a] H (.int (xs.length : Int)) :=
  fun H1 e Q q => ⟨a, xs, rfl, .inl (ex_l e h), q H1 (Ex.refl H1)⟩
theorem rc_all {K : PySem.W.Frag} {H : Hp} {a : Addr} {bs : List Bool} (h : SqL K H a (bs.map V.bl)) : RC (rAll K) [.ref a] H (.bl (bs.all id)) :=
  fun H1 e Q q => ⟨a, bs, rfl, ex_l e h, q H1 (Ex.refl H1)⟩
/-- a built-in of one new list -/
theorem ev_cbL {σ : L2.St} {H : Hp} {te : TE} {xs : List V} {z : V} {r : List V → Hp → VK → Prop} (h : EvL te σ H xs) (hr : ∀ p H1, Ex H H1 → H1 p = some (.lst xs) → RC r [.ref p] H1 z) : Ev (tCB r (tCons te tNil)) σ H z :=
  fun H1 e Q q => h H1 e _ fun p H2 _ e2 h2 => hr p H2 (e.trans e2) h2 H2 (Ex.refl H2) Q fun H3 e3 => q H3 (e2.trans e3)
theorem et_yes {σ : L2.St} {H : Hp} : EvT tYes σ H true := fun H1 _ _ q => q H1 (Ex.refl H1)
theorem el_lcT {K : PySem.W.Frag} {σ : L2.St} {H : Hp} {a : Addr} {xs : List V} {tl te : TE} {t : TT} {j : Nat} {vs : List Nat} (f : Nat → Bool) (v : Nat → V) (h : Ev tl σ H (.ref a)) (hx : SqT K H a xs) (hz : xs.length ≤ 40000) (hw : ∀ x, wipe ((wipe σ vs).set j (some x)) vs = wipe σ vs)
    (ht : ∀ (i : Nat) (x : V) H1, Ex H H1 → xs[i]? = some x → EvT t ((wipe σ vs).set j (some x)) H1 (f i)) (he : ∀ (i : Nat) (x : V) H1, Ex H H1 → xs[i]? = some x → f i = true → Ev te ((wipe σ vs).set j (some x)) H1 (v i)) :
    EvL (tLc (iTup K tl) (gName j) t te vs) σ H (given xs.length f v) := fun H0 e Q q => h H0 e _ fun H1 e1 => ⟨a, rfl, ⟨xs, ex_t (e.trans e1) hx⟩, fun Dl hD =>
  lc_tup (xs := xs) (Cw H1 f v Dl) ⟨hD, Ex.new hD, upd_same⟩ (fun i H' _ p => ex_t ((e.trans e1).trans p.2.1) hx) (fun i x H' hi p => ⟨hw x, cw_turn p (by have := (List.getElem?_eq_some_iff.mp hi).1; omega) (ht i x H1 (e.trans e1) hi) (fun hf => he i x H1 (e.trans e1) hi hf)⟩)
    (fun H' p => q Dl H' (fresh_back e1 p.1) (e1.trans p.2.1) p.2.2)⟩
theorem ev_chain {σ : L2.St} {H : Hp} {ta tb tc : TE} {r r' : R2} {x y z : V} {k1 k2 : Bool} (ha : Ev ta σ H x) (hb : Ev tb σ H y) (h1 : RV r x y H (.bl k1)) (hc : Ev tc σ H z) (h2 : RV r' y z H (.bl k2)) : Ev (tChain r r' ta tb tc) σ H (.bl (k1 && k2)) := fun H1 e Q q =>
  ha H1 e _ fun H2 e2 => hb H2 (e.trans e2) _ fun H3 e3 => h1 H3 ((e.trans e2).trans e3) _ fun H4 e4 => ⟨k1, rfl, by
    cases k1 with
    | true => exact iteT (hc H4 (((e.trans e2).trans e3).trans e4) _ fun H5 e5 => h2 H5 ((((e.trans e2).trans e3).trans e4).trans e5) Q fun H6 e6 => q H6 ((((e2.trans e3).trans e4).trans e5).trans e6))
    | false => exact iteF (q H4 ((e2.trans e3).trans e4))⟩
theorem flat1 {α : Type} (n : Nat) (x : α) : (List.replicate n [x]).flatten = List.replicate n x := by
  induction n with
  | zero => rfl
  | succ n ih => rw [List.replicate_succ, List.flatten_cons, ih]; rfl
theorem el_rep {σ : L2.St} {H : Hp} {tl tn : TE} {x : V} {n : Nat} (h : EvL tl σ H [x]) (hn : ∀ H1, Ex H H1 → Ev tn σ H1 (.int (n : Int))) (hz : n ≤ 1000) : EvL (tOp rRep tl tn) σ H (List.replicate n x) := fun H1 e Q q =>
  h H1 e _ fun p H2 hp e2 h2 => hn H2 (e.trans e2) H2 (Ex.refl H2) _ fun H3 e3 => ⟨p, (n : Int), [x], rfl, rfl, e3 p _ h2, by omega, by omega, by
    show 1 * ((n : Int)).toNat ≤ sizeLine
    rw [Int.toNat_natCast, Nat.one_mul]
    exact sz_of (by omega), fun r hr => q r _ (fresh_back (e2.trans e3) hr) ((e2.trans e3).trans (Ex.new hr)) (by rw [upd_same, Int.toNat_natCast, flat1])⟩
/-- for i, x in enumerate(xs) -/
theorem s_forE {K : PySem.W.Frag} {σ : L2.St} {H : Hp} {D : Ends} {tu : TS} {g : TG} {ta : TA} {a : Addr} {xs : List V} (h : EvA ta σ H [.ref a]) (hx : SqL K H a xs) (Pv : Nat → L2.St → Hp → Prop) (h0 : ∀ H1, Ex H H1 → Pv 0 σ H1) (hl : ∀ i σ' H', i ≤ xs.length → Pv i σ' H' → SqL K H' a xs)
    (hs : ∀ (i : Nat) x T σ' H', xs[i]? = some x → Pv i σ' H' → H' T = none → g (.ref T) σ' (upd H' T (.tup [.int (i : Int), x])) fun σ2 H2 => tu { D with nx := Pv (i + 1), ct := Pv (i + 1), bk := D.nx } σ2 H2) (hd : ∀ σ' H', Pv xs.length σ' H' → D.nx σ' H') : tFor (iEnum K ta) g tu D σ H :=
  h H (Ex.refl H) _ fun H1 e => ⟨a, xs, rfl, ex_l e hx, for_it walk_enum Pv (h0 H1 e) hl (fun i x σ' H' H2 hi p y => by
    obtain ⟨T, x1, x2, rfl, nT, rfl, e1, e2⟩ := y
    have e3 : x1 = .int (i : Int) := (Option.some.inj e1).symm
    subst e3
    exact hs i x2 T σ' H' e2 p nT) hd⟩
theorem for_it_seqE {K : PySem.W.Frag} {σ : L2.St} {H : Hp} {D : Ends} {tu tz : TS} {g : TG} {ta : TA} {a : Addr} {xs : List V} (h : EvA ta σ H [.ref a]) (hx : SqL K H a xs) (Pv : Nat → L2.St → Hp → Prop) (h0 : ∀ H1, Ex H H1 → Pv 0 σ H1) (hl : ∀ i σ' H', i ≤ xs.length → Pv i σ' H' → SqL K H' a xs)
    (hs : ∀ (i : Nat) x T σ' H', xs[i]? = some x → Pv i σ' H' → H' T = none → g (.ref T) σ' (upd H' T (.tup [.int (i : Int), x])) fun σ2 H2 => tu { D with nx := Pv (i + 1), ct := Pv (i + 1), bk := tz D } σ2 H2) (hd : ∀ σ' H', Pv xs.length σ' H' → tz D σ' H') : tSeq (tFor (iEnum K ta) g tu) tz D σ H :=
  s_forE (D := { D with nx := tz D }) h hx Pv h0 hl hs hd
/-- the list at q is of tuples, one a pair of ps -/
def Prs (H : Hp) (q : Addr) (bs : List (Addr × (Int × Int))) : Prop := H q = some (.lst (tv bs)) ∧ ∀ z ∈ bs, H z.1 = some (.tup [.int z.2.1, .int z.2.2])
/-! ### more readings -/
section
variable {K : PySem.W.Frag} {σ : L2.St} {H : Hp} {ta : TA} {tz : TS} {D : Ends}
theorem q_par {i j : Nat} {u v : V} (h : EvA ta σ H [u, v]) (k : ∀ H1, Ex H H1 → tz D ((σ.set i (some u)).set j (some v)) H1) : tSeq (tPar i j ta) tz D σ H :=
  h H (Ex.refl H) _ fun H1 e => ⟨u, v, rfl, k H1 e⟩
theorem s_par {i j : Nat} {u v : V} (h : EvA ta σ H [u, v]) (k : ∀ H1, Ex H H1 → D.nx ((σ.set i (some u)).set j (some v)) H1) : tPar i j ta D σ H :=
  h H (Ex.refl H) _ fun H1 e => ⟨u, v, rfl, k H1 e⟩
theorem q_par3 {i j l : Nat} {u v w : V} (h : EvA ta σ H [u, v, w]) (k : ∀ H1, Ex H H1 → tz D (((σ.set i (some u)).set j (some v)).set l (some w)) H1) : tSeq (tPar3 i j l ta) tz D σ H :=
  h H (Ex.refl H) _ fun H1 e => ⟨u, v, w, rfl, k H1 e⟩
theorem given_all (n : Nat) (v : Nat → V) : given n (fun _ => true) v = (List.range n).map v := by
  unfold given
  rw [List.filter_eq_self.mpr fun _ _ => rfl]
theorem range_map {α β : Type} (l : List α) (d : α) (f : α → β) : (List.range l.length).map (fun i => f (l.getD i d)) = l.map f := by
  refine List.ext_getElem (by simp) fun i h1 h2 => ?_
  have h3 : i < l.length := by simpa using h1
  simp [List.getD_eq_getElem?_getD, List.getElem?_eq_getElem h3]
theorem rc_sum {a : Addr} {ns : List Int} (h : SqL K H a (ns.map V.int)) : RC (rSum K) [.ref a] H (.int ns.sum) := fun H1 e Q q => ⟨a, ns, rfl, ex_l e h, q H1 (Ex.refl H1)⟩
end
def Bd (t : Th) : Prop := (0 ≤ t.1 ∧ t.1 < 10 ^ 59) ∧ (0 ≤ t.2.1 ∧ t.2.1 < 10 ^ 59) ∧ (0 ≤ t.2.2 ∧ t.2.2 < 10 ^ 59)
theorem Bd.nn {t : Th} (h : Bd t) : Nn t := ⟨h.1.1, h.2.1.1, h.2.2.1⟩
theorem things_at {H : Hp} {l : Addr} {zs : List (Addr × Th)} {c : Nat} (h : Ths K H l zs) (hc : c < zs.length) : ∃ z, zs[c]? = some z ∧ (ths zs).getD c th0 = z.2 ∧ (tv zs)[c]? = some (.ref z.1) := by
  refine ⟨zs[c], List.getElem?_eq_getElem hc, ?_, ?_⟩
  · unfold ths
    rw [List.getD_eq_getElem?_getD, List.getElem?_map, List.getElem?_eq_getElem hc]
    rfl
  · unfold tv
    rw [List.getElem?_map, List.getElem?_eq_getElem hc]
    rfl
/-- things[c][j] -/
theorem ev_part {σ : L2.St} {H : Hp} {l : Addr} {zs : List (Addr × Th)} {c j : Nat} {v : V} {tl tc tj : TE} (h : Ths K H l zs) (hc : c < zs.length) (hv : (iv ((ths zs).getD c th0))[j]? = some v) (h1 : Ev tl σ H (.ref l)) (h2 : Ev tc σ H (.int (c : Int))) (h3 : Ev tj σ H (.int (j : Int))) :
    Ev (tOp (rIxT K) (tOp (rIxL K) tl tc) tj) σ H v := by
  obtain ⟨z, e1, e2, e3⟩ := things_at h hc
  rw [e2] at hv
  exact ev_op (ev_op h1 h2 (rv_ixL h.ls (atI_nat e3))) h3 (rv_ixT (h.it z (List.mem_of_getElem? e1)) (atI_nat hv))
theorem set_tv {α : Type} (bs : List (Addr × α)) (c : Nat) (p : Addr) (x : α) : tv (bs.set c (p, x)) = (tv bs).set c (.ref p) := by
  unfold tv
  rw [List.map_set]
theorem set_ths {α : Type} (bs : List (Addr × α)) (c : Nat) (p : Addr) (x : α) : ths (bs.set c (p, x)) = (ths bs).set c x := by
  unfold ths
  rw [List.map_set]
theorem max_py (i j : Int) : (if j > i then j else i) = max i j := by
  rw [Int.max_def]
  by_cases h : j > i
  · rw [if_pos h, if_pos (by omega)]
  · rw [if_neg h]
    by_cases h2 : i ≤ j
    · rw [if_pos h2]; omega
    · rw [if_neg h2]
theorem stp_py {ts : List Th} {s : Sg} {c : Nat} {t : Th} (h : ts.getD c th0 = t) : stp ts s c = (s.1.set c (s.2.1, if s.2.2 > s.2.1 + t.1 + t.2.1 then s.2.2 else s.2.1 + t.1 + t.2.1), s.2.1 + t.1, (if s.2.2 > s.2.1 + t.1 + t.2.1 then s.2.2 else s.2.1 + t.1 + t.2.1) + t.2.2) := by
  subst h
  simp only [stp, max_py]
theorem path_at (ts : List Th) {o : List Nat} {i c : Nat} (h : o[i]? = some c) : (path ts o)[i]? = some (ts.getD c th0) := by
  unfold path
  rw [List.getElem?_map, h]
  rfl
theorem path_len (ts : List Th) (o : List Nat) : (path ts o).length = o.length := List.length_map _
theorem ldS_py (s : Int × Int × Int) (t : Th) : ldS s t = (s.1 + t.1, s.2.1 - t.2.2, if s.1 + t.1 + t.2.1 + s.2.1 > s.2.2 then s.1 + t.1 + t.2.1 + s.2.1 else s.2.2) := by simp only [ldS, max_py]
theorem rgc3 : ∀ n : Nat, n < 64 → n % 3 = 0 → Builtin.Range.small 0 (n : Int) 3 = true ∧ Builtin.Range.rangeSize 0 (n : Int) 3 = n / 3 := by decide +kernel
theorem cut63 {xs : List V} (h : xs.length ≤ 63) : cutV xs none (some 63) = xs := by
  unfold cutV
  rw [HT.sIx_none, show HT.sIx xs.length xs.length (some 63) = min 63 xs.length from HT.sIx_nat _ _ 63, List.drop_zero, Nat.min_eq_right h, Nat.sub_zero, List.take_length]
theorem cut3 {xs : List V} {k : Nat} (h : k + 3 ≤ xs.length) : cutV xs (some (k : Int)) (some ((k : Int) + 3)) = (xs.drop k).take 3 := by
  unfold cutV
  rw [HT.sIx_nat, show HT.sIx xs.length xs.length (some ((k : Int) + 3)) = min (k + 3) xs.length from HT.sIx_nat _ _ (k + 3), Nat.min_eq_left h, Nat.min_eq_left (show k ≤ xs.length by omega), Nat.add_sub_cancel_left]
theorem q_forR3 {σ : L2.St} {H : Hp} {ta : TA} {tz tu : TS} {D : Ends} {j : Nat} {lo hi c : Int} {n : Nat} (h : EvA ta σ H [.int lo, .int hi, .int c]) (hn : RgC lo hi c n) (Pv : Nat → L2.St → Hp → Prop) (h0 : ∀ H1, Ex H H1 → Pv 0 σ H1)
    (hs : ∀ (i : Nat) σ' H', i < n → Pv i σ' H' → tu { D with nx := Pv (i + 1), ct := Pv (i + 1), bk := tz D } (σ'.set j (some (.int (lo + (i : Int) * c)))) H') (hd : ∀ σ' H', Pv n σ' H' → tz D σ' H') : tSeq (tFor (iRng3 ta) (gName j) tu) tz D σ H :=
  h H (Ex.refl H) _ fun H1 e => ⟨lo, hi, c, n, rfl, hn, for_rangeC Pv (h0 H1 e) hs hd⟩
theorem part_ok {d m : Int} (h0 : 0 ≤ d) (h1 : d < 200) (h2 : 0 < m) (h3 : m ≤ 10 ^ 20) : 0 ≤ d * m / 9 ∧ d * m / 9 < 10 ^ 59 := by
  have a : 0 ≤ d * m := Int.mul_nonneg h0 (by omega)
  have b : d * m ≤ 200 * 10 ^ 20 := Int.le_trans (Int.mul_le_mul_of_nonneg_right (show d ≤ 200 by omega) (by omega)) (Int.mul_le_mul_of_nonneg_left h3 (by decide))
  omega
/-- the first operand a new tuple -/
theorem ev_opU1 {σ : L2.St} {H : Hp} {ta tb : TE} {r : R2} {y z : V} {xs : List V} (ha : EvU ta σ H xs) (hb : ∀ H1, Ex H H1 → Ev tb σ H1 y) (hr : ∀ p H1, H1 p = some (.tup xs) → Ex H H1 → RV r (.ref p) y H1 z) : Ev (tOp r ta tb) σ H z := fun H1 e Q q =>
  ha H1 e _ fun p H2 _ e2 hp => hb H2 (e.trans e2) H2 (Ex.refl H2) _ fun H3 e3 => hr p H3 (e3 p _ hp) ((e.trans e2).trans e3) H3 (Ex.refl H3) Q fun H4 e4 => q H4 ((e2.trans e3).trans e4)
theorem pick3 {a b c d : Int} (h0 : 0 ≤ d) (h1 : d < 3) (M : Int) (ha : 0 < a ∧ a ≤ M) (hb : 0 < b ∧ b ≤ M) (hc : 0 < c ∧ c ≤ M) : ∃ m : Int, atI [V.int a, V.int b, V.int c] d = some (V.int m) ∧ 0 < m ∧ m ≤ M := by
  obtain h | h | h : d = 0 ∨ d = 1 ∨ d = 2 := by omega
  · exact ⟨a, by rw [h]; exact atI_nat (j := 0) rfl, ha⟩
  · exact ⟨b, by rw [h]; exact atI_nat (j := 1) rfl, hb⟩
  · exact ⟨c, by rw [h]; exact atI_nat (j := 2) rfl, hc⟩
section
variable {P : Program} {w : World} {K : PySem.W.Frag} {mg : Str → Option Value} {base : Heap}
/-- the list of things made so far -/
structure Made (H0 H : Hp) (l : Addr) (zs : List (Addr × Th)) : Prop where
  ex : Ex H0 H
  ls : H l = some (.lst (tv zs))
  it : ∀ z ∈ zs, H z.1 = some (.tup (iv z.2)) ∧ Bd z.2
theorem Made.more {H0 H H1 : Hp} {l : Addr} {zs : List (Addr × Th)} (m : Made H0 H l zs) (e : Ex H H1) : Made H0 H1 l zs := ⟨m.ex.trans e, e _ _ m.ls, fun z hz => ⟨e _ _ (m.it z hz).1, (m.it z hz).2⟩⟩
/-- found.append((x, y, z)) -/
theorem s_made {σ : L2.St} {H0 H : Hp} {D : Ends} {l : Addr} {zs : List (Addr × Th)} {tl : TE} {ta : TA} {t : Th} (m : Made H0 H l zs) (nl : H0 l = none) (hz : zs.length < 1000) (h1 : Ev tl σ H (.ref l)) (h2 : EvA ta σ H (iv t)) (hb : Bd t) (k : ∀ p H1, Made H0 H1 l (zs ++ [(p, t)]) → D.nx σ H1) :
    tDrop (tBM K "list" rAppend tl (tCons (tTup ta) tNil)) D σ H := by
  refine s_appU m.ls h1 (eu_tup h2 (by show 3 ≤ 100000; decide)) (by rw [tv_len]; omega) fun p H1 np e hp => k p _ ⟨Ex.mut (m.ex.trans e) nl, ?_, fun z hz => ?_⟩
  · rw [upd_same]
    unfold tv
    rw [List.map_append]
    rfl
  · rcases List.mem_append.mp hz with hz | hz
    · obtain ⟨a, b⟩ := m.it z hz
      refine ⟨?_, b⟩
      rw [upd_ne (ne_of (e _ _ a) (e _ _ m.ls) (by intro z; cases z))]
      exact e _ _ a
    · obtain rfl := List.mem_singleton.mp hz
      refine ⟨?_, hb⟩
      rw [upd_ne (ne_of hp (e _ _ m.ls) (by intro z; cases z))]
      exact hp
end
/-! ### data for == -/
def dT (t : Th) : PyData := .tuple [.int t.1, .int t.2.1, .int t.2.2]
def dP (t : Int × Int) : PyData := .tuple [.int t.1, .int t.2]
def dI (c : Nat) : PyData := .int (c : Int)
theorem dpAll_tv {α : Type} {K : PySem.W.Frag} {H : Hp} {f : α → PyData} : ∀ {zs : List (Addr × α)}, (∀ z ∈ zs, Dp K H (.ref z.1) (f z.2)) → DpAll K H (tv zs) ((ths zs).map f)
  | [], _ => .nil
  | z :: r, h => .cons (h z List.mem_cons_self) (dpAll_tv fun y hy => h y (List.mem_cons_of_mem _ hy))
theorem dpAll_ov {K : PySem.W.Frag} {H : Hp} : ∀ o : List Nat, DpAll K H (ov o) (o.map dI)
  | [] => .nil
  | c :: r => .cons (.int _) (dpAll_ov r)
def DpX (K : PySem.W.Frag) (H : Hp) (v : V) (d : PyData) : Prop := ∀ H1, Ex H H1 → Dp K H1 v d
theorem DpX.mono {K : PySem.W.Frag} {H H' : Hp} {v : V} {d : PyData} (h : DpX K H v d) (e : Ex H H') : DpX K H' v d := fun H1 e1 => h H1 (e.trans e1)
theorem dpx_ths {K : PySem.W.Frag} {H : Hp} {l : Addr} {zs : List (Addr × Th)} (h : Ths K H l zs) : DpX K H (.ref l) (.list ((ths zs).map dT)) := fun H1 e =>
  .lst (ex_l e h.ls) (dpAll_tv fun z hz => .tup (ex_t e (h.it z hz)) (.cons (.int _) (.cons (.int _) (.cons (.int _) .nil))))
theorem dpx_prs {K : PySem.W.Frag} {H : Hp} {l : Addr} {bs : List (Addr × (Int × Int))} (h : Prs H l bs) : DpX K H (.ref l) (.list ((ths bs).map dP)) := fun H1 e =>
  .lst (sq_of (e _ _ h.1)) (dpAll_tv fun z hz => .tup (st_of (e _ _ (h.2 z hz))) (.cons (.int _) (.cons (.int _) .nil)))
theorem dpx_ov {K : PySem.W.Frag} {H : Hp} {b : Addr} {o : List Nat} (h : SqL K H b (ov o)) : DpX K H (.ref b) (.list (o.map dI)) := fun H1 e => .lst (ex_l e h) (dpAll_ov o)
theorem dpx_two {K : PySem.W.Frag} {H : Hp} {b : Addr} {x y : V} {d e : PyData} (h : H b = some (.lst [x, y])) (hx : DpX K H x d) (hy : DpX K H y e) : DpX K H (.ref b) (.list [d, e]) := fun H1 e1 =>
  .lst (sq_of (e1 _ _ h)) (.cons (hx H1 e1) (.cons (hy H1 e1) .nil))
theorem can_all {α : Type} {f : α → PyData} (hf : ∀ x, (f x).canLay0 = true) : ∀ l : List α, PyData.canLayAll0 (l.map f) = true
  | [] => rfl
  | x :: r => by
    rw [List.map_cons]
    unfold PyData.canLayAll0
    rw [hf x, can_all hf r]
    rfl
theorem dep_all {α : Type} {f : α → PyData} (hf : ∀ x, (f x).depth ≤ 1) : ∀ l : List α, PyData.depthAll (l.map f) ≤ 1
  | [] => by show 0 ≤ 1; decide
  | x :: r => by
    rw [List.map_cons]
    unfold PyData.depthAll
    have := dep_all hf r
    have := hf x
    omega
theorem canT (t : Th) : (dT t).canLay0 = true := rfl
theorem canP (t : Int × Int) : (dP t).canLay0 = true := rfl
theorem canI (c : Nat) : (dI c).canLay0 = true := rfl
theorem depT (t : Th) : (dT t).depth ≤ 1 := by show 0 + 1 ≤ 1; decide
theorem depP (t : Int × Int) : (dP t).depth ≤ 1 := by show 0 + 1 ≤ 1; decide
theorem depI (c : Nat) : (dI c).depth ≤ 1 := by show 0 ≤ 1; decide
theorem sh_map {α : Type} {f : α → PyData} (h1 : ∀ x, (f x).canLay0 = true) (h2 : ∀ x, (f x).depth ≤ 1) (l : List α) : SeqAt.shaped (.list (l.map f)) = true := by
  have a := can_all h1 l
  have b := dep_all h2 l
  show ((PyData.canLayAll0 (l.map f)) && decide (PyData.depthAll (l.map f) + 1 ≤ 64)) = true
  rw [a, decide_eq_true (by omega)]
  rfl
theorem sh_two (ts : List Th) (o : List Nat) : SeqAt.shaped (.list [.list (ts.map dT), .list (o.map dI)]) = true := by
  have a := can_all canT ts
  have b := dep_all depT ts
  have a2 := can_all canI o
  have b2 := dep_all depI o
  show ((PyData.canLayAll0 (ts.map dT) && (PyData.canLayAll0 (o.map dI) && true)) && decide (max (PyData.depthAll (ts.map dT) + 1) (max (PyData.depthAll (o.map dI) + 1) 0) + 1 ≤ 64)) = true
  rw [a, a2, decide_eq_true (by omega)]
  rfl
theorem eqv_self {d : PyData} (h : SeqAt.shaped d = true) : PyData.eqv d d = true := SeqAt.eqv_refl d (SeqAt.canLay_of_shaped h)
theorem rv_neD {K : PySem.W.Frag} {H : Hp} {x y : V} {d : PyData} (hx : DpX K H x d) (hy : DpX K H y d) (hs : SeqAt.shaped d = true) : RV (rNeD K) x y H (.bl false) := fun H1 e Q q =>
  ⟨d, d, hx H1 e, hy H1 e, hs, hs, by rw [eqv_self hs]; exact q H1 (Ex.refl H1)⟩
theorem rv_eqD {K : PySem.W.Frag} {H : Hp} {x y : V} {d : PyData} (hx : DpX K H x d) (hy : DpX K H y d) (hs : SeqAt.shaped d = true) : RV (rEqD K) x y H (.bl true) := fun H1 e Q q =>
  ⟨d, d, hx H1 e, hy H1 e, hs, hs, by rw [eqv_self hs]; exact q H1 (Ex.refl H1)⟩
/-! ### lists -/
theorem rg_ov (n : Nat) : rgV 0 (n : Int) = ov (List.range n) := by
  unfold rgV ov
  rw [show ((n : Int) - 0).toNat = n by omega]
  refine List.map_congr_left fun i _ => ?_
  rw [Int.zero_add]
theorem ov_rev (o : List Nat) : (ov o).reverse = ov o.reverse := by unfold ov; rw [List.map_reverse]
theorem cut_to {α : Type} (zs : List (Addr × α)) (k : Nat) (h : k ≤ zs.length) : cutV (tv zs) none (some (k : Int)) = tv (zs.take k) := by
  unfold cutV
  rw [HT.sIx_none, HT.sIx_nat, tv_len, Nat.min_eq_left h, List.drop_zero, Nat.sub_zero]
  unfold tv
  rw [List.map_take]
theorem cut_from {α : Type} (zs : List (Addr × α)) (k : Nat) (h : k + 1 ≤ zs.length) : cutV (tv zs) (some ((k : Int) + 1)) none = tv (zs.drop (k + 1)) := by
  unfold cutV
  rw [HT.sIx_none, show HT.sIx (tv zs).length 0 (some ((k : Int) + 1)) = min (k + 1) (tv zs).length from HT.sIx_nat _ _ (k + 1), tv_len, Nat.min_eq_left h]
  unfold tv
  rw [← List.map_drop]
  refine List.take_of_length_le ?_
  rw [List.length_map, List.length_drop]
  exact Nat.le_refl _
theorem tv_app {α : Type} (xs ys : List (Addr × α)) : tv xs ++ tv ys = tv (xs ++ ys) := by unfold tv; rw [List.map_append]
theorem Ths.less {K : PySem.W.Frag} {H : Hp} {l p : Addr} {zs : List (Addr × Th)} (h : Ths K H l zs) (k : Nat) (hk : k < zs.length) (hp : H p = some (.lst (tv (zs.take k ++ zs.drop (k + 1))))) : Ths K H p (zs.take k ++ zs.drop (k + 1)) := by
  have m : ∀ z ∈ zs.take k ++ zs.drop (k + 1), z ∈ zs := fun z hz => by
    rcases List.mem_append.mp hz with hz | hz
    · exact List.mem_of_mem_take hz
    · exact List.mem_of_mem_drop hz
  refine ⟨sq_of hp, fun z hz => h.it z (m z hz), fun z hz => h.nn z (m z hz), ?_⟩
  have := h.le
  rw [List.length_append, List.length_take, List.length_drop]
  omega
theorem given_less (o : List Nat) (k : Nat) : given o.length (fun i => !decide (V.int (o.getD i 0 : Int) = V.int (k : Int))) (fun i => .int (shift k (o.getD i 0) : Int)) = ov (less k o) := by
  unfold given ov less
  have h : o = (List.range o.length).map (fun i => o.getD i 0) := by
    have := range_map o 0 (fun c => c)
    rw [this]
    exact (List.map_id o).symm
  have h2 : (o.filter fun c => c != k) = ((List.range o.length).filter fun i => !decide (V.int (o.getD i 0 : Int) = V.int (k : Int))).map fun i => o.getD i 0 := by
    conv => lhs; rw [h]
    rw [List.filter_map]
    congr 1
    refine List.filter_congr fun i _ => ?_
    show (o.getD i 0 != k) = !decide (V.int (o.getD i 0 : Int) = V.int (k : Int))
    by_cases e : o.getD i 0 = k
    · rw [e]
      simp
    · have : ¬ V.int (o.getD i 0 : Int) = V.int (k : Int) := fun z => e (by have := V.int.inj z; omega)
      rw [decide_eq_false this]
      simpa using e
  rw [h2, List.map_map, List.map_map]
  rfl
theorem stp_law {ts : List Th} {s : Sg} {c : Nat} {t : Th} (h : ts.getD c th0 = t) : stp ts s c = (s.1.set c (s.2.1, if s.2.1 + t.1 + t.2.1 > s.2.2 then s.2.1 + t.1 + t.2.1 else s.2.2), s.2.1 + t.1, (if s.2.1 + t.1 + t.2.1 > s.2.2 then s.2.1 + t.1 + t.2.1 else s.2.2) + t.2.2) := by
  subst h
  simp only [stp, max_py, Int.max_comm]
theorem given_true (n : Nat) : given n (fun _ => true) (fun _ => V.bl true) = (List.replicate n true).map V.bl := by
  rw [given_all, List.map_replicate]
  refine List.ext_getElem (by simp) fun i h1 h2 => by simp
theorem all_true (n : Nat) : (List.replicate n true).all id = true := by
  induction n with
  | zero => rfl
  | succ n ih => rw [List.replicate_succ, List.all_cons, ih]; rfl
section
variable {K : PySem.W.Frag} {σ : L2.St} {H : Hp} {D : Ends} {tz : TS} {dvs : List V} {E : XK} {sp : Sp}
theorem Made.add {H0 H : Hp} {l p : Addr} {zs : List (Addr × Th)} {t : Th} (m : Made H0 H l zs) (nl : H0 l = none) (np : H p = none) (hb : Bd t) : Made H0 (upd (upd H p (.tup (iv t))) l (.lst (tv zs ++ [.ref p]))) l (zs ++ [(p, t)]) := by
  have hl : (upd H p (.tup (iv t))) l = some (.lst (tv zs)) := Ex.new np _ _ m.ls
  refine ⟨Ex.mut (m.ex.trans (Ex.new np)) nl, ?_, fun z hz => ?_⟩
  · rw [upd_same, show [V.ref p] = tv [(p, t)] from rfl, tv_app]
  · rcases List.mem_append.mp hz with hz | hz
    · obtain ⟨a, b⟩ := m.it z hz
      refine ⟨?_, b⟩
      rw [upd_ne (ne_of a m.ls (by intro z; cases z)), upd_ne (ne_of_none a np)]
      exact a
    · obtain rfl := List.mem_singleton.mp hz
      refine ⟨?_, hb⟩
      have h2 : (upd H p (.tup (iv t))) p = some (.tup (iv t)) := upd_same
      rw [upd_ne (ne_of h2 hl (by intro z; cases z)), upd_same]
/-- [(0, 0)] * n -/
theorem ev_zero {tn : TE} {n : Nat} {Q : VK} (hn : ∀ H1, Ex H H1 → Ev tn σ H1 (.int (n : Int))) (hz : n ≤ 1000) (k : ∀ (q : Addr) (bs : List (Addr × (Int × Int))) (H1 : Hp), Ex H H1 → H q = none → Prs H1 q bs → ths bs = List.replicate n (0, 0) → Q (.ref q) H1) :
    tOp rRep (tLst (tCons (tTup (tCons (tC (.int 0)) (tCons (tC (.int 0)) tNil))) tNil)) tn σ H Q := by
  refine ⟨(by show 2 ≤ sizeLine; decide), fun t nt => ⟨(by show 1 ≤ sizeLine; decide), fun p0 np0 => ?_⟩⟩
  have e1 : Ex H (upd (upd H t (.tup [.int 0, .int 0])) p0 (.lst [.ref t])) := (Ex.new nt).trans (Ex.new np0)
  refine hn _ e1 _ (Ex.refl _) _ fun H2 e2 => ?_
  have ht : (upd (upd H t (.tup [.int 0, .int 0])) p0 (.lst [.ref t])) t = some (.tup [.int 0, .int 0]) := by
    rw [upd_ne (fun z => by rw [z, upd_same] at np0; cases np0), upd_same]
  refine ⟨p0, (n : Int), [.ref t], rfl, rfl, e2 _ _ upd_same, by omega, by omega, ?_, fun q nq => ?_⟩
  · show 1 * (n : Int).toNat ≤ sizeLine
    rw [Int.toNat_natCast, Nat.one_mul]
    exact sz_of (by omega)
  refine k q (List.replicate n (t, (0, 0))) _ ((e1.trans e2).trans (Ex.new nq)) (fresh_back (e1.trans e2) nq) ⟨?_, fun z hz => ?_⟩ ?_
  · rw [upd_same, Int.toNat_natCast, flat1]
    unfold tv
    rw [List.map_replicate]
  · obtain rfl := List.eq_of_mem_replicate hz
    exact Ex.new nq _ _ (e2 _ _ ht)
  · unfold ths
    rw [List.map_replicate]
/-- xs[c] = (x, y) -/
theorem s_prs {H0 : Hp} {d : Addr} {bs : List (Addr × (Int × Int))} {c : Nat} {x y : Int} {ta : TA} {to ti : TE} (hP : Prs H d bs) (hc : c < bs.length) (e0 : Ex H0 H) (nd : H0 d = none) (h1 : EvA ta σ H [.int x, .int y]) (h2 : Ev to σ H (.ref d)) (h3 : Ev ti σ H (.int (c : Int)))
    (k : ∀ r H1, Ex H0 H1 → Prs H1 d (bs.set c (r, (x, y))) → D.nx σ H1) : tAsg (tTup ta) (gSub to ti rSetL) D σ H := by
  refine h1 H (Ex.refl H) _ fun H1 e1 => ⟨(by show 2 ≤ sizeLine; decide), fun r nr => ?_⟩
  refine h2 _ (e1.trans (Ex.new nr)) _ fun H2 e2 => h3 H2 ((e1.trans (Ex.new nr)).trans e2) _ fun H3 e3 => ?_
  have e13 := ((e1.trans (Ex.new (o := .tup [.int x, .int y]) nr)).trans e2).trans e3
  have hr : H3 r = some (.tup [.int x, .int y]) := e3 _ _ (e2 _ _ upd_same)
  refine ⟨d, tv bs, (c : Int), c, rfl, rfl, e13 _ _ hP.1, ixN_nat (by rw [tv_len]; exact hc), ?_⟩
  refine k r _ (Ex.mut (e0.trans e13) nd) ⟨?_, fun z hz => ?_⟩
  · rw [upd_same, set_tv]
  · rcases List.mem_or_eq_of_mem_set hz with hz | rfl
    · have h := e13 _ _ (hP.2 z hz)
      rw [upd_ne (ne_of h (e13 _ _ hP.1) (by intro z; cases z))]
      exact h
    · rw [upd_ne (ne_of hr (e13 _ _ hP.1) (by intro z; cases z))]
      exact hr
theorem q_prs {H0 : Hp} {d : Addr} {bs : List (Addr × (Int × Int))} {c : Nat} {x y : Int} {ta : TA} {to ti : TE} (hP : Prs H d bs) (hc : c < bs.length) (e0 : Ex H0 H) (nd : H0 d = none) (h1 : EvA ta σ H [.int x, .int y]) (h2 : Ev to σ H (.ref d)) (h3 : Ev ti σ H (.int (c : Int)))
    (k : ∀ r H1, Ex H0 H1 → Prs H1 d (bs.set c (r, (x, y))) → tz D σ H1) : tSeq (tAsg (tTup ta) (gSub to ti rSetL)) tz D σ H := s_prs (D := { D with nx := tz D }) hP hc e0 nd h1 h2 h3 k
/-- x = f(..), by the promise itself -/
theorem q_asgX {i : Nat} {ta : TA} {vs : List V} (h : EvA ta σ H vs) (k : ∀ H1, Ex H H1 → sp (vs ++ dvs) H1 (fun v H2 => tz D (σ.set i (some v)) H2) E) : tSeq (tAsg (tCall sp dvs E ta) (gName i)) tz D σ H := h H (Ex.refl H) _ k
theorem el_revL {te : TE} {b : Addr} {xs : List V} (h : Ev te σ H (.ref b)) (hs : SqL K H b xs) : EvL (tRevL K te) σ H xs.reverse := fun H1 e Q q =>
  h H1 e _ fun H2 e2 => ⟨b, xs, rfl, ex_l (e.trans e2) hs, fun p hp => q p _ (fresh_back e2 hp) (e2.trans (Ex.new hp)) upd_same⟩
theorem el_cat {tl tr : TE} {xs ys : List V} (h1 : EvL tl σ H xs) (h2 : EvL tr σ H ys) (hz : xs.length + ys.length ≤ 100000) : EvL (tOp rCat tl tr) σ H (xs ++ ys) := fun H1 e Q q =>
  h1 H1 e _ fun p H2 _ e2 hp => h2 H2 (e.trans e2) _ fun r H3 _ e3 hr => ⟨p, r, xs, ys, rfl, rfl, e3 _ _ hp, hr, sz_of hz, fun u hu => q u _ (fresh_back (e2.trans e3) hu) ((e2.trans e3).trans (Ex.new hu)) upd_same⟩
/-- f(x, a new list) -/
theorem ev_callVL {t1 t2 : TE} {x z : V} {xs : List V} (h1 : Ev t1 σ H x) (h2 : EvL t2 σ H xs) (hs : ∀ p H1, Ex H H1 → H1 p = some (.lst xs) → ∀ Q : VK, (∀ H2, Ex H1 H2 → Q z H2) → sp ([x, .ref p] ++ dvs) H1 Q E) : Ev (tCall sp dvs E (tCons t1 (tCons t2 tNil))) σ H z := fun H1 e Q q =>
  h1 H1 e _ fun H2 e2 => h2 H2 (e.trans e2) _ fun p H3 _ e3 hp => hs p H3 ((e.trans e2).trans e3) hp Q fun H4 e4 => q H4 ((e2.trans e3).trans e4)
/-- f(a new list, x) -/
theorem ev_callLV {t1 t2 : TE} {x z : V} {xs : List V} (h1 : EvL t1 σ H xs) (h2 : Ev t2 σ H x) (hs : ∀ p H1, Ex H H1 → H1 p = some (.lst xs) → ∀ Q : VK, (∀ H2, Ex H1 H2 → Q z H2) → sp ([.ref p, x] ++ dvs) H1 Q E) : Ev (tCall sp dvs E (tCons t1 (tCons t2 tNil))) σ H z := fun H1 e Q q =>
  h1 H1 e _ fun p H2 _ e2 hp => h2 H2 (e.trans e2) _ fun H3 e3 => hs p H3 ((e.trans e2).trans e3) (e3 _ _ hp) Q fun H4 e4 => q H4 ((e2.trans e3).trans e4)
end
section
variable {K : PySem.W.Frag} {σ : L2.St} {H : Hp} {D : Ends}
/-- for x, y in zip(xs, ys), two lists of one length -/
theorem s_forZ {tu : TS} {g : TG} {ta : TA} {a b : Addr} {xs ys : List V} (h : EvA ta σ H [.ref a, .ref b]) (hx : SqL K H a xs) (hy : SqL K H b ys) (hl : xs.length = ys.length) (Pv : Nat → L2.St → Hp → Prop) (h0 : ∀ H1, Ex H H1 → Pv 0 σ H1) (hq : ∀ i σ' H', i ≤ xs.length → Pv i σ' H' → SqL K H' a xs ∧ SqL K H' b ys)
    (hs : ∀ (i : Nat) x y T σ' H', xs[i]? = some x → ys[i]? = some y → Pv i σ' H' → H' T = none → g (.ref T) σ' (upd H' T (.tup [x, y])) fun σ2 H2 => tu { D with nx := Pv (i + 1), ct := Pv (i + 1), bk := D.nx } σ2 H2) (hd : ∀ σ' H', Pv xs.length σ' H' → D.nx σ' H') : tFor (iZip K ta) g tu D σ H :=
  h H (Ex.refl H) _ fun H1 e => ⟨a, b, xs, ys, rfl, ex_l e hx, ex_l e hy, for_it (walk_zip (n := xs.length) (by rw [hl, Nat.min_self])) Pv (h0 H1 e) hq (fun i x σ' H' H2 hi p y => by
    obtain ⟨T, x1, x2, rfl, nT, rfl, e1, e2⟩ := y
    exact hs i x1 x2 T σ' H' e1 e2 p nT) hd⟩
end
theorem q_forZ {K : PySem.W.Frag} {σ : L2.St} {H : Hp} {D : Ends} {tz : TS} {tu : TS} {g : TG} {ta : TA} {a b : Addr} {xs ys : List V} (h : EvA ta σ H [.ref a, .ref b]) (hx : SqL K H a xs) (hy : SqL K H b ys) (hl : xs.length = ys.length) (Pv : Nat → L2.St → Hp → Prop) (h0 : ∀ H1, Ex H H1 → Pv 0 σ H1) (hq : ∀ i σ' H', i ≤ xs.length → Pv i σ' H' → SqL K H' a xs ∧ SqL K H' b ys)
    (hs : ∀ (i : Nat) x y T σ' H', xs[i]? = some x → ys[i]? = some y → Pv i σ' H' → H' T = none → g (.ref T) σ' (upd H' T (.tup [x, y])) fun σ2 H2 => tu { D with nx := Pv (i + 1), ct := Pv (i + 1), bk := tz D } σ2 H2) (hd : ∀ σ' H', Pv xs.length σ' H' → tz D σ' H') : tSeq (tFor (iZip K ta) g tu) tz D σ H := s_forZ (D := { D with nx := tz D }) h hx hy hl Pv h0 hq hs hd
theorem here_at {bench : Int} (h : bench = 1 ∨ bench = 2) (t : Th) : atI (iv t) (2 * bench - 2) = some (.int (hereOf bench t)) := by
  rcases h with rfl | rfl
  · exact atI_nat (j := 0) rfl
  · exact atI_nat (j := 2) rfl
theorem there_at {bench : Int} (h : bench = 1 ∨ bench = 2) (t : Th) : atI (iv t) (4 - 2 * bench) = some (.int (thereOf bench t)) := by
  rcases h with rfl | rfl
  · exact atI_nat (j := 2) rfl
  · exact atI_nat (j := 0) rfl
def marks (n : Nat) (ap : List Int) : List Bool := (List.range n).map (mkOf ap)
theorem marks_nil (n : Nat) : marks n [] = List.replicate n false := by
  unfold marks
  refine List.ext_getElem (by simp) fun i h1 h2 => ?_
  rw [List.getElem_map, List.getElem_replicate]
  rfl
theorem marks_set {n : Nat} {ap : List Int} {j : Nat} (hj : j < n) : (marks n ap).set j true = marks n (ap ++ [(j : Int)]) := by
  unfold marks
  refine List.ext_getElem (by simp) fun i h1 h2 => ?_
  rw [List.getElem_set, List.getElem_map, List.getElem_map, List.getElem_range]
  unfold mkOf
  by_cases e : j = i
  · subst e
    rw [if_pos rfl, decide_eq_true (by simp)]
  · rw [if_neg e]
    have : ((i : Int) ∈ ap) ↔ ((i : Int) ∈ ap ++ [(j : Int)]) := by
      simp only [List.mem_append, List.mem_singleton]
      refine ⟨.inl, fun h => h.elim id fun q => ?_⟩
      omega
    exact decide_eq_decide.mpr this
theorem marks_len (n : Nat) (ap : List Int) : (marks n ap).length = n := by unfold marks; rw [List.length_map, List.length_range]
theorem marks_get {n : Nat} {ap : List Int} {i : Nat} {x : V} (h : ((marks n ap).map V.bl)[i]? = some x) : i < n ∧ x = .bl (mkOf ap i) := by
  rw [List.getElem?_map] at h
  unfold marks at h
  rw [List.getElem?_map] at h
  by_cases hi : i < n
  · rw [List.getElem?_range hi] at h
    exact ⟨hi, (Option.some.inj h).symm⟩
  · rw [List.getElem?_eq_none (by rw [List.length_range]; omega)] at h
    cases h
theorem eqv_ints : ∀ a b : List Int, PyData.eqvAll (a.map PyData.int) (b.map PyData.int) = decide (a = b)
  | [], [] => rfl
  | [], _ :: _ => rfl
  | _ :: _, [] => rfl
  | x :: a, y :: b => by
    have ih := eqv_ints a b
    rw [List.map_cons, List.map_cons, PyData.eqvAll, ih]
    by_cases h : x = y <;> by_cases h2 : a = b <;> simp [PyData.eqv, h, h2]
theorem dpAll_ints {K : PySem.W.Frag} {H : Hp} : ∀ is : List Int, DpAll K H (is.map V.int) (is.map PyData.int)
  | [] => .nil
  | c :: r => .cons (.int _) (dpAll_ints r)
theorem sh_ints (is : List Int) : SeqAt.shaped (.list (is.map PyData.int)) = true := sh_map (f := PyData.int) (fun _ => rfl) (fun _ => by show 0 ≤ 1; decide) is
theorem rg_ints (n : Nat) : rgV 0 (n : Int) = (asI (List.range n)).map V.int := by
  rw [rg_ov]
  unfold ov asI
  rw [List.map_map]
  rfl
theorem ov_ints (o : List Nat) : ov o = (asI o).map V.int := by
  unfold ov asI
  rw [List.map_map]
  rfl

/-! ### targets, comprehensions with any target -/
def EvG (g : TG) (x : V) (σ : L2.St) (H : Hp) (σ2 : L2.St) : Prop := ∀ H1, Ex H H1 → ∀ Q : L2.St → Hp → Prop, Q σ2 H1 → g x σ H1 Q
section
variable {K : PySem.W.Frag} {σ σ2 σ3 σ4 : L2.St} {H : Hp} {tl te : TE} {t : TT} {ta : TA} {g g1 g2 g3 : TG} {D : Ends} {tu tz : TS}
theorem eg_name {i : Nat} {x : V} : EvG (gName i) x σ H (σ.set i (some x)) := fun _ _ _ q => q
theorem eg_2 {a : Addr} {x y : V} (h : SqT K H a [x, y]) (h1 : EvG g1 x σ H σ2) (h2 : EvG g2 y σ2 H σ3) : EvG (gTup K 2 (gCons g1 (gCons g2 gNil))) (.ref a) σ H σ3 := fun H1 e Q q =>
  ⟨a, _, rfl, ex_t e h, rfl, _, _, rfl, h1 H1 e _ ⟨_, _, rfl, h2 H1 e _ ⟨rfl, q⟩⟩⟩
theorem eg_3 {a : Addr} {x y z : V} (h : SqT K H a [x, y, z]) (h1 : EvG g1 x σ H σ2) (h2 : EvG g2 y σ2 H σ3) (h3 : EvG g3 z σ3 H σ4) : EvG (gTup K 3 (gCons g1 (gCons g2 (gCons g3 gNil)))) (.ref a) σ H σ4 := fun H1 e Q q =>
  ⟨a, _, rfl, ex_t e h, rfl, _, _, rfl, h1 H1 e _ ⟨_, _, rfl, h2 H1 e _ ⟨_, _, rfl, h3 H1 e _ ⟨rfl, q⟩⟩⟩⟩
/-- over a list -/
theorem el_lcG {a : Addr} {xs : List V} {vs : List Nat} (f : Nat → Bool) (v : Nat → V) (s : Nat → L2.St) (h : Ev tl σ H (.ref a)) (hx : SqL K H a xs) (hz : xs.length ≤ 40000) (hg : ∀ (i : Nat) (x : V) H1, Ex H H1 → xs[i]? = some x → EvG g x (wipe σ vs) H1 (s i)) (hw : ∀ i, i < xs.length → wipe (s i) vs = wipe σ vs)
    (ht : ∀ (i : Nat) (x : V) H1, Ex H H1 → xs[i]? = some x → EvT t (s i) H1 (f i)) (he : ∀ (i : Nat) (x : V) H1, Ex H H1 → xs[i]? = some x → f i = true → Ev te (s i) H1 (v i)) : EvL (tLc (iList K tl) g t te vs) σ H (given xs.length f v) := fun H0 e Q q => h H0 e _ fun H1 e1 => ⟨a, rfl, ⟨xs, ex_l (e.trans e1) hx⟩, fun Dl hD =>
  lc_list (xs := xs) (Cw H1 f v Dl) ⟨hD, Ex.new hD, upd_same⟩ (fun i H' _ p => ex_l ((e.trans e1).trans p.2.1) hx) (fun i x H' hi p => hg i x H1 (e.trans e1) hi H' p.2.1 _ ⟨hw i (List.getElem?_eq_some_iff.mp hi).1, cw_turn p (by have := (List.getElem?_eq_some_iff.mp hi).1; omega) (ht i x H1 (e.trans e1) hi) (fun hf => he i x H1 (e.trans e1) hi hf)⟩)
    (fun H' p => q Dl H' (fresh_back e1 p.1) (e1.trans p.2.1) p.2.2)⟩
/-- over a new list -/
theorem el_lcNG {xs : List V} {vs : List Nat} (f : Nat → Bool) (v : Nat → V) (s : Nat → L2.St) (h : EvL tl σ H xs) (hz : xs.length ≤ 40000) (hg : ∀ (i : Nat) (x : V) H1, Ex H H1 → xs[i]? = some x → EvG g x (wipe σ vs) H1 (s i)) (hw : ∀ i, i < xs.length → wipe (s i) vs = wipe σ vs)
    (ht : ∀ (i : Nat) (x : V) H1, Ex H H1 → xs[i]? = some x → EvT t (s i) H1 (f i)) (he : ∀ (i : Nat) (x : V) H1, Ex H H1 → xs[i]? = some x → f i = true → Ev te (s i) H1 (v i)) : EvL (tLc (iList K tl) g t te vs) σ H (given xs.length f v) := fun H0 e Q q => h H0 e _ fun a H1 ha e1 hx => ⟨a, rfl, ⟨xs, sq_of hx⟩, fun Dl hD =>
  lc_list (xs := xs) (Cw H1 f v Dl) ⟨hD, Ex.new hD, upd_same⟩ (fun i H' _ p => sq_of (p.2.1 a _ hx)) (fun i x H' hi p => hg i x H1 (e.trans e1) hi H' p.2.1 _ ⟨hw i (List.getElem?_eq_some_iff.mp hi).1, cw_turn p (by have := (List.getElem?_eq_some_iff.mp hi).1; omega) (ht i x H1 (e.trans e1) hi) (fun hf => he i x H1 (e.trans e1) hi hf)⟩)
    (fun H' p => q Dl H' (fresh_back e1 p.1) (e1.trans p.2.1) p.2.2)⟩
/-- a word of a comprehension over what makes a tuple a turn -/
theorem cw_new {H H' : Hp} {f : Nat → Bool} {v : Nat → V} {Dl T : Addr} {o : HO} {i : Nat} (p : Cw H f v Dl i H') (nT : H' T = none) : Cw H f v Dl i (upd H' T o) := by
  obtain ⟨p1, p2, p3⟩ := p
  exact ⟨p1, p2.trans (Ex.new nT), Ex.new nT _ _ p3⟩
/-- over enumerate(xs) -/
theorem el_lcE {a : Addr} {xs : List V} {vs : List Nat} (f : Nat → Bool) (v : Nat → V) (s : Nat → L2.St) (h : EvA ta σ H [.ref a]) (hx : SqL K H a xs) (hz : xs.length ≤ 40000) (hg : ∀ (i : Nat) (x : V) T H1, Ex H H1 → xs[i]? = some x → H1 T = some (.tup [.int (i : Int), x]) → EvG g (.ref T) (wipe σ vs) H1 (s i)) (hw : ∀ i, i < xs.length → wipe (s i) vs = wipe σ vs)
    (ht : ∀ (i : Nat) (x : V) H1, Ex H H1 → xs[i]? = some x → EvT t (s i) H1 (f i)) (he : ∀ (i : Nat) (x : V) H1, Ex H H1 → xs[i]? = some x → f i = true → Ev te (s i) H1 (v i)) : EvL (tLc (iEnum K ta) g t te vs) σ H (given xs.length f v) := fun H0 e Q q => h H0 e _ fun H1 e1 => ⟨a, xs, rfl, ex_l (e.trans e1) hx, fun Dl hD =>
  lc_it walk_enum (Cw H1 f v Dl) ⟨hD, Ex.new hD, upd_same⟩ (fun i H' _ p => ex_l ((e.trans e1).trans p.2.1) hx) (fun i x H' H'' hi p y => by
    obtain ⟨T, x1, x2, rfl, nT, rfl, y1, y2⟩ := y
    obtain rfl : x1 = .int (i : Int) := (Option.some.inj y1).symm
    have p2 := cw_new (o := .tup [.int (i : Int), x2]) p nT
    refine hg i x2 T (upd H' T (.tup [.int (i : Int), x2])) ((e.trans e1).trans p2.2.1) y2 upd_same _ (Ex.refl _) _ ⟨hw i hi, cw_turn p2 (by omega) (ht i x2 H1 (e.trans e1) y2) (fun hf => he i x2 H1 (e.trans e1) y2 hf)⟩)
    (fun H' p => q Dl H' (fresh_back e1 p.1) (e1.trans p.2.1) p.2.2)⟩
/-! ### fields and methods -/
theorem ev_fld {a C dx : Addr} {fs : List (Str × V)} {f : Str} {v : V} (h : Ev te σ H (.ref a)) (ha : H a = some (.ins C dx fs)) (c : Cls K C) (n : NoAttr K C f) (l : fs.lookup f = some v) : Ev (tFld K te f) σ H v := fun H1 e Q q => h H1 e _ fun H2 e2 => ⟨a, C, dx, fs, v, rfl, e2 _ _ (e _ _ ha), c, n, l, q H2 e2⟩
theorem ev_meth {a C dx : Addr} {fs : List (Str × V)} {m : Str} {z : V} {sp : Sp} {dvs vs : List V} {E : XK} (h : Ev te σ H (.ref a)) (ha : H a = some (.ins C dx fs)) (l : fs.lookup m = none) (hv : EvA ta σ H vs) (hs : SpV sp (.ref a :: (vs ++ dvs)) H z) : Ev (tMeth C m sp dvs E te ta) σ H z := fun H1 e Q q =>
  h H1 e _ fun H2 e2 => ⟨a, dx, fs, rfl, e2 _ _ (e _ _ ha), l, hv H2 (e.trans e2) _ fun H3 e3 => hs H3 ((e.trans e2).trans e3) Q (fun H4 e4 => q H4 ((e2.trans e3).trans e4)) E⟩
/-- all but what stands at x -/
def Exb (x : Addr) (H H' : Hp) : Prop := ∀ b o, b ≠ x → H b = some o → H' b = some o
theorem Exb.of {x : Addr} {H H' : Hp} (e : Ex H H') : Exb x H H' := fun b o _ h => e b o h
theorem Exb.trans {x : Addr} {H H1 H2 : Hp} (a : Exb x H H1) (b : Exb x H1 H2) : Exb x H H2 := fun c o n h => b c o n (a c o n h)
theorem Exb.set {x : Addr} {H : Hp} {o : HO} : Exb x H (upd H x o) := fun b u n h => by
  rw [upd_ne n]
  exact h
/-- what is new to H may change behind it -/
theorem Exb.ex {x : Addr} {H H1 H2 : Hp} (e : Ex H H1) (b : Exb x H1 H2) (n : H x = none) : Ex H H2 := fun c o h => b c o (ne_of_none h n) (e c o h)
theorem ty_ins {a C dx : Addr} {fs : List (Str × V)} (h : H a = some (.ins C dx fs)) (cl : Cls K C) (ha : PySem.W.findIn K (.ref C) "__class__" = some (some (.builtin "object.__class__"))) (hn : PySem.W.specialIn K (.builtin "object.__class__") "__get__" = some (some (.builtin "getset_descriptor.__get__")))
    (htk : PySem.W.takesIn K (.builtin "object.__class__") = some true) (hm : PySem.W.mroIn K C (.type "object") = some true) : ∀ H1, Ex H H1 → TyX K H1 (.ref a) (.ref C) := fun H1 e => .base (.ins (e _ _ h) cl ha hn htk hm)
/-- isinstance with a class of the program's own -/
theorem rc_isC {x : V} {C : Addr} {t : Value} {b : Bool} (ty : ∀ H1, Ex H H1 → TyX K H1 x t) (k : PySem.W.kitOne K t (.ref C) = some b) : RC (rIsi K) [x, .ref C] H (.bl b) := fun H1 e Q q => ⟨x, .ref C, t, .ref C, b, rfl, .own C, ty H1 e, k, q H1 (Ex.refl H1)⟩
end

/-! ### things made anew -/
structure MadeT (H0 H : Hp) (l : Addr) (zs : List (Addr × Th)) : Prop where
  ex : Ex H0 H
  ls : H l = some (.lst (tv zs))
  it : ∀ z ∈ zs, H z.1 = some (.tup (iv z.2))
theorem MadeT.more {H0 H H1 : Hp} {l : Addr} {zs : List (Addr × Th)} (m : MadeT H0 H l zs) (e : Ex H H1) : MadeT H0 H1 l zs := ⟨m.ex.trans e, e _ _ m.ls, fun z hz => e _ _ (m.it z hz)⟩
theorem MadeT.add {H0 H : Hp} {l p : Addr} {zs : List (Addr × Th)} {t : Th} (m : MadeT H0 H l zs) (nl : H0 l = none) (np : H p = none) : MadeT H0 (upd (upd H p (.tup (iv t))) l (.lst (tv zs ++ [.ref p]))) l (zs ++ [(p, t)]) := by
  have hl : (upd H p (.tup (iv t))) l = some (.lst (tv zs)) := Ex.new np _ _ m.ls
  refine ⟨Ex.mut (m.ex.trans (Ex.new np)) nl, ?_, fun z hz => ?_⟩
  · rw [upd_same, show [V.ref p] = tv [(p, t)] from rfl, tv_app]
  · rcases List.mem_append.mp hz with hz | hz
    · have a := m.it z hz
      rw [upd_ne (ne_of a m.ls (by intro z; cases z)), upd_ne (ne_of_none a np)]
      exact a
    · obtain rfl := List.mem_singleton.mp hz
      have h2 : (upd H p (.tup (iv t))) p = some (.tup (iv t)) := upd_same
      rw [upd_ne (ne_of h2 hl (by intro z; cases z)), upd_same]
section
variable {K : PySem.W.Frag} {σ : L2.St} {H : Hp}
/-- [(z, y, x) for x, y, z in things] -/
theorem el_turn {tl : TE} {l : Addr} {zs : List (Addr × Th)} {i j k : Nat} {vs : List Nat} {Q : VK} (h : Ev tl σ H (.ref l)) (hT : Ths K H l zs) (hi : ∀ x y z : V, ((((wipe σ vs).set i (some x)).set j (some y)).set k (some z))[i]? = some (some x)) (hj : ∀ x y z : V, ((((wipe σ vs).set i (some x)).set j (some y)).set k (some z))[j]? = some (some y))
    (hk : ∀ x y z : V, ((((wipe σ vs).set i (some x)).set j (some y)).set k (some z))[k]? = some (some z)) (hw : ∀ x y z : V, wipe ((((wipe σ vs).set i (some x)).set j (some y)).set k (some z)) vs = wipe σ vs)
    (q : ∀ p ws H', H p = none → Ex H H' → Ths K H' p ws → H' p = some (.lst (tv ws)) → ths ws = (ths zs).map turn → Q (.ref p) H') : tLc (iList K tl) (gTup K 3 (gCons (gName i) (gCons (gName j) (gCons (gName k) gNil)))) tYes (tTup (tCons (tVar k) (tCons (tVar j) (tCons (tVar i) tNil)))) vs σ H Q := by
  refine h H (Ex.refl H) _ fun H2 e2 => ?_
  have hT2 := hT.mono e2
  refine ⟨l, rfl, ⟨_, hT2.ls⟩, fun t nt => lc_list (K := K) (a := l) (xs := tv zs) (fun i H' => ∃ ws : List (Addr × Th), MadeT H2 H' t ws ∧ ths ws = ((ths zs).take i).map turn) ⟨[], ⟨Ex.new nt, upd_same, (fun z hz => nomatch hz)⟩, rfl⟩ (fun i H' _ ⟨ws, m, _⟩ => ex_l m.ex hT2.ls) ?_ ?_⟩
  · rintro c x H' hi' ⟨ws, m, hw'⟩
    obtain ⟨z, hzi, rfl⟩ := tv_get hi'
    have hzm : z ∈ zs := List.mem_of_getElem? hzi
    have hwl : ws.length ≤ zs.length := by
      rw [← ths_len ws, hw', List.length_map, List.length_take, ths_len]
      exact Nat.min_le_right _ _
    refine eg_3 (H := H') (ex_t m.ex (hT2.it z hzm)) eg_name eg_name eg_name H' (Ex.refl H') _ ⟨hw _ _ _, ?_⟩
    refine et_yes (H := H') H' (Ex.refl H') _ fun H4 e4 => ?_
    have m := m.more e4
    refine iteT ?_
    refine ⟨_, hk _ _ _, _, hj _ _ _, _, hi _ _ _, (by show 3 ≤ sizeLine; decide), fun p np => ⟨tv ws, Ex.new np _ _ m.ls, ?_, ws ++ [(p, turn z.2)], m.add (t := turn z.2) nt np, ?_⟩⟩
    · rw [tv_len]
      have := hT.le
      exact sz_lt (by omega)
    · have e : (ths zs)[c]? = some z.2 := by
        unfold ths
        rw [List.getElem?_map, hzi]
        rfl
      rw [List.take_add_one, e, List.map_append, ← hw']
      unfold ths
      rw [List.map_append]
      rfl
  · rintro H3 ⟨ws, m, hw'⟩
    rw [tv_len, ← ths_len zs, List.take_length] at hw'
    have hwl : ws.length = zs.length := by rw [← ths_len ws, hw', List.length_map, ths_len]
    refine q t ws H3 (fresh_back e2 nt) (e2.trans m.ex) ⟨sq_of m.ls, fun z hz => st_of (m.it z hz), fun z hz => ?_, by have := hT.le; omega⟩ m.ls hw'
    have : z.2 ∈ ths ws := List.mem_map.mpr ⟨z, hz, rfl⟩
    rw [hw'] at this
    obtain ⟨y, hy, e⟩ := List.mem_map.mp this
    rw [← e]
    exact (ths_nn hT y hy).turn
end
/-- some of the things, in their order -/
def subs (zs : List (Addr × Th)) (f : Nat → Bool) : List (Addr × Th) := ((List.range zs.length).filter f).map fun i => zs.getD i (0, th0)
theorem given_subs (zs : List (Addr × Th)) (f : Nat → Bool) : given zs.length f (fun i => .ref (zs.getD i (0, th0)).1) = tv (subs zs f) := by
  unfold given subs tv
  rw [List.map_map]
  rfl
theorem subs_mem {zs : List (Addr × Th)} {f : Nat → Bool} {z : Addr × Th} (h : z ∈ subs zs f) : z ∈ zs := by
  obtain ⟨i, hi, rfl⟩ := List.mem_map.mp h
  have := List.mem_range.mp (List.mem_filter.mp hi).1
  rw [List.getD_eq_getElem?_getD, List.getElem?_eq_getElem this]
  exact List.getElem_mem this
theorem subs_len (zs : List (Addr × Th)) (f : Nat → Bool) : (subs zs f).length ≤ zs.length := by
  unfold subs
  rw [List.length_map]
  have h := List.length_filter_le f (List.range zs.length)
  rw [List.length_range] at h
  exact h
theorem Ths.subs {K : PySem.W.Frag} {H : Hp} {l p : Addr} {zs : List (Addr × Th)} {f : Nat → Bool} (h : Ths K H l zs) (hp : H p = some (.lst (tv (Bp.subs zs f)))) : Ths K H p (Bp.subs zs f) :=
  ⟨sq_of hp, fun z hz => h.it z (subs_mem hz), fun z hz => h.nn z (subs_mem hz), Nat.le_trans (subs_len zs f) h.le⟩
theorem ths_subs {ts : List Th} {bench : Int} {zs : List (Addr × Th)} (h : ths zs = ts.map (facing bench)) (f : Nat → Bool) : ths (subs zs f) = sel ts bench f (List.range ts.length) := by
  have hl : zs.length = ts.length := by rw [← ths_len zs, h, List.length_map]
  unfold subs sel
  rw [hl]
  unfold ths at h ⊢
  rw [List.map_map]
  refine List.map_congr_left fun i hi => ?_
  have hi := List.mem_range.mp (List.mem_filter.mp hi).1
  show (zs.getD i (0, th0)).2 = facing bench (ts.getD i th0)
  have e : (zs.map fun z => z.2)[i]? = (ts.map (facing bench))[i]? := by rw [h]
  rw [List.getElem?_map, List.getElem?_map, List.getElem?_eq_getElem hi, List.getElem?_eq_getElem (by omega)] at e
  rw [List.getD_eq_getElem?_getD, List.getD_eq_getElem?_getD, List.getElem?_eq_getElem hi, List.getElem?_eq_getElem (by omega : i < zs.length)]
  exact Option.some.inj e
theorem given_bools {α : Type} (l : List α) (d : α) (f : α → Bool) : given l.length (fun _ => true) (fun i => .bl (f (l.getD i d))) = (l.map f).map V.bl := by
  rw [given_all, range_map l d (fun x => V.bl (f x)), List.map_map]
  rfl
theorem given_ints {α : Type} (l : List α) (d : α) (f : α → Int) : given l.length (fun _ => true) (fun i => .int (f (l.getD i d))) = (l.map f).map V.int := by
  rw [given_all, range_map l d (fun x => V.int (f x)), List.map_map]
  rfl
theorem tv_at {zs : List (Addr × Th)} {i : Nat} {x : V} (h : (tv zs)[i]? = some x) : i < zs.length ∧ x = .ref (zs.getD i (0, th0)).1 ∧ zs.getD i (0, th0) ∈ zs := by
  obtain ⟨z, hz, rfl⟩ := tv_get h
  have e : zs.getD i (0, th0) = z := by rw [List.getD_eq_getElem?_getD, hz]; rfl
  refine ⟨(List.getElem?_eq_some_iff.mp hz).1, by rw [e], ?_⟩
  rw [e]
  exact List.mem_of_getElem? hz
theorem ints_at {is : List Int} {i : Nat} {x : V} (h : (is.map V.int)[i]? = some x) : ∃ y, is[i]? = some y ∧ x = .int y := by
  rw [List.getElem?_map] at h
  cases hq : is[i]? with
  | none => rw [hq] at h; cases h
  | some y => rw [hq] at h; exact ⟨y, rfl, (Option.some.inj h).symm⟩
theorem A_sum (l : List Th) : A l = (l.map fun t => t.1).sum := by
  induction l with
  | nil => rfl
  | cons t r ih => rw [List.map_cons, List.sum_cons, ← ih]; rfl
/-- a bar, yes or no -/
noncomputable def barB (ts : List Th) (bench : Int) (ap : List Int) (L : Int) : Bool := @decide (BarW ts bench ap L) (Classical.propDecidable _)
theorem barB_iff {ts : List Th} {bench : Int} {ap : List Int} {L : Int} : barB ts bench ap L = true ↔ BarW ts bench ap L := by unfold barB; exact @decide_eq_true_iff _ (Classical.propDecidable _)
theorem barB_yes {ts : List Th} {bench : Int} {ap : List Int} {L : Int} (h : BarW ts bench ap L) : barB ts bench ap L = true := barB_iff.mpr h
theorem barB_no {ts : List Th} {bench : Int} {ap : List Int} {L : Int} (h : ¬ BarW ts bench ap L) : barB ts bench ap L = false := by
  cases e : barB ts bench ap L with
  | false => rfl
  | true => exact absurd (barB_iff.mp e) h
/-- isinstance of two classes of the program's own -/
theorem kit_one {K : PySem.W.Frag} {A B : Addr} {b : Bool} (h1 : PySem.W.subIn K (.ref A) (.ref B) = some b) (h2 : PySem.W.isClsIn K B = true) (h3 : PySem.W.typeIn K (.ref B) = some (.type "type")) (h4 : PySem.W.subIn K (.ref A) (.ref A) = some true) : PySem.W.kitOne K (.ref A) (.ref B) = some b := by
  unfold PySem.W.kitOne
  by_cases e : (Value.ref A == Value.ref B) = true
  · rw [if_pos e]
    have e2 : Value.ref A = Value.ref B := eq_of_beq e
    rw [e2, ← e2, h4] at h1
    exact h1
  · rw [if_neg e]
    have h5 : (PySem.W.clsIn K B).isSome = true := h2
    have h6 : ((PySem.W.clsIn K B).isSome && PySem.W.typeIn K (.ref B) == some (.type "type")) = true := by
      rw [h5, h3]
      decide +kernel
    show (if ((PySem.W.clsIn K B).isSome && PySem.W.typeIn K (.ref B) == some (.type "type")) = true then PySem.W.subIn K (.ref A) (.ref B) else none) = some b
    rw [if_pos h6]
    exact h1
end Bp
namespace Bp
open PySem L2 Evl
/-! ### what the laws of answers share -/
theorem Ths.some {K : PySem.W.Frag} {H : Hp} {l p : Addr} {zs us : List (Addr × Th)} (h : Ths K H l zs) (hp : SqL K H p (tv us)) (hm : ∀ u ∈ us, u ∈ zs) (hl : us.length ≤ 1000) : Ths K H p us := ⟨hp, fun z hz => h.it z (hm z hz), fun z hz => h.nn z (hm z hz), hl⟩
theorem tv_rev (zs : List (Addr × Th)) : (tv zs).reverse = tv zs.reverse := by unfold tv; rw [List.map_reverse]
theorem cut_drop (xs : List V) (k : Nat) : cutV xs (some (k : Int)) none = xs.drop k := by
  unfold cutV
  rw [HT.sIx_none, HT.sIx_nat, List.take_of_length_le (by rw [List.length_drop]; exact Nat.le_refl _)]
  rcases Nat.le_total k xs.length with h | h
  · rw [Nat.min_eq_left h]
  · rw [Nat.min_eq_right h, List.drop_of_length_le (Nat.le_refl _), List.drop_of_length_le h]
theorem cut_take (xs : List V) (k : Nat) : cutV xs none (some (k : Int)) = xs.take k := by
  unfold cutV
  rw [HT.sIx_none, HT.sIx_nat, List.drop_zero, Nat.sub_zero]
  rcases Nat.le_total k xs.length with h | h
  · rw [Nat.min_eq_left h]
  · rw [Nat.min_eq_right h, List.take_of_length_le (Nat.le_refl _), List.take_of_length_le h]
theorem tv_drop (zs : List (Addr × Th)) (k : Nat) : (tv zs).drop k = tv (zs.drop k) := by unfold tv; rw [List.map_drop]
theorem tv_take (zs : List (Addr × Th)) (k : Nat) : (tv zs).take k = tv (zs.take k) := by unfold tv; rw [List.map_take]
theorem rv_eqB {K : PySem.W.Frag} {H : Hp} {x y : V} {d e : PyData} (hx : DpX K H x d) (hy : DpX K H y e) (hs : SeqAt.shaped d = true) (hs2 : SeqAt.shaped e = true) : RV (rEqD K) x y H (.bl (PyData.eqv d e)) := fun H1 e1 Q q => ⟨d, e, hx H1 e1, hy H1 e1, hs, hs2, q H1 (Ex.refl H1)⟩
def rIsNotB : R2 := fun x y H Q => ∃ a b, x = .bl a ∧ y = .bl b ∧ Q (.bl (!decide (a = b))) H
theorem rv_isnB {H : Hp} {a b : Bool} : RV rIsNotB (.bl a) (.bl b) H (.bl (!decide (a = b))) := fun H1 _ Q q => ⟨a, b, rfl, rfl, q H1 (Ex.refl H1)⟩
theorem ev_callLX {σ : L2.St} {H : Hp} {sp1 sp2 : Sp} {dvs dvs2 vs2 xs : List V} {E E2 : XK} {t1 : TE} {ta2 : TA} {z : V} (h1 : EvL t1 σ H xs) (h2 : EvA ta2 σ H vs2) (k : ∀ p H1, Ex H H1 → H1 p = some (.lst xs) → ∀ Q : VK, (∀ H2, Ex H1 H2 → Q z H2) → sp2 (vs2 ++ dvs2) H1 (fun v H2 => sp1 ([.ref p, v] ++ dvs) H2 Q E) E2) :
    Ev (tCall sp1 dvs E (tCons t1 (tCons (tCall sp2 dvs2 E2 ta2) tNil))) σ H z := fun H1 e Q q =>
  h1 H1 e _ fun p H2 _ e2 hp => h2 H2 (e.trans e2) _ fun H3 e3 => k p H3 ((e.trans e2).trans e3) (e3 _ _ hp) Q fun H4 e4 => q H4 ((e2.trans e3).trans e4)
/-- f(a new list, x, g(..)) -/
theorem ev_callLVX {σ : L2.St} {H : Hp} {sp1 sp2 : Sp} {dvs dvs2 vs2 xs : List V} {E E2 : XK} {t1 tm : TE} {ta2 : TA} {y z : V} (h1 : EvL t1 σ H xs) (hm : Ev tm σ H y) (h2 : EvA ta2 σ H vs2) (k : ∀ p H1, Ex H H1 → H1 p = some (.lst xs) → ∀ Q : VK, (∀ H2, Ex H1 H2 → Q z H2) → sp2 (vs2 ++ dvs2) H1 (fun v H2 => sp1 ([.ref p, y, v] ++ dvs) H2 Q E) E2) :
    Ev (tCall sp1 dvs E (tCons t1 (tCons tm (tCons (tCall sp2 dvs2 E2 ta2) tNil)))) σ H z := fun H1 e Q q =>
  h1 H1 e _ fun p H2 _ e2 hp => hm H2 (e.trans e2) _ fun H2' e2' => h2 H2' ((e.trans e2).trans e2') _ fun H3 e3 => k p H3 (((e.trans e2).trans e2').trans e3) ((e2'.trans e3) _ _ hp) Q fun H4 e4 => q H4 (((e2.trans e2').trans e3).trans e4)
/-- f(x, g(..).a) and its like: the last argument by a continuation -/
theorem ev_callVC {σ : L2.St} {H : Hp} {sp1 : Sp} {dvs : List V} {E : XK} {t1 t2 : TE} {x z : V} (h1 : Ev t1 σ H x) (k : ∀ H1, Ex H H1 → ∀ Q : VK, (∀ H2, Ex H1 H2 → Q z H2) → t2 σ H1 (fun v H2 => sp1 ([x, v] ++ dvs) H2 Q E)) : Ev (tCall sp1 dvs E (tCons t1 (tCons t2 tNil))) σ H z := fun H1 e Q q =>
  h1 H1 e _ fun H2 e2 => k H2 (e.trans e2) Q fun H3 e3 => q H3 (e2.trans e3)
theorem q_turn {K : PySem.W.Frag} {σ : L2.St} {H : Hp} {D : Ends} {tz : TS} {tl : TE} {l : Addr} {zs : List (Addr × Th)} {i j k m : Nat} {vs : List Nat} (h : Ev tl σ H (.ref l)) (hT : Ths K H l zs) (hi : ∀ x y z : V, ((((wipe σ vs).set i (some x)).set j (some y)).set k (some z))[i]? = some (some x)) (hj : ∀ x y z : V, ((((wipe σ vs).set i (some x)).set j (some y)).set k (some z))[j]? = some (some y))
    (hk : ∀ x y z : V, ((((wipe σ vs).set i (some x)).set j (some y)).set k (some z))[k]? = some (some z)) (hw : ∀ x y z : V, wipe ((((wipe σ vs).set i (some x)).set j (some y)).set k (some z)) vs = wipe σ vs)
    (q : ∀ p ws H', H p = none → Ex H H' → Ths K H' p ws → H' p = some (.lst (tv ws)) → ths ws = (ths zs).map turn → tz D (σ.set m (some (.ref p))) H') : tSeq (tAsg (tLc (iList K tl) (gTup K 3 (gCons (gName i) (gCons (gName j) (gCons (gName k) gNil)))) tYes (tTup (tCons (tVar k) (tCons (tVar j) (tCons (tVar i) tNil)))) vs) (gName m)) tz D σ H :=
  el_turn (Q := fun v H1 => gName m v σ H1 (fun σ2 H2 => tz D σ2 H2)) h hT hi hj hk hw q
/-- for x in (a, b, ..), the tuple made on the way -/
theorem s_forU {K : PySem.W.Frag} {σ : L2.St} {H : Hp} {D : Ends} {tu : TS} {g : TG} {ta : TA} {xs : List V} (h : EvA ta σ H xs) (hz : xs.length ≤ 100000) (Pv : Addr → Nat → L2.St → Hp → Prop) (h0 : ∀ tp H1, H tp = none → Ex H H1 → H1 tp = some (.tup xs) → Pv tp 0 σ H1) (hl : ∀ tp i σ' H', Pv tp i σ' H' → SqT K H' tp xs)
    (hs : ∀ tp i x σ' H', xs[i]? = some x → Pv tp i σ' H' → g x σ' H' fun σ2 H2 => tu { D with nx := Pv tp (i + 1), ct := Pv tp (i + 1), bk := D.nx } σ2 H2) (hd : ∀ tp σ' H', Pv tp xs.length σ' H' → D.nx σ' H') : tFor (iTup K (tTup ta)) g tu D σ H :=
  h H (Ex.refl H) _ fun H1 e1 => ⟨sz_of hz, fun tp ntp => ⟨tp, rfl, ⟨_, st_of upd_same⟩, for_tup (Pv tp) (h0 tp _ (fresh_back e1 ntp) (e1.trans (Ex.new ntp)) upd_same) (fun i σ' H' _ p => hl tp i σ' H' p) (hs tp) (hd tp)⟩⟩
theorem q_forU {K : PySem.W.Frag} {σ : L2.St} {H : Hp} {D : Ends} {tu tz : TS} {g : TG} {ta : TA} {xs : List V} (h : EvA ta σ H xs) (hz : xs.length ≤ 100000) (Pv : Addr → Nat → L2.St → Hp → Prop) (h0 : ∀ tp H1, H tp = none → Ex H H1 → H1 tp = some (.tup xs) → Pv tp 0 σ H1) (hl : ∀ tp i σ' H', Pv tp i σ' H' → SqT K H' tp xs)
    (hs : ∀ tp i x σ' H', xs[i]? = some x → Pv tp i σ' H' → g x σ' H' fun σ2 H2 => tu { D with nx := Pv tp (i + 1), ct := Pv tp (i + 1), bk := tz D } σ2 H2) (hd : ∀ tp σ' H', Pv tp xs.length σ' H' → tz D σ' H') : tSeq (tFor (iTup K (tTup ta)) g tu) tz D σ H := s_forU (D := { D with nx := tz D }) h hz Pv h0 hl hs hd
end Bp
namespace Bp
open PySem PySem.Spec PyProof.Rows L2 L2H
/-! ### a def that is handed the exception that the caller's suite holds -/
abbrev SpP : Type := Addr × Obj → Sp
/-- what such a def promises: p is the exception -/
structure FnP (P : Program) (w : World) (K : PySem.W.Frag) (mg : Str → Option Value) (base : Heap) (CX : CXT) (k : Nat) (f : Addr) (fd : FuncData) (ps : List Str) (sp : SpP) : Prop where
  many : ∀ p vs H Q E, sp p vs H Q E → vs.length = ps.length
  go : ∀ (p : Addr × Obj) (A : Around) (outer : List Env) (s : Shared) (H : Hp) (args : Args) (us : List Value) (vs : List V) (Q : VK) (E : XK), RoomH k A → PinOk outer H s p → Env0 P w K mg base A outer s H → BindsTo s fd args (ps.zip us) → Vals vs us → sp p vs H Q E →
    codeAny (model P w) A (.call (.ref f) args) (CR CX outer P w H s Q E) s
section
variable {P : Program} {w : World} {K : PySem.W.Frag} {mg : Str → Option Value} {base : Heap} {CX : CXT} {k : Nat} {f : Addr}
theorem fnp_of {name qual : Str} {st : Stmt} {fd : FuncData} {N ps : List Str} {sp : SpP} (F : Fun K name qual st f fd) (S : FnScope N ps (defScope st)) (many : ∀ p vs H Q E, sp p vs H Q E → vs.length = ps.length)
    (body : ∀ (p : Addr × Obj) (cdv : Value) (A : Around) (outer : List Env) (s : Shared) (H : Hp) (vs : List V) (Q : VK) (E : XK), sp p vs H Q E →
      ∃ t, PSs (cxH CX P w K mg base N qual (defScope st) f cdv A outer s H E p) (defBody st) t ∧ t { nx := fun _ H' => Q .non H', rt := Q } (L2.start N vs) H) : FnP P w K mg base CX (k + 1) f fd ps sp := by
  obtain ⟨oc, od, kV, doc, pm, an, cdv, ct, osl, rfl, lk, hcd⟩ := F.ex
  refine ⟨many, fun p A outer s H args us vs Q E hroom hpin he hbind rel hsp => ?_⟩
  have below : ∀ b o, base.get? b = some o → s.heap.get? b = some o := fun b o e => (he.bs b o e).1
  have inK : K.In s.heap := he.mod.kin.keeps below
  have own : ∀ y ∈ ps.zip us, (defScope st).names.lookup y.1 = some .local ∨ ((defScope st).names.lookup y.1 = some .cell ∧ ((cellsFrom (s.heap.objs.size + 1) (defScope st).names []).lookup y.1).isSome = true) := fun ⟨n, v⟩ hy =>
    (S.par n (List.of_mem_zip hy).1).imp (fun q => q) fun q => ⟨q, PySem.W.cellsFrom_some _ _ _ (.inl q)⟩
  refine codeAny_call_function hroom.depth (inK _ _ lk) rfl S.co S.gen rfl (PySem.W.codeRec_of inK hcd) (hbind _ _ _ _ (wpAny_newFunctionEnv_cells S.kind own fun env here s1 x => ?_))
  subst here
  refine ⟨(he.mod.nolimit.keeps below).keeps x.toInCall.keep, codeAny_func ?_⟩
  obtain ⟨t, ht, hq⟩ := body p cdv A outer s H vs Q E hsp
  refine wpAny_mono (ht.run [] s1 (L2.start N vs) H _ (inv_startH S hpin he (many _ _ _ _ _ hsp) rel x) hq) (fun fl s' hs => ?_) fun e s' hs => hs
  match fl, hs with
  | .ret u, ⟨v, σ', H', J, rv, q⟩ => exact ⟨v, H', J.os, J.bare, J.base, J.hok, rv, q⟩
  | .next, ⟨σ', H', J, q⟩ => exact ⟨V.non, H', J.os, J.bare, J.base, J.hok, rfl, q⟩
  | .brk, ⟨_, _, _, q⟩ => exact q.elim
  | .cont, ⟨_, _, _, q⟩ => exact q.elim
end
section
variable {X : Cx} {CX : CXT} {k i : Nat} {f : Addr} {fd : FuncData} {ps : List Str} {x : Str} {q pos : Pos} {e : Expr} {es : List Expr} {t : TA}
/-- f(e, ..) in a suite that holds p -/
theorem pe_callP {sp : SpP} {p : Addr × Obj} (F : FnP X.prog X.w X.K X.mg X.base CX0 k f fd ps sp) (hr : RoomH k X.A) (hp : p ∈ X.pn) (hg : Gl X x) (hm : X.mg x = some (.ref f)) (hk : PySem.W.keepIn X.K (.ref f) = true) (hb : Binds X.K fd ps []) (ha : PA X (e :: es) t)
    (hdb : (x == ("__debug__" : Str)) = false := by decide) (he : starEach (e :: es) X.env = (false, eval e X.env) :: starEach es X.env := by rfl) (hpl : (backTo pos (starEach es X.env)).any (·.1) = false := by rfl) :
    PE X (.Call (.Name x q) (e :: es) [] pos) (fun σ H Q => t σ H fun vs H1 => sp p vs H1 Q E0) := by
  refine ⟨fun pins s σ H Q I h => wpAny_Call_Name_kw (ld_glob I hg hm ?_ hdb)⟩
  refine PySem.W.callWith_K (h₀ := X.base) I.ok.mod.kin hk (thn (ha.run pos pins s σ H _ I h) fun us s1 ⟨vs, H1, J, r, w⟩ => ⟨J.kIn, ?_⟩) he hpl
  have same : us.length = ps.length := r.length.symm.trans (F.many _ _ _ _ _ w)
  have bnd := hb s1 us J.kIn (by rw [List.append_nil]; exact same)
  rw [List.append_nil] at bnd
  obtain ⟨p1, p2, p3, p4, p5⟩ := J.pin p (List.mem_append_left _ hp)
  have ok : PinOk X.stack H1 s1 p := ⟨p1, p2, fun hm => (List.mem_cons.mp (J.stkSub p.1 hm)).elim p3 p4, p5⟩
  refine wpAny_call (codeAny_mono (F.go p X.A X.stack s1 H1 ⟨us, []⟩ us vs Q E0 hr ok J.env0 bnd r w) fun out s' hq => ?_)
  match out, hq with
  | .error z, hq => exact False.elim hq
  | .ok (.ret u), hq => exact J.after hq
  | .ok .next, hq => exact False.elim hq
  | .ok .brk, hq => exact False.elim hq
  | .ok .cont, hq => exact False.elim hq
/-- a call of a local name that holds a def which may raise, within a try -/
theorem pe_callLS {sp : Sp} {E : L2.St → XK} (F : FnOk X.prog X.w X.K X.mg X.base CX k f fd ps sp) (hr : Room k X.A) (hN : X.N[i]? = some x) (hv : Vis X.env.scope x) (hk : PySem.W.keepIn X.K (.ref f) = true) (hb : Binds X.K fd ps []) (hx : ∀ σ, PassesAt CX X σ (E σ)) (ha : PA X (e :: es) t)
    (hdb : (x == ("__debug__" : Str)) = false := by decide) (hcd : (x == ("__classdict__" : Str)) = false := by decide)
    (he : starEach (e :: es) X.env = (false, eval e X.env) :: starEach es X.env := by rfl) (hpl : (backTo pos (starEach es X.env)).any (·.1) = false := by rfl) :
    PE X (.Call (.Name x q) (e :: es) [] pos) (fun σ H Q => σ[i]? = some (some (.ref f)) ∧ t σ H fun vs H1 => sp vs H1 Q (E σ)) := by
  refine ⟨fun pins s σ H Q I h => wpAny_Call_Name_kw (thn ((pe_var (pos := q) hN hv hdb hcd).run pins s σ H (fun v H1 => v = .ref f ∧ H1 = H) I ⟨.ref f, h.1, rfl, rfl⟩) fun u s1 ⟨v, H1, I1, r1, e1, e2⟩ => ?_)⟩
  subst e1 e2
  cases r1
  exact PySem.W.callWith_K (h₀ := X.base) I.ok.mod.kin hk (thn (ha.run pos pins s1 σ _ _ I1 h.2) fun us s2 ⟨vs, H2, I2, r, w⟩ => ⟨I2.kIn, run_fnS F hr hb (hx σ) I2 r w⟩) he hpl
/-- isinstance(e, c), e an exception of the class at D that the context holds -/
theorem call_isP {a D : Addr} {oe : Obj} (C : ExcC X.K D) (hp : (a, oe) ∈ X.pn) (hz : Zc (.ref D) none oe) (hf : ∃ vs, oe.data = .fields vs) : CallR X (.builtin "isinstance") (rIsE X.K D a) := by
  intro pins s σ H xs us Q I r h
  obtain ⟨c, cv, b, rfl, hcv, kit, w⟩ := h
  match us, r with
  | [_, _], .cons rx (.cons rt .nil) =>
    obtain rfl := hcv _ rt
    cases rx
    have there := (I.pin (a, oe) (List.mem_append_left _ hp)).1
    obtain ⟨vs, dat⟩ := hf
    obtain ⟨oc, od, oda, osl⟩ := oe
    obtain ⟨h1, h2⟩ := hz
    dsimp only at h1 h2 dat
    subst h1 h2 dat
    exact PySem.W.kia_one (PySem.W.handS_kitx_exc C.hg C.hk C.hs C.hd C.ha C.hn C.ht C.hm) I.kIn ⟨there, rfl, rfl, trivial⟩ kit (fun z => nomatch z) fun tk => ⟨.bl b, H, I.kept (t' := tk) fun _ _ z => z, rfl, w⟩
end
end Bp
namespace Bp
open PySem L2 Evl
/-! ### values of any kind, as a program that refuses looks at them -/
def Ty (K : PySem.W.Frag) (H : Hp) (v : V) (n : String) : Prop := ∀ H1, Ex H H1 → TyX K H1 v (.type n)
theorem Ty.mono {K : PySem.W.Frag} {H H' : Hp} {v : V} {n : String} (e : Ex H H') (h : Ty K H v n) : Ty K H' v n := fun H1 e1 => h H1 (e.trans e1)
inductive All2 {α β : Type} (R : α → β → Prop) : List α → List β → Prop
  | nil : All2 R [] []
  | cons {a : α} {b : β} {as : List α} {bs : List β} (h : R a b) (t : All2 R as bs) : All2 R (a :: as) (b :: bs)
section
variable {α β : Type} {R S : α → β → Prop}
theorem All2.imp {as : List α} {bs : List β} (h : All2 R as bs) (f : ∀ a b, R a b → S a b) : All2 S as bs := by
  induction h with
  | nil => exact .nil
  | cons h _ ih => exact .cons (f _ _ h) ih
theorem All2.len {as : List α} {bs : List β} (h : All2 R as bs) : as.length = bs.length := by
  induction h with
  | nil => rfl
  | cons _ _ ih => rw [List.length_cons, List.length_cons, ih]
theorem All2.get {as : List α} {bs : List β} (h : All2 R as bs) : ∀ {i : Nat} {a : α}, as[i]? = some a → ∃ b, bs[i]? = some b ∧ R a b := by
  induction h with
  | nil => intro i a h; cases h
  | @cons x y xs ys h _ ih =>
    intro i a hi
    cases i with
    | zero => exact ⟨y, rfl, by rw [← Option.some.inj hi]; exact h⟩
    | succ i => exact ih (i := i) hi
theorem All2.app {as as' : List α} {bs bs' : List β} (h : All2 R as bs) (h' : All2 R as' bs') : All2 R (as ++ as') (bs ++ bs') := by
  induction h with
  | nil => exact h'
  | cons h _ ih => exact .cons h ih
theorem All2.map {γ : Type} (f : γ → α) (g : γ → β) (l : List γ) (h : ∀ c ∈ l, R (f c) (g c)) : All2 R (l.map f) (l.map g) := by
  induction l with
  | nil => exact .nil
  | cons c l ih => exact .cons (h c List.mem_cons_self) (ih fun d hd => h d (List.mem_cons_of_mem _ hd))
end
section
variable {K : PySem.W.Frag} {H H' : Hp}
/-- kinds of values that are no whole numbers, no tuples, no lists -/
abbrev NonInt (n : String) : Prop := n ∈ ["bool", "NoneType", "str", "list", "tuple", "dict"]
abbrev NonTup (n : String) : Prop := n ∈ ["int", "bool", "NoneType", "str", "list", "dict"]
abbrev NonLst (n : String) : Prop := n ∈ ["int", "bool", "NoneType", "str", "tuple", "dict"]
theorem kit_int : ∀ n, NonInt n → ∃ b1 b2, kitB n "int" = some b1 ∧ kitB n "bool" = some b2 ∧ (b1 && !b2) = false := by
  intro n h
  simp only [NonInt, List.mem_cons, List.not_mem_nil, or_false] at h
  rcases h with rfl | rfl | rfl | rfl | rfl | rfl
  · exact ⟨true, true, by decide +kernel, by decide +kernel, rfl⟩
  all_goals exact ⟨false, false, by decide +kernel, by decide +kernel, rfl⟩
theorem kit_tup : ∀ n, NonTup n → kitB n "tuple" = some false := by
  intro n h
  simp only [NonTup, List.mem_cons, List.not_mem_nil, or_false] at h
  rcases h with rfl | rfl | rfl | rfl | rfl | rfl <;> decide +kernel
theorem kit_lst : ∀ n, NonLst n → kitB n "list" = some false := by
  intro n h
  simp only [NonLst, List.mem_cons, List.not_mem_nil, or_false] at h
  rcases h with rfl | rfl | rfl | rfl | rfl | rfl <;> decide +kernel
/-- whether v is a whole number; whether it is a length -/
def Wh (K : PySem.W.Frag) (H : Hp) (v : V) (b : Bool) : Prop := (∃ i : Int, v = .int i ∧ b = true) ∨ (b = false ∧ ∃ n, NonInt n ∧ Ty K H v n)
def Pt (K : PySem.W.Frag) (H : Hp) (v : V) (b : Bool) : Prop := (∃ i : Int, v = .int i ∧ b = decide (0 ≤ i)) ∨ (b = false ∧ ∃ n, NonInt n ∧ Ty K H v n)
/-- whether v is a thing -/
def Tg (K : PySem.W.Frag) (H : Hp) (v : V) (b : Bool) : Prop :=
  (∃ (a : Addr) (xs : List V) (bs : List Bool), v = .ref a ∧ SqT K H a xs ∧ xs.length ≤ 1000 ∧ All2 (Pt K H) xs bs ∧ b = (decide (xs.length = 3) && bs.all id)) ∨ (b = false ∧ ∃ n, NonTup n ∧ Ty K H v n)
/-- whether v is a list of things -/
def Tl (K : PySem.W.Frag) (H : Hp) (v : V) (b : Bool) : Prop :=
  (∃ (l : Addr) (xs : List V) (bs : List Bool), v = .ref l ∧ SqL K H l xs ∧ xs.length ≤ 1000 ∧ All2 (Tg K H) xs bs ∧ b = bs.all id) ∨ (b = false ∧ ∃ n, NonLst n ∧ Ty K H v n)
/-- what stands in a list that might be an order -/
def Sc (K : PySem.W.Frag) (H : Hp) (v : V) (o : Option Int) : Prop := (∃ i : Int, v = .int i ∧ o = some i) ∨ (o = none ∧ ∃ n, NonInt n ∧ Ty K H v n)
/-- v is no order of n things -/
def NoO (K : PySem.W.Frag) (H : Hp) (v : V) (n : Nat) : Prop :=
  (∃ (a : Addr) (xs : List V) (os : List (Option Int)), v = .ref a ∧ SqL K H a xs ∧ xs.length ≤ 1000 ∧ All2 (Sc K H) xs os ∧ ∀ is : List Int, os = is.map some → ordB n is = false) ∨ ∃ t, NonLst t ∧ Ty K H v t
theorem Wh.mono {v : V} {b : Bool} (e : Ex H H') (h : Wh K H v b) : Wh K H' v b := h.imp (fun h => h) fun ⟨h, n, k, t⟩ => ⟨h, n, k, t.mono e⟩
theorem Pt.mono {v : V} {b : Bool} (e : Ex H H') (h : Pt K H v b) : Pt K H' v b := h.imp (fun h => h) fun ⟨h, n, k, t⟩ => ⟨h, n, k, t.mono e⟩
theorem Sc.mono {v : V} {o : Option Int} (e : Ex H H') (h : Sc K H v o) : Sc K H' v o := h.imp (fun h => h) fun ⟨h, n, k, t⟩ => ⟨h, n, k, t.mono e⟩
theorem Tg.mono {v : V} {b : Bool} (e : Ex H H') (h : Tg K H v b) : Tg K H' v b := h.imp (fun ⟨a, xs, bs, h1, h2, h3, h4, h5⟩ => ⟨a, xs, bs, h1, ex_t e h2, h3, h4.imp fun _ _ p => p.mono e, h5⟩) fun ⟨h, n, k, t⟩ => ⟨h, n, k, t.mono e⟩
theorem Tl.mono {v : V} {b : Bool} (e : Ex H H') (h : Tl K H v b) : Tl K H' v b := h.imp (fun ⟨a, xs, bs, h1, h2, h3, h4, h5⟩ => ⟨a, xs, bs, h1, ex_l e h2, h3, h4.imp fun _ _ p => p.mono e, h5⟩) fun ⟨h, n, k, t⟩ => ⟨h, n, k, t.mono e⟩
theorem NoO.mono {v : V} {n : Nat} (e : Ex H H') (h : NoO K H v n) : NoO K H' v n := h.imp (fun ⟨a, xs, bs, h1, h2, h3, h4, h5⟩ => ⟨a, xs, bs, h1, ex_l e h2, h3, h4.imp fun _ _ p => p.mono e, h5⟩) fun ⟨n, k, t⟩ => ⟨n, k, t.mono e⟩
/-! ### values of the text -/
theorem ty_non : Ty K H .non "NoneType" := fun _ _ => .base .non
theorem ty_str {x : Str} : Ty K H (.str x) "str" := fun _ _ => .base (.str x)
theorem ty_bool {b : Bool} : Ty K H (.bl b) "bool" := fun _ _ => .base (.bl b)
theorem ty_dic {a : Addr} {kvs : List (Key × V)} (h : H a = some (.dK kvs)) : Ty K H (.ref a) "dict" := fun H1 e => .base (.dK (e _ _ h))
theorem pt_i {i : Int} {b : Bool} (h : decide (0 ≤ i) = b) : Pt K H (.int i) b := .inl ⟨i, rfl, h.symm⟩
theorem pt_n {v : V} {n : String} (h : Ty K H v n) (k : NonInt n := by decide) : Pt K H v false := .inr ⟨rfl, n, k, h⟩
theorem sc_i {i : Int} : Sc K H (.int i) (some i) := .inl ⟨i, rfl, rfl⟩
theorem sc_n {v : V} {n : String} (h : Ty K H v n) (k : NonInt n := by decide) : Sc K H v none := .inr ⟨rfl, n, k, h⟩
theorem tg_n {v : V} {n : String} (h : Ty K H v n) (k : NonTup n := by decide) : Tg K H v false := .inr ⟨rfl, n, k, h⟩
theorem tl_n {v : V} {n : String} (h : Ty K H v n) (k : NonLst n := by decide) : Tl K H v false := .inr ⟨rfl, n, k, h⟩
theorem tg_t {a : Addr} {xs : List V} {bs : List Bool} (h : H a = some (.tup xs)) (p : All2 (Pt K H) xs bs) (z : xs.length ≤ 1000 := by decide) : Tg K H (.ref a) (decide (xs.length = 3) && bs.all id) := .inl ⟨a, xs, bs, rfl, st_of h, z, p, rfl⟩
theorem tl_l {a : Addr} {xs : List V} {bs : List Bool} (h : SqL K H a xs) (p : All2 (Tg K H) xs bs) (z : xs.length ≤ 1000) : Tl K H (.ref a) (bs.all id) := .inl ⟨a, xs, bs, rfl, h, z, p, rfl⟩
theorem tg_thing {a : Addr} {t : Th} (h : SqT K H a (iv t)) (n : Nn t) : Tg K H (.ref a) true :=
  .inl ⟨a, iv t, [true, true, true], rfl, h, by show 3 ≤ 1000; decide, .cons (pt_i (decide_eq_true n.1)) (.cons (pt_i (decide_eq_true n.2.1)) (.cons (pt_i (decide_eq_true n.2.2)) .nil)), rfl⟩
theorem tgs_ths {l : Addr} {zs : List (Addr × Th)} (h : Ths K H l zs) : All2 (Tg K H) (tv zs) (zs.map fun _ => true) := All2.map _ _ _ fun z hz => tg_thing (h.it z hz) (h.nn z hz)
theorem all_yes {α : Type} (l : List α) : (l.map fun _ => true).all id = true := by
  induction l with
  | nil => rfl
  | cons _ _ ih => exact ih
theorem tl_ths {l : Addr} {zs : List (Addr × Th)} (h : Ths K H l zs) : Tl K H (.ref l) true := .inl ⟨l, _, _, rfl, h.ls, by rw [tv_len]; exact h.le, tgs_ths h, (all_yes zs).symm⟩
end
end Bp
namespace Bp
open PySem L2 Evl
/-! ### messages, calls that may raise -/
theorem fig_few : ∀ n < 1001, (toString ((n : Nat) : Int) : Str).length ≤ 100 := by decide +kernel
theorem fig_fits {i : Int} (h0 : 0 ≤ i) (h1 : i ≤ 1000) : (toString i : Str).length ≤ 100 := by
  obtain ⟨n, rfl⟩ : ∃ n : Nat, i = (n : Int) := ⟨i.toNat, by omega⟩
  exact fig_few n (by omega)
theorem log_few {i : Int} (h0 : 0 ≤ i) (h1 : i ≤ 1000) : i.natAbs.log2 < 1920 := by
  have : i.natAbs < 2 ^ 1920 := Nat.lt_of_lt_of_le (show i.natAbs < 2 ^ 10 by omega) (Nat.pow_le_pow_right (by decide) (by decide))
  rcases Nat.eq_zero_or_pos i.natAbs with h | h
  · rw [h]
    decide
  · exact (Nat.log2_lt (by omega)).mpr this
/-- f"a{i}b" -/
theorem js_num {σ : L2.St} {H : Hp} {te : TE} {a b : Str} {i : Int} {Q : Str → Hp → Prop} (h : Ev te σ H (.int i)) (h0 : 0 ≤ i) (h1 : i ≤ 1000) (ha : a.length ≤ 1000) (hb : b.length ≤ 1000) (q : ∀ out H1, Ex H H1 → Q out H1) : tJs [tC (.str a), tFmt te, tC (.str b)] Str.empty σ H Q := by
  have hf := fig_fits h0 h1
  have e0 : (Str.empty : Str).length = 0 := rfl
  have z : ∀ n, n ≤ 3000 → n ≤ sizeLine := fun n hn => by rw [sizeLine_eq]; omega
  refine ⟨a, rfl, z _ (by rw [Str.length_append, e0]; omega), h H (Ex.refl H) _ fun H1 e1 => .inr ⟨i, rfl, log_few h0 h1, _, rfl, z _ (by rw [Str.length_append, Str.length_append, e0]; omega), b, rfl, z _ (by rw [Str.length_append, Str.length_append, Str.length_append, e0]; omega), q _ H1 e1⟩⟩
/-- f(..) as a row -/
theorem q_ask {σ : L2.St} {H : Hp} {D : Ends} {tz : TS} {sp : Sp} {dvs vs : List V} {E : XK} {ta : TA} (h : EvA ta σ H vs) (k : ∀ H1, Ex H H1 → sp (vs ++ dvs) H1 (fun _ H2 => tz D σ H2) E) : tSeq (tDrop (tCall sp dvs E ta)) tz D σ H := h H (Ex.refl H) _ k
theorem s_ask {σ : L2.St} {H : Hp} {D : Ends} {sp : Sp} {dvs vs : List V} {E : XK} {ta : TA} (h : EvA ta σ H vs) (k : ∀ H1, Ex H H1 → sp (vs ++ dvs) H1 (fun _ H2 => D.nx σ H2) E) : tDrop (tCall sp dvs E ta) D σ H := h H (Ex.refl H) _ k
theorem s_giveX {σ : L2.St} {H : Hp} {D : Ends} {sp : Sp} {dvs vs : List V} {E : XK} {ta : TA} (h : EvA ta σ H vs) (k : ∀ H1, Ex H H1 → sp (vs ++ dvs) H1 D.rt E) : tRet (tCall sp dvs E ta) D σ H := h H (Ex.refl H) _ k
end Bp
namespace Bp
open PySem L2 Evl
/-! ### texts out of lists -/
def rJoin (K : PySem.W.Frag) : V → List V → Hp → VK → Prop := fun x xs H Q => ∃ a p, ∃ ys : List Str, x = .str a ∧ xs = [.ref p] ∧ (SqL K H p (ys.map V.str) ∨ SqT K H p (ys.map V.str)) ∧ (ys.map (·.length)).sum + ys.length * a.length ≤ 16777216 ∧ Q (.str (Txt.join a ys)) H
def rStrI : List V → Hp → VK → Prop := fun xs H Q => ∃ i, xs = [.int i] ∧ i.natAbs.log2 < 1920 ∧ Q (.str (toString i)) H
theorem ev_joinL {K : PySem.W.Frag} {σ : L2.St} {H : Hp} {te : TE} {a : Str} {ys : List Str} (h : EvL te σ H (ys.map V.str)) (hz : (ys.map (·.length)).sum + ys.length * a.length ≤ 16777216) : Ev (tM1 (rJoin K) (tC (.str a)) te) σ H (.str (Txt.join a ys)) := fun H1 e Q q =>
  ⟨⟨a, rfl⟩, h H1 e _ fun p H2 _ e2 hp => ⟨a, p, ys, rfl, rfl, .inl (sq_of hp), hz, q H2 e2⟩⟩
theorem rc_strI {i : Int} {H : Hp} (h : i.natAbs.log2 < 1920) : RC rStrI [.int i] H (.str (toString i)) := fun H1 e Q q => ⟨i, rfl, h, q H1 (Ex.refl H1)⟩
theorem log_of {i : Int} (h0 : 0 ≤ i) (h1 : i < 10 ^ 60) : i.natAbs.log2 < 1920 := by
  have : i.natAbs < 2 ^ 1920 := Nat.lt_of_lt_of_le (show i.natAbs < 10 ^ 60 by omega) (by decide +kernel)
  rcases Nat.eq_zero_or_pos i.natAbs with h | h
  · rw [h]
    decide
  · exact (Nat.log2_lt (by omega)).mpr this
theorem et_truL {K : PySem.W.Frag} {σ : L2.St} {H : Hp} {te : TE} {a : Addr} {xs : List V} (h : Ev te σ H (.ref a)) (hs : SqL K H a xs) : EvT (fun σ H Q => te σ H fun x H' => ∃ k, TruV K x H' k ∧ Q k H') σ H (!xs.isEmpty) := fun H1 e Q q =>
  h H1 e _ fun H2 e2 => ⟨_, .inl ⟨xs, ex_l (e.trans e2) hs, rfl⟩, q H2 e2⟩
/-- a thing as a text -/
def wTh (t : Th) : Str := Txt.join "/" [(toString t.1 : Str), (toString t.2.1 : Str), (toString t.2.2 : Str)]
def wThs (ts : List Th) : Str := Txt.join " " (ts.map wTh)
/-- a length of at most sixty figures -/
def Sh (t : Th) : Prop := t.1 < 10 ^ 60 ∧ t.2.1 < 10 ^ 60 ∧ t.2.2 < 10 ^ 60
theorem num_le {i : Int} (h0 : 0 ≤ i) (h1 : i < 10 ^ 60) : (toString i : Str).length ≤ 60 := PyProof.Rows.toString_length_le h0 (by decide) h1
theorem join_le (a : Str) : ∀ ys : List Str, (Txt.join a ys).length ≤ (ys.map (·.length)).sum + ys.length * a.length
  | [] => by
    rw [TL.join_eq]
    exact Nat.zero_le _
  | [y] => by
    rw [TL.join_eq]
    show y.length ≤ _
    simp only [List.map_cons, List.map_nil, List.sum_cons, List.sum_nil]
    omega
  | y :: z :: r => by
    have ih := join_le a (z :: r)
    rw [TL.join_eq] at ih ⊢
    show (y ++ a ++ Str.join a (z :: r)).length ≤ _
    rw [Str.length_append, Str.length_append, List.map_cons, List.sum_cons, List.length_cons, Nat.add_mul]
    omega
theorem wTh_le {t : Th} (n : Nn t) (s : Sh t) : (wTh t).length ≤ 183 := by
  have h := join_le "/" [(toString t.1 : Str), (toString t.2.1 : Str), (toString t.2.2 : Str)]
  have a := num_le n.1 s.1
  have b := num_le n.2.1 s.2.1
  have c := num_le n.2.2 s.2.2
  have d : ("/" : Str).length = 1 := rfl
  simp only [List.map_cons, List.map_nil, List.sum_cons, List.sum_nil, List.length_cons, List.length_nil] at h
  unfold wTh
  omega
theorem sum_le {α : Type} (f : α → Nat) (m : Nat) : ∀ l : List α, (∀ x ∈ l, f x ≤ m) → (l.map f).sum ≤ l.length * m
  | [], _ => Nat.zero_le _
  | x :: l, h => by
    have ih := sum_le f m l fun y hy => h y (List.mem_cons_of_mem _ hy)
    have h1 := h x List.mem_cons_self
    rw [List.map_cons, List.sum_cons, List.length_cons, Nat.add_mul]
    omega
end Bp
namespace Bp
open PySem L2 Evl
/-! ### displays whose parts are new objects: what is known of the parts -/
/-- a heap as it is looked at: the whole, or all but one list that is still written -/
structure Vw (H : Hp) (vw : Hp → Hp) : Prop where
  mono : ∀ A B, Ex A B → Ex (vw A) (vw B)
  new : ∀ A t o, Ex H A → A t = none → vw (upd A t o) t = some o
  less : ∀ A, Ex (vw A) A
theorem vw_id (H : Hp) : Vw H id := ⟨fun _ _ e => e, fun _ _ _ _ _ => upd_same, fun A => Ex.refl A⟩
/-- all but p -/
def wo (p : Addr) (H : Hp) : Hp := fun b => if b = p then none else H b
theorem wo_same {p : Addr} {H : Hp} : wo p H p = none := by unfold wo; rw [if_pos rfl]
theorem wo_ne {p b : Addr} {H : Hp} (h : b ≠ p) : wo p H b = H b := by unfold wo; rw [if_neg h]
theorem wo_upd {p : Addr} {H : Hp} {o : HO} : wo p (upd H p o) = wo p H := by
  funext b
  by_cases h : b = p
  · rw [h, wo_same, wo_same]
  · rw [wo_ne h, wo_ne h, upd_ne h]
theorem wo_none {p : Addr} {H : Hp} (h : H p = none) : wo p H = H := by
  funext b
  by_cases e : b = p
  · rw [e, wo_same, h]
  · exact wo_ne e
theorem wo_less (p : Addr) (H : Hp) : Ex (wo p H) H := fun b o h => by
  by_cases e : b = p
  · rw [e, wo_same] at h
    cases h
  · rw [wo_ne e] at h
    exact h
theorem wo_mono {p : Addr} {A B : Hp} (e : Ex A B) : Ex (wo p A) (wo p B) := fun b o h => by
  have n : b ≠ p := fun z => by
    rw [z, wo_same] at h
    cases h
  rw [wo_ne n] at h ⊢
  exact e b o h
theorem wo_into {p : Addr} {A B : Hp} (e : Ex A B) (n : A p = none) : Ex A (wo p B) := fun b o h => by
  rw [wo_ne (ne_of_none h n)]
  exact e b o h
theorem vw_wo {H : Hp} {p : Addr} {o : HO} (h : H p = some o) : Vw H (wo p) := ⟨fun _ _ e => wo_mono e, fun A t u e n => by
  have ne : t ≠ p := fun z => by rw [z, e _ _ h] at n; cases n
  rw [wo_ne ne, upd_same], fun A => wo_less p A⟩
section
variable {σ : L2.St} {H : Hp} {te : TE} {ta ts : TA} {β : Type} {R : Hp → V → β → Prop}
/-- e gives a value of which R holds -/
def EvR (te : TE) (σ : L2.St) (H : Hp) (R : Hp → V → Prop) : Prop := ∀ H1, Ex H H1 → ∀ Q : VK, (∀ v H2, Ex H1 H2 → R H2 v → Q v H2) → te σ H1 Q
def EvAR (ta : TA) (σ : L2.St) (H : Hp) (R : Hp → V → β → Prop) (bs : List β) : Prop := ∀ H1, Ex H H1 → ∀ Q : List V → Hp → Prop, (∀ vs H2, Ex H1 H2 → All2 (R H2) vs bs → Q vs H2) → ta σ H1 Q
def Grow (R : Hp → V → β → Prop) : Prop := ∀ A B v b, Ex A B → R A v b → R B v b
theorem ar_nil : EvAR tNil σ H R [] := fun H1 _ Q q => q [] H1 (Ex.refl H1) .nil
theorem ar_cons {b : β} {bs : List β} (g : Grow R) (h : EvR te σ H fun A v => R A v b) (hs : EvAR ts σ H R bs) : EvAR (tCons te ts) σ H R (b :: bs) := fun H1 e Q q =>
  h H1 e _ fun v H2 e2 r => hs H2 (e.trans e2) _ fun vs H3 e3 rs => q (v :: vs) H3 (e2.trans e3) (.cons (g _ _ _ _ e3 r) rs)
theorem er_v {S : Hp → V → Prop} {v : V} (h : Ev te σ H v) (r : ∀ H1, Ex H H1 → S H1 v) : EvR te σ H S := fun H1 e Q q => h H1 e _ fun H2 e2 => q v H2 e2 (r H2 (e.trans e2))
theorem er_l {S : Hp → V → Prop} {xs : List V} (h : EvL te σ H xs) (r : ∀ p H1, Ex H H1 → H1 p = some (.lst xs) → S H1 (.ref p)) : EvR te σ H S := fun H1 e Q q => h H1 e _ fun p H2 _ e2 hp => q _ H2 e2 (r p H2 (e.trans e2) hp)
theorem er_u {S : Hp → V → Prop} {xs : List V} (h : EvU te σ H xs) (r : ∀ p H1, Ex H H1 → H1 p = some (.tup xs) → S H1 (.ref p)) : EvR te σ H S := fun H1 e Q q => h H1 e _ fun p H2 _ e2 hp => q _ H2 e2 (r p H2 (e.trans e2) hp)
theorem er_imp {S S' : Hp → V → Prop} (h : EvR te σ H S) (i : ∀ H1 v, Ex H H1 → S H1 v → S' H1 v) : EvR te σ H S' := fun H1 e Q q => h H1 e Q fun v H2 e2 s => q v H2 e2 (i H2 v (e.trans e2) s)
theorem EvR.mono {S : Hp → V → Prop} {H' : Hp} (e : Ex H H') (h : EvR te σ H S) : EvR te σ H' S := fun H1 a Q q => h H1 (e.trans a) Q q
/-- [e, ..] -/
theorem er_lst {bs : List β} (g : Grow R) (h : EvAR ta σ H R bs) (hz : bs.length ≤ 100000) {S : Hp → V → Prop} (r : ∀ p A xs, Ex H A → A p = none → All2 (R A) xs bs → S (upd A p (.lst xs)) (.ref p)) : EvR (tLst ta) σ H S := fun H1 e Q q =>
  h H1 e _ fun xs H2 e2 rs => ⟨sz_of (by rw [rs.len]; exact hz), fun p np => q (.ref p) _ (e2.trans (Ex.new np)) (r p H2 xs (e.trans e2) np rs)⟩
/-- (e, ..) -/
theorem er_tup {bs : List β} (g : Grow R) (h : EvAR ta σ H R bs) (hz : bs.length ≤ 100000) {S : Hp → V → Prop} (r : ∀ p A xs, Ex H A → A p = none → All2 (R A) xs bs → S (upd A p (.tup xs)) (.ref p)) : EvR (tTup ta) σ H S := fun H1 e Q q =>
  h H1 e _ fun xs H2 e2 rs => ⟨sz_of (by rw [rs.len]; exact hz), fun p np => q (.ref p) _ (e2.trans (Ex.new np)) (r p H2 xs (e.trans e2) np rs)⟩
end
section
variable {K : PySem.W.Frag} {σ : L2.St} {H : Hp} {te : TE} {ta ts : TA} {vw : Hp → Hp}
theorem grow_pt (w : Vw H vw) : Grow fun A v b => Pt K (vw A) v b := fun A B v b e h => h.mono (w.mono A B e)
theorem grow_tg (w : Vw H vw) : Grow fun A v b => Tg K (vw A) v b := fun A B v b e h => h.mono (w.mono A B e)
theorem grow_tl (w : Vw H vw) : Grow fun A v b => Tl K (vw A) v b := fun A B v b e h => h.mono (w.mono A B e)
theorem grow_sc (w : Vw H vw) : Grow fun A v b => Sc K (vw A) v b := fun A B v b e h => h.mono (w.mono A B e)
theorem grow_no (w : Vw H vw) : Grow fun A v n => NoO K (vw A) v n := fun A B v b e h => h.mono (w.mono A B e)
/-- a part -/
theorem p_i {i : Int} {b : Bool} (h : Ev te σ H (.int i)) (hb : decide (0 ≤ i) = b) : EvR te σ H fun A v => Pt K (vw A) v b := er_v h fun _ _ => pt_i hb
theorem p_s {v : V} {n : String} (h : Ev te σ H v) (t : ∀ A, Ty K A v n) (k : NonInt n := by decide) : EvR te σ H fun A v => Pt K (vw A) v false := er_v h fun _ _ => pt_n (t _) k
/-- a would-be thing -/
theorem g_tup {bs : List Bool} (w : Vw H vw) (h : EvAR ta σ H (fun A v b => Pt K (vw A) v b) bs) (hz : bs.length ≤ 1000) {b : Bool} (hb : (decide (bs.length = 3) && bs.all id) = b) : EvR (tTup ta) σ H fun A v => Tg K (vw A) v b :=
  er_tup (grow_pt w) h (by omega) fun p A xs e np rs => by
    have l := rs.len
    refine .inl ⟨p, xs, bs, rfl, st_of (w.new A p _ e np), by omega, rs.imp fun v c r => r.mono (w.mono _ _ (Ex.new np)), by rw [l, hb]⟩
theorem g_s {v : V} {n : String} (h : Ev te σ H v) (t : ∀ A, Ty K A v n) (k : NonTup n := by decide) : EvR te σ H fun A v => Tg K (vw A) v false := er_v h fun _ _ => tg_n (t _) k
theorem ty_l {A : Hp} {p : Addr} {xs : List V} (h : A p = some (.lst xs)) : Ty K A (.ref p) "list" := ty_lst (sq_of h)
theorem ty_t {A : Hp} {p : Addr} {xs : List V} (h : A p = some (.tup xs)) : Ty K A (.ref p) "tuple" := ty_tup (st_of h)
theorem g_lst {β : Type} {R : Hp → V → β → Prop} {bs : List β} (w : Vw H vw) (g : Grow R) (h : EvAR ta σ H R bs) (hz : bs.length ≤ 1000) : EvR (tLst ta) σ H fun A v => Tg K (vw A) v false :=
  er_lst g h (by omega) fun p A xs e np _ => tg_n (ty_l (w.new A p _ e np))
/-- would-be things -/
theorem l_lst {bs : List Bool} (w : Vw H vw) (h : EvAR ta σ H (fun A v b => Tg K (vw A) v b) bs) (hz : bs.length ≤ 1000) {b : Bool} (hb : bs.all id = b) : EvR (tLst ta) σ H fun A v => Tl K (vw A) v b :=
  er_lst (grow_tg w) h (by omega) fun p A xs e np rs => by
    have l := rs.len
    exact .inl ⟨p, xs, bs, rfl, sq_of (w.new A p _ e np), by omega, rs.imp fun v c r => r.mono (w.mono _ _ (Ex.new np)), hb.symm⟩
theorem l_s {v : V} {n : String} (h : Ev te σ H v) (t : ∀ A, Ty K A v n) (k : NonLst n := by decide) : EvR te σ H fun A v => Tl K (vw A) v false := er_v h fun _ _ => tl_n (t _) k
theorem l_tup {β : Type} {R : Hp → V → β → Prop} {bs : List β} (w : Vw H vw) (g : Grow R) (h : EvAR ta σ H R bs) (hz : bs.length ≤ 1000) : EvR (tTup ta) σ H fun A v => Tl K (vw A) v false :=
  er_tup g h (by omega) fun p A xs e np _ => tl_n (ty_t (w.new A p _ e np))
theorem er_dic {S : Hp → V → Prop} (r : ∀ p A, Ex H A → A p = none → S (upd A p (.dK [])) (.ref p)) : EvR tDNewK σ H S := fun H1 e Q q p np => q (.ref p) _ (Ex.new np) (r p H1 e np)
theorem l_dic (w : Vw H vw) : EvR tDNewK σ H fun A v => Tl K (vw A) v false := er_dic fun p A e np => tl_n (ty_dic (w.new A p _ e np))
/-- no order -/
theorem o_s {v : V} {n : String} {m : Nat} (h : Ev te σ H v) (t : ∀ A, Ty K A v n) (k : NonLst n := by decide) : EvR te σ H fun A v => NoO K (vw A) v m := er_v h fun _ _ => .inr ⟨n, k, t _⟩
theorem o_dic {m : Nat} (w : Vw H vw) : EvR tDNewK σ H fun A v => NoO K (vw A) v m := er_dic fun p A e np => .inr ⟨"dict", by decide, ty_dic (w.new A p _ e np)⟩
theorem no_ints {A : Hp} {p : Addr} {is : List Int} {m : Nat} (h : A p = some (.lst (is.map V.int))) (hz : is.length ≤ 1000) (no : ordB m is = false) : NoO K A (.ref p) m :=
  .inl ⟨p, is.map V.int, is.map some, rfl, sq_of h, by rw [List.length_map]; exact hz, All2.map _ _ _ fun _ _ => sc_i, fun js e => by
    have : is = js := by
      have := congrArg (List.map fun o : Option Int => o.getD 0) e
      simpa [List.map_map, Function.comp_def] using this
    rw [← this]
    exact no⟩
/-- a list with a place that holds no number -/
theorem no_none {A : Hp} {p : Addr} {xs : List V} {os : List (Option Int)} {m : Nat} (h : A p = some (.lst xs)) (hz : xs.length ≤ 1000) (r : All2 (Sc K A) xs os) (no : none ∈ os) : NoO K A (.ref p) m :=
  .inl ⟨p, xs, os, rfl, sq_of h, hz, r, fun js e => by
    rw [e] at no
    obtain ⟨j, _, hj⟩ := List.mem_map.mp no
    cases hj⟩
theorem scs_ints {A : Hp} (is : List Int) : All2 (Sc K A) (is.map V.int) (is.map some) := All2.map _ _ _ fun _ _ => sc_i
end
/-- text * number -/
def rMulS : R2 := fun x y H Q => ∃ (z : Str) (n : Int), x = .str z ∧ y = .int n ∧ PySem.MulOk z n ∧ Q (.str (Txt.mul z n)) H
theorem op_mulS {X : Cx} : OpR X (binaryOp .Mult) rMulS := by
  intro pins s σ H x y v u Q I rx ry h
  obtain ⟨z, n, rfl, rfl, ok, q⟩ := h
  obtain ⟨t, rfl⟩ := rx
  obtain ⟨t', rfl⟩ := ry
  exact PySem.SB.mul ok fun t' k => ⟨.str _, H, I.tok _, ⟨_, rfl⟩, q⟩
end Bp
namespace Bp
open PySem L2 Evl
/-! ### the text by places -/
def top (i : Nat) : Stmt := PySem.Challenge.pw_benchpair_k06_refused.main.body.getD i (.Pass ⟨0, 0, 0, 0⟩)
abbrev sWhole : Stmt := top 7
abbrev sLen : Stmt := top 8
abbrev sThing : Stmt := top 9
abbrev sOrder : Stmt := top 10
abbrev sCkT : Stmt := top 11
abbrev sCkO : Stmt := top 12
abbrev sMake : Stmt := top 13
abbrev sDone : Stmt := top 14
abbrev sStarts : Stmt := top 15
abbrev sRising : Stmt := top 17
abbrev sSeen : Stmt := top 18
abbrev sPart : Stmt := top 19
abbrev sStand : Stmt := top 20
abbrev sReach : Stmt := top 21
abbrev sIsBar : Stmt := top 22
abbrev sWorth : Stmt := top 23
abbrev kAnswer : Stmt := top 25
abbrev kSoonest : Stmt := top 26
abbrev iSoonest : Stmt := inClass (top 26) 0
abbrev mSoonest : Stmt := inClass (top 26) 1
abbrev kWithin : Stmt := top 27
abbrev iWithin : Stmt := inClass (top 27) 0
abbrev mWithin : Stmt := inClass (top 27) 1
abbrev kNever : Stmt := top 28
abbrev iNever : Stmt := inClass (top 28) 0
abbrev mNever : Stmt := inClass (top 28) 1
abbrev sCkTime : Stmt := top 30
abbrev sJo : Stmt := top 31
abbrev sLast : Stmt := top 32
abbrev sFind : Stmt := top 33
abbrev sSoonest : Stmt := top 34
abbrev sWithin : Stmt := top 35
abbrev sShort : Stmt := top 38
abbrev sCkS : Stmt := top 39
abbrev sWritten : Stmt := top 40
abbrev sCell : Stmt := top 42
abbrev sDraw : Stmt := top 43
abbrev sThings : Stmt := top 44
abbrev sLdone : Stmt := top 45
abbrev sLorder : Stmt := top 46
abbrev sLworth : Stmt := top 47
abbrev sLwhole : Stmt := top 48
abbrev sKinds : Stmt := top 49
abbrev sWithT : Stmt := top 50
abbrev sWithO : Stmt := top 51
abbrev sWithS : Stmt := top 52
abbrev sTold : Stmt := top 53
abbrev sLaw : Stmt := top 54
end Bp
namespace Bp
open PySem L2 Evl
/-! ### what the program's defs promise of values of any kind -/
/-- an own class of errors -/
structure XC (K : PySem.W.Frag) (mg : Str → Option Value) (x : Str) (C : Addr) : Prop where
  g : mg x = some (.ref C)
  q : PySem.W.excIn K C [.type "ValueError", .type "Exception", .type "BaseException", .type "object"] "ValueError.__new__" = true
  k : PySem.W.keepIn K (.ref C) = true
  b : PySem.W.subIn K (.ref C) (.type "BaseException") = some true
  t : PySem.W.typeIn K (.ref C) = some (.type "type")
def Refuse (C : Addr) (H : Hp) (E : XK) : Prop := ∀ H1, Ex H H1 → E (.ref C) none H1
theorem Refuse.go {C : Addr} {H H1 : Hp} {E : XK} (r : Refuse C H E) (e : Ex H H1) : E (.ref C) none H1 := r H1 e
/-- the built-ins that the text names -/
structure Bn (mg : Str → Option Value) : Prop where
  isi : mg "isinstance" = none
  int : mg "int" = none
  bool : mg "bool" = none
  tuple : mg "tuple" = none
  len : mg "len" = none
  all : mg "all" = none
  list : mg "list" = none
  enum : mg "enumerate" = none
  range : mg "range" = none
  str : mg "str" = none
  verr : mg "ValueError" = none
def spWholeX (K : PySem.W.Frag) : Sp := fun vs H Q _ => ∃ (v : V) (b : Bool), vs = [v] ∧ Wh K H v b ∧ RetV (.bl b) H Q
def spLenX (K : PySem.W.Frag) : Sp := fun vs H Q _ => ∃ (v : V) (b : Bool), vs = [v] ∧ Pt K H v b ∧ RetV (.bl b) H Q
def spThingX (K : PySem.W.Frag) : Sp := fun vs H Q _ => ∃ (v : V) (b : Bool), vs = [v] ∧ Tg K H v b ∧ RetV (.bl b) H Q
def spNoOrder (K : PySem.W.Frag) : Sp := fun vs H Q _ => ∃ (v : V) (n : Nat), vs = [v, .int (n : Int)] ∧ n ≤ 1000 ∧ NoO K H v n ∧ RetV (.bl false) H Q
def spCkTX (K : PySem.W.Frag) (C : Addr) : Sp := fun vs H Q E => ∃ (v : V) (b : Bool), vs = [v] ∧ Tl K H v b ∧ (b = true → RetV .non H Q) ∧ (b = false → Refuse C H E)
def spCkOX (K : PySem.W.Frag) (C : Addr) : Sp := fun vs H Q E => ∃ (v : V) (n : Nat), vs = [v, .int (n : Int)] ∧ n ≤ 1000 ∧ NoO K H v n ∧ Refuse C H E
section
variable {P : Program} {w : World} {K : PySem.W.Frag} {mg : Str → Option Value} {base : Heap}
theorem scWhole : FnScope ["value"] ["value"] (defScope sWhole) := ⟨rfl, rfl, rfl, by decide +kernel, rfl, by decide +kernel, by decide +kernel⟩
theorem ok_whole {f : Addr} {fd : FuncData} (F : Fun K "is_whole" "is_whole" sWhole f fd) (T : Bn mg) : FnOk P w K mg base CX0 1 f fd ["value"] (spWholeX K) := by
  refine F.ok scWhole (fun vs H Q E h => ?_) (fun cdv A outer s H vs Q E hr h => ?_)
  · obtain ⟨v, b, rfl, _⟩ := h
    rfl
  · obtain ⟨v, b, rfl, hv, k⟩ := h
    refine ⟨_, pss_one (ps_ret (pe_and (pe_callB call_isi (by rfl) T.isi (by decide +kernel) (pa_cons (pv 0) (pa_cons (pe_bltn (v := .ty "int") (by rfl) T.int PyProof.Rows.boot_int rfl) pa_nil)))
      (pe_one (pe_not (pe_callB call_isi (by rfl) T.isi (by decide +kernel) (pa_cons (pv 0) (pa_cons (pe_bltn (v := .ty "bool") (by rfl) T.bool PyProof.Rows.boot_bool rfl) pa_nil))))))), ?_⟩
    obtain ⟨n, b1, b2, k1, k2, hb, ty⟩ : ∃ n b1 b2, kitB n "int" = some b1 ∧ kitB n "bool" = some b2 ∧ (b1 && !b2) = b ∧ Ty K H v n := by
      rcases hv with ⟨i, rfl, rfl⟩ | ⟨rfl, n, hn, ty⟩
      · exact ⟨"int", true, false, by decide +kernel, by decide +kernel, rfl, ty_int⟩
      · obtain ⟨b1, b2, k1, k2, k3⟩ := kit_int n hn
        exact ⟨n, b1, b2, k1, k2, k3, ty⟩
    subst hb
    exact s_ret (v := .bl (b1 && !b2)) (ev_andV (ev_cb (ea_cons (ev_var rfl) (ea_cons ev_c ea_nil)) (rc_isi ty k1)) fun _ =>
      ev_notV (ev_cb (ea_cons (ev_var rfl) (ea_cons ev_c ea_nil)) (rc_isi ty k2))) fun H1 e => k.go e
theorem scLen : FnScope ["value"] ["value"] (defScope sLen) := ⟨rfl, rfl, rfl, by decide +kernel, rfl, by decide +kernel, by decide +kernel⟩
theorem ok_len {f fW : Addr} {fd fdW : FuncData} (F : Fun K "is_length" "is_length" sLen f fd) (T : Bn mg) (gW : mg "is_whole" = some (.ref fW)) (FW : Fun K "is_whole" "is_whole" sWhole fW fdW) (bW : Binds K fdW ["value"] []) : FnOk P w K mg base CX0 2 f fd ["value"] (spLenX K) := by
  have GW : FnOk P w K mg base CX0 1 fW fdW ["value"] (spWholeX K) := ok_whole FW T
  refine F.ok scLen (fun vs H Q E h => ?_) (fun cdv A outer s H vs Q E hr h => ?_)
  · obtain ⟨v, b, rfl, _⟩ := h
    rfl
  · obtain ⟨v, b, rfl, hv, k⟩ := h
    refine ⟨_, pss_one (ps_ret (pe_and (pe_call GW hr (by rfl) gW FW.kp bW .nil pass0 (pa_cons (pv 0) pa_nil)) (pe_one (pe_cmpR op_ge (pv 0) pe_int (nomark _))))), ?_⟩
    rcases hv with ⟨i, rfl, rfl⟩ | ⟨rfl, n, hn, ty⟩
    · exact s_ret (v := .bl (true && decide (0 ≤ i))) (ev_andV (ev_call (ea_cons (ev_var rfl) ea_nil) fun H1 e Q q E => ⟨_, _, rfl, .inl ⟨i, rfl, rfl⟩, q⟩) fun _ => ev_op (ev_var rfl) ev_c rv_I0) fun H1 e => k.go e
    · exact s_ret (v := .bl (false && true)) (ev_andV (ev_call (ea_cons (ev_var rfl) ea_nil) fun H1 e Q q E => ⟨_, _, rfl, .inr ⟨rfl, n, hn, ty.mono e⟩, q⟩) fun q => by cases q) fun H1 e => k.go e
theorem scThing : FnScope ["value", "part"] ["value"] (defScope sThing) := ⟨rfl, rfl, rfl, by decide +kernel, rfl, by decide +kernel, by decide +kernel⟩
theorem ok_thing {f fL : Addr} {fd fdL : FuncData} (F : Fun K "is_thing" "is_thing" sThing f fd) (T : Bn mg) (gL : mg "is_length" = some (.ref fL)) (FL : Fun K "is_length" "is_length" sLen fL fdL) (bL : Binds K fdL ["value"] []) (GL : FnOk P w K mg base CX0 2 fL fdL ["value"] (spLenX K)) : FnOk P w K mg base CX0 3 f fd ["value"] (spThingX K) := by
  refine F.ok scThing (fun vs H Q E h => ?_) (fun cdv A outer s H vs Q E hr h => ?_)
  · obtain ⟨v, b, rfl, _⟩ := h
    rfl
  · obtain ⟨v, b, rfl, hv, k⟩ := h
    refine ⟨_, pss_cons (ps_if (PW.pt (pw_or (pt_not (pt_val (pe_callB call_isi (by rfl) T.isi (by decide +kernel) (pa_cons (pv 0) (pa_cons (pe_bltn (v := .ty "tuple") (by rfl) T.tuple PyProof.Rows.boot_tuple rfl) pa_nil)))))
        (pw_or1 (pt_cmpR op_ne (pe_callB call_len_seq (by rfl) T.len PySem.boot_len (pa_cons (pv 0) pa_nil)) pe_int (nomark _))))) (pss_one (ps_ret pe_bl)) pss_nil)
      (pss_one (ps_ret (pe_callB (cr_all rfl) (by rfl) T.all (by decide +kernel) (pa_cons (pe_lc (own := [("part", 1)]) (g := gName 1) (tt := tYes) rfl scThing.nd (pi_tup (pv 0)) (blkOk_by (N := ["value", "part"]) (sc := defScope sThing) (by decide +kernel))
        (fun _ _ _ _ _ => pg_name (i := 1) scThing.nd rfl (Or.inl rfl)) (fun _ _ _ _ _ => pts_nil) (fun _ _ _ _ _ => pe_call GL hr (by rfl) gL FL.kp bL .nil pass0 (pa_cons (pv 1) pa_nil))) pa_nil)))), ?_⟩
    rcases hv with ⟨a, xs, bs, rfl, hS, hz, hp, rfl⟩ | ⟨rfl, n, hn, ty⟩
    · refine q_when (et_or (et_not (et_B (ev_cb (ea_cons (ev_var rfl) (ea_cons ev_c ea_nil)) (rc_isi (ty_tup hS) (b := true) (by decide +kernel))))) fun _ =>
        et_test (ev_op (ev_cb (ea_cons (ev_var rfl) ea_nil) (rc_lenT hS)) ev_c (rv_ne rfl))) (fun hb H1 e1 => ?_) (fun hb H1 e1 => ?_)
      · have h3 : xs.length ≠ 3 := fun z => by
          rw [z] at hb
          revert hb
          decide +kernel
        rw [decide_eq_false h3] at k
        exact s_ret ev_c fun H2 e2 => k.go (e1.trans e2)
      · have h3 : xs.length = 3 := by
          have : decide (V.int (xs.length : Int) = V.int 3) = true := by simpa using hb
          have := V.int.inj (of_decide_eq_true this)
          omega
        rw [decide_eq_true h3, Bool.true_and] at k
        refine s_ret (ev_cbL (el_lcT (xs := xs) (fun _ => true) (fun i => .bl (bs.getD i false)) (ev_var rfl) (ex_t e1 hS) (by omega) (fun x => rfl) (fun i x H2 e2 hi => et_yes) fun i x H2 e2 hi _ => ?_) fun p H2 e2 h2 => ?_) fun H2 e2 => k.go (e1.trans e2)
        · obtain ⟨c, hc, pc⟩ := hp.get hi
          rw [List.getD_eq_getElem?_getD, hc]
          exact ev_call (ea_cons (ev_var rfl) ea_nil) fun H3 e3 Q q E => ⟨x, c, rfl, pc.mono ((e1.trans e2).trans e3), q⟩
        · have hl := hp.len
          rw [hl, given_bools bs false (fun b => b), List.map_id'] at h2
          exact rc_all (sq_of h2)
    · refine q_when (b := true) (et_is (et_or (a := true) (b := true) (et_is (et_not (et_B (ev_cb (ea_cons (ev_var rfl) (ea_cons ev_c ea_nil)) (rc_isi ty (kit_tup n hn))))) rfl) fun q => by cases q) rfl) (fun _ H1 e1 => ?_) (fun q => by cases q)
      exact s_ret ev_c fun H2 e2 => k.go (e1.trans e2)
theorem scOrder : FnScope ["value", "many", "told", "count"] ["value", "many"] (defScope sOrder) := ⟨rfl, rfl, rfl, by decide +kernel, rfl, by decide +kernel, by decide +kernel⟩
theorem ok_order {f fW : Addr} {fd fdW : FuncData} (F : Fun K "is_order" "is_order" sOrder f fd) (T : Bn mg) (gW : mg "is_whole" = some (.ref fW)) (FW : Fun K "is_whole" "is_whole" sWhole fW fdW) (bW : Binds K fdW ["value"] []) (GW : FnOk P w K mg base CX0 1 fW fdW ["value"] (spWholeX K)) : FnOk P w K mg base CX0 2 f fd ["value", "many"] (spNoOrder K) := by
  refine F.ok scOrder (fun vs H Q E h => ?_) (fun cdv A outer s H vs Q E hr h => ?_)
  · obtain ⟨v, n, rfl, _⟩ := h
    rfl
  · obtain ⟨v, n, rfl, hz, hv, k⟩ := h
    refine ⟨_, pss_cons (ps_if (PW.pt (pw_or (pt_not (pt_val (pe_callB call_isi (by rfl) T.isi (by decide +kernel) (pa_cons (pv 0) (pa_cons (pe_bltn (v := .ty "list") (by rfl) T.list PyProof.Rows.boot_list rfl) pa_nil)))))
        (pw_or1 (pt_cmpR op_ne (pe_callB call_len_seq (by rfl) T.len PySem.boot_len (pa_cons (pv 0) pa_nil)) (pv 1) (nomark _))))) (pss_one (ps_ret pe_bl)) pss_nil)
      (pss_cons (ps_set (i := 2) scOrder.nd rfl (Or.inl rfl) (pe_op op_rep (pe_lst (pa_cons pe_bl pa_nil)) (pv 1)))
      (pss_cons (ps_for PassesOwn.never rfl (pi_list (pv 0)) (pg_name (i := 3) scOrder.nd rfl (Or.inl rfl))
        (pss_cons (ps_if (PW.pt (pw_or (pt_not (pt_val (pe_call GW hr (by rfl) gW FW.kp bW .nil pass0 (pa_cons (pv 3) pa_nil)))) (pw_or (pt_not (pt_chain op_le op_lt pe_int (pv 3) (pv 1))) (pw_or1 (pt_val (pe_ix ix_list (pv 2) (pv 3) (fun _ _ => rfl))))))) (pss_one (ps_ret pe_bl)) pss_nil)
        (pss_one (ps_asg pe_bl (pg_sub (pv 2) (pv 3) set_list)))))
      (pss_one (ps_ret pe_bl)))), ?_⟩
    rcases hv with ⟨a, xs, os, rfl, hS, hsz, hp, hno⟩ | ⟨t, ht, ty⟩
    · refine q_when (et_or (et_not (et_B (ev_cb (ea_cons (ev_var rfl) (ea_cons ev_c ea_nil)) (rc_isi (ty_lst hS) (b := true) (by decide +kernel))))) fun _ =>
        et_test (ev_op (ev_cb (ea_cons (ev_var rfl) ea_nil) (rc_lenL hS)) (ev_var rfl) (rv_ne rfl))) (fun hb H1 e1 => s_ret ev_c fun H2 e2 => k.go (e1.trans e2)) (fun hb H1 e1 => ?_)
      have hl : xs.length = n := by
        have : decide (V.int (xs.length : Int) = V.int (n : Int)) = true := by simpa using hb
        have := V.int.inj (of_decide_eq_true this)
        omega
      clear hb
      refine q_asgL (el_rep (n := n) (el_lst (ea_cons ev_c ea_nil) (by decide)) (fun H2 e2 => ev_var rfl) hz) fun m H2 nm e2 h2 => ?_
      have nm0 : H m = none := fresh_back e1 nm
      refine q_forLn (a := a) (xs := xs) (ev_var rfl) (ex_l (e1.trans e2) hS) (fun i σ' H' => ∃ (v : Option V) (is : List Int), σ' = [some (.ref a), some (.int (n : Int)), some (.ref m), v] ∧ Ex H H' ∧ os.take i = is.map some ∧ H' m = some (.lst ((marks n is).map V.bl)) ∧ Fine n is)
        (fun H3 e3 => ⟨none, [], rfl, (e1.trans e2).trans e3, rfl, ?_, ⟨List.nodup_nil, fun _ h => nomatch h⟩⟩) (fun i σ' H' _ ⟨_, _, _, e', _⟩ => ex_l e' hS) ?_ ?_
      · rw [e3 m _ h2, marks_nil, List.map_replicate]
      · rintro i x σ' H' hi ⟨v, is, rfl, e', ho, hm, hF⟩
        obtain ⟨o, hoi, hx⟩ := hp.get hi
        rcases hx with ⟨y, rfl, rfl⟩ | ⟨rfl, t, ht, ty⟩
        · refine q_when (b := !true || (!(decide (0 ≤ y) && decide (y < (n : Int))) || mkOf is y.toNat)) (et_or (et_not (et_B (ev_call (z := .bl true) (ea_cons (ev_var rfl) ea_nil) fun H3 e3 Q q E => ⟨_, _, rfl, .inl ⟨y, rfl, rfl⟩, q⟩))) fun _ =>
            et_or (et_not (et_B (ev_chain ev_c (ev_var rfl) rv_I0 (ev_var rfl) rv_I0))) fun hb => et_B (ev_op (ev_var rfl) (ev_var rfl) (rv_ixL (sq_of hm) ?_))) (fun hb H3 e3 => s_ret ev_c fun H4 e4 => k.go ((e'.trans e3).trans e4)) (fun hb H3 e3 => ?_)
          · have h : 0 ≤ y ∧ y < (n : Int) := by simpa using hb
            obtain ⟨j, rfl⟩ : ∃ j : Nat, y = (j : Int) := ⟨y.toNat, by omega⟩
            refine atI_nat (j := j) ?_
            rw [List.getElem?_map]
            unfold marks
            rw [List.getElem?_map, List.getElem?_range (by omega), Int.toNat_natCast]
            rfl
          · simp only [Bool.not_true, Bool.false_or, Bool.or_eq_false_iff, Bool.not_eq_false', Bool.and_eq_true, decide_eq_true_eq] at hb
            obtain ⟨⟨h1, h2⟩, h3⟩ := hb
            obtain ⟨j, rfl⟩ : ∃ j : Nat, y = (j : Int) := ⟨y.toNat, by omega⟩
            have hnot : (j : Int) ∉ is := of_decide_eq_false (by simpa [mkOf] using h3)
            refine s_setL (l := m) (j := j) (e3 m _ hm) ev_c (ev_var rfl) (ev_var rfl) (by rw [List.length_map, marks_len]; omega) fun H4 e4 => ⟨_, is ++ [(j : Int)], rfl, Ex.mut ((e'.trans e3).trans e4) nm0, ?_, ?_, ?_⟩
            · rw [take_snoc hoi, ho, List.map_append]
              rfl
            · rw [upd_same, ← List.map_set, marks_set (by omega)]
            · exact ⟨List.nodup_append.mpr ⟨hF.nd, List.nodup_cons.mpr ⟨(fun h => nomatch h), List.nodup_nil⟩, fun x hx z hz => by
                rw [List.mem_singleton.mp hz]
                exact fun q => hnot (q ▸ hx)⟩, fun z hz => (List.mem_append.mp hz).elim (hF.rg z) fun hz => by rw [List.mem_singleton.mp hz]; exact ⟨h1, h2⟩⟩
        · refine q_when (b := true) (et_is (et_or (a := true) (b := true) (et_is (et_not (et_B (ev_call (z := .bl false) (ea_cons (ev_var rfl) ea_nil) fun H3 e3 Q q E => ⟨_, _, rfl, .inr ⟨rfl, t, ht, ty.mono (e'.trans e3)⟩, q⟩))) rfl) fun q => by cases q) rfl) (fun _ H3 e3 => ?_) (fun q => by cases q)
          exact s_ret ev_c fun H4 e4 => k.go ((e'.trans e3).trans e4)
      · rintro σ' H' ⟨v, is, rfl, e', ho, hm, hF⟩
        have hol := hp.len
        rw [hol, List.take_length] at ho
        have hil : is.length = n := by rw [← hl, hol, ho, List.length_map]
        have := hno is ho
        rw [ordB_yes hil hF.nd hF.rg] at this
        cases this
    · refine q_when (b := true) (et_is (et_or (a := true) (b := true) (et_is (et_not (et_B (ev_cb (ea_cons (ev_var rfl) (ea_cons ev_c ea_nil)) (rc_isi ty (kit_lst t ht))))) rfl) fun q => by cases q) rfl) (fun _ H1 e1 => ?_) (fun q => by cases q)
      exact s_ret ev_c fun H2 e2 => k.go (e1.trans e2)
end
end Bp
namespace Bp
open PySem L2 Evl
/-! ### the defs that refuse -/
def spCkTimeX (K : PySem.W.Frag) (C : Addr) : Sp := fun vs H Q E => ∃ v : V, vs = [v] ∧ Wh K H v false ∧ Refuse C H E
/-- a part of more than sixty figures -/
def shB (t : Th) : Bool := decide (t.1 < 10 ^ 60) && (decide (t.2.1 < 10 ^ 60) && decide (t.2.2 < 10 ^ 60))
def spShort : Sp := fun vs H Q _ => ∃ i : Int, vs = [.int i] ∧ RetV (.bl (decide (i < 10 ^ 60))) H Q
def spCkSX (K : PySem.W.Frag) (C : Addr) : Sp := fun vs H Q E => ∃ (l : Addr) (zs : List (Addr × Th)), vs = [.ref l] ∧ Ths K H l zs ∧ ((ths zs).all shB = true → RetV .non H Q) ∧ ((ths zs).all shB = false → Refuse C H E)
def spDoneX (K : PySem.W.Frag) (CT CO : Addr) : Sp := fun vs H Q E => ∃ (v o : V) (b : Bool), vs = [v, o] ∧ Tl K H v b ∧ (b = false → Refuse CT H E) ∧ (b = true → ∃ (l : Addr) (xs : List V), v = .ref l ∧ SqL K H l xs ∧ xs.length ≤ 1000 ∧ NoO K H o xs.length ∧ Refuse CO H E)
def spSoonestX (K : PySem.W.Frag) (CT : Addr) : Sp := fun vs H Q E => ∃ v : V, vs = [v] ∧ Tl K H v false ∧ Refuse CT H E
def spWithinX (K : PySem.W.Frag) (CT CM : Addr) : Sp := fun vs H Q E => ∃ (v t : V) (b : Bool), vs = [v, t] ∧ Tl K H v b ∧ (b = false → Refuse CT H E) ∧ (b = true → Wh K H t false ∧ Refuse CM H E)
section
variable {P : Program} {w : World} {K : PySem.W.Frag} {mg : Str → Option Value} {base : Heap}
theorem scCkT : FnScope ["things", "count", "thing"] ["things"] (defScope sCkT) := ⟨rfl, rfl, rfl, by decide +kernel, rfl, by decide +kernel, by decide +kernel⟩
theorem ok_ckT {f fT C : Addr} {fd fdT : FuncData} (F : Fun K "check_things" "check_things" sCkT f fd) (T : Bn mg) (N : XC K mg "BadThings" C) (gT : mg "is_thing" = some (.ref fT)) (FT : Fun K "is_thing" "is_thing" sThing fT fdT) (bT : Binds K fdT ["value"] []) (GT : FnOk P w K mg base CX0 3 fT fdT ["value"] (spThingX K)) : FnOk P w K mg base (L2.CX P w) 4 f fd ["things"] (spCkTX K C) := by
  refine F.okX scCkT (fun vs H Q E h => ?_) (fun cdv A outer s H vs Q E hr h => ?_)
  · obtain ⟨v, b, rfl, _⟩ := h
    rfl
  · obtain ⟨v, b, rfl, hv, kg, kb⟩ := h
    refine ⟨_, pss_cons (ps_if (pt_not (pt_val (pe_callB call_isi (by rfl) T.isi (by decide +kernel) (pa_cons (pv 0) (pa_cons (pe_bltn (v := .ty "list") (by rfl) T.list PyProof.Rows.boot_list rfl) pa_nil)))))
        (pss_one (ps_raise rfl (takes_of rfl rfl rfl rfl) (pmk_own PySem.F.excBase_ValueError N.q N.g N.k (raises_own N.b N.t) rfl))) pss_nil)
      (pss_one (ps_for (passes_of rfl) rfl (pi_enum (by rfl) T.enum (pa_cons (pv 0) pa_nil)) (pg_tup rfl (pgs_cons (pg_name (i := 1) scCkT.nd rfl (Or.inl rfl)) (pgs_cons (pg_name (i := 2) scCkT.nd rfl (Or.inl rfl)) pgs_nil)))
        (pss_one (ps_if (pt_not (pt_val (pe_call GT hr (by rfl) gT FT.kp bT .nil pass0 (pa_cons (pv 2) pa_nil))))
          (pss_one (ps_raise rfl (takes_of rfl rfl rfl rfl) (SkE.pmk_own1 PySem.F.excBase_ValueError N.q N.g N.k (raises_own N.b N.t) rfl (pe_joined (.cons pe_str (.cons (pe_fmt (pv 1)) (.cons pe_str .nil))))))) pss_nil)))), ?_⟩
    rcases hv with ⟨l, xs, bs, rfl, hS, hz, hp, rfl⟩ | ⟨rfl, n, hn, ty⟩
    · refine q_when (b := false) (et_is (et_not (et_B (ev_cb (ea_cons (ev_var rfl) (ea_cons ev_c ea_nil)) (rc_isi (ty_lst hS) (b := true) (by decide +kernel))))) rfl) (fun q => by cases q) fun _ H1 e1 => ?_
      refine s_forE (a := l) (xs := xs) (ea_cons (ev_var rfl) ea_nil) (ex_l e1 hS) (fun i σ' H' => ∃ v1 v2 : Option V, σ' = [some (.ref l), v1, v2] ∧ Ex H H' ∧ (bs.take i).all id = true) (fun H2 e2 => ⟨none, none, rfl, e1.trans e2, rfl⟩) (fun i σ' H' _ ⟨_, _, _, e', _⟩ => ex_l e' hS) ?_ ?_
      · rintro i x t σ' H' hi ⟨v1, v2, rfl, e', hb⟩ nt
        obtain ⟨c, hc, hx⟩ := hp.get hi
        have hin : i < xs.length := (List.getElem?_eq_some_iff.mp hi).1
        refine ⟨t, _, rfl, st_of upd_same, rfl, _, _, rfl, _, _, rfl, rfl, ?_⟩
        have e2 : Ex H (upd H' t (.tup [.int (i : Int), x])) := e'.trans (Ex.new nt)
        refine s_when (b := !c) (et_not (et_B (ev_call (z := .bl c) (ea_cons (ev_var rfl) ea_nil) fun H3 e3 Q q E => ⟨_, c, rfl, hx.mono (e2.trans e3), q⟩))) (fun h H3 e3 => ?_) fun h H3 e3 => ⟨_, _, rfl, e2.trans e3, ?_⟩
        · obtain rfl : c = false := by simpa using h
          have hall : bs.all id = false := by
            cases hq : bs.all id with
            | false => rfl
            | true => exact absurd (List.all_eq_true.mp hq false (List.mem_of_getElem? hc)) (by decide)
          exact js_num (ev_var rfl) (by omega) (by omega) (by decide) (by decide) fun _ H4 e4 => (kb hall).go ((e2.trans e3).trans e4)
        · obtain rfl : c = true := by simpa using h
          rw [take_snoc hc, List.all_append, hb]
          rfl
      · rintro σ' H' ⟨v1, v2, rfl, e', hb⟩
        rw [hp.len, List.take_length] at hb
        exact (kg hb).go e'
    · refine q_when (b := true) (et_is (et_not (et_B (ev_cb (ea_cons (ev_var rfl) (ea_cons ev_c ea_nil)) (rc_isi ty (kit_lst n hn))))) rfl) (fun _ H1 e1 => ?_) (fun q => by cases q)
      exact (kb rfl).go e1
theorem scCkO : FnScope ["order", "many"] ["order", "many"] (defScope sCkO) := ⟨rfl, rfl, rfl, by decide +kernel, rfl, by decide +kernel, by decide +kernel⟩
theorem ok_ckO {f fO C : Addr} {fd fdO : FuncData} (F : Fun K "check_order" "check_order" sCkO f fd) (N : XC K mg "BadOrder" C) (gO : mg "is_order" = some (.ref fO)) (FO : Fun K "is_order" "is_order" sOrder fO fdO) (bO : Binds K fdO ["value", "many"] []) (GO : FnOk P w K mg base CX0 2 fO fdO ["value", "many"] (spNoOrder K)) : FnOk P w K mg base (L2.CX P w) 3 f fd ["order", "many"] (spCkOX K C) := by
  refine F.okX scCkO (fun vs H Q E h => ?_) (fun cdv A outer s H vs Q E hr h => ?_)
  · obtain ⟨v, n, rfl, _⟩ := h
    rfl
  · obtain ⟨v, n, rfl, hz, hv, kb⟩ := h
    refine ⟨_, pss_one (ps_if (pt_not (pt_val (pe_call GO hr (by rfl) gO FO.kp bO .nil pass0 (pa_cons (pv 0) (pa_cons (pv 1) pa_nil)))))
        (pss_one (ps_raise rfl (takes_of rfl rfl rfl rfl) (SkE.pmk_own1 PySem.F.excBase_ValueError N.q N.g N.k (raises_own N.b N.t) rfl (pe_joined (.cons pe_str (.cons (pe_fmt (pv 1)) (.cons pe_str .nil))))))) pss_nil), ?_⟩
    refine s_when (b := true) (et_is (et_not (et_B (ev_call (z := .bl false) (ea_cons (ev_var rfl) (ea_cons (ev_var rfl) ea_nil)) fun H3 e3 Q q E => ⟨v, n, rfl, hz, hv.mono e3, q⟩))) rfl) (fun _ H1 e1 => ?_) (fun q => by cases q)
    exact js_num (ev_var rfl) (by omega) (by omega) (by decide) (by decide) fun _ H4 e4 => kb.go (e1.trans e4)
theorem scCkTime : FnScope ["time"] ["time"] (defScope sCkTime) := ⟨rfl, rfl, rfl, by decide +kernel, rfl, by decide +kernel, by decide +kernel⟩
theorem ok_ckTime {f fW C : Addr} {fd fdW : FuncData} (F : Fun K "check_time" "check_time" sCkTime f fd) (N : XC K mg "BadTime" C) (gW : mg "is_whole" = some (.ref fW)) (FW : Fun K "is_whole" "is_whole" sWhole fW fdW) (bW : Binds K fdW ["value"] []) (GW : FnOk P w K mg base CX0 1 fW fdW ["value"] (spWholeX K)) : FnOk P w K mg base (L2.CX P w) 2 f fd ["time"] (spCkTimeX K C) := by
  refine F.okX scCkTime (fun vs H Q E h => ?_) (fun cdv A outer s H vs Q E hr h => ?_)
  · obtain ⟨v, rfl, _⟩ := h
    rfl
  · obtain ⟨v, rfl, hv, kb⟩ := h
    refine ⟨_, pss_one (ps_if (pt_not (pt_val (pe_call GW hr (by rfl) gW FW.kp bW .nil pass0 (pa_cons (pv 0) pa_nil))))
        (pss_one (ps_raise rfl (takes_of rfl rfl rfl rfl) (pmk_own PySem.F.excBase_ValueError N.q N.g N.k (raises_own N.b N.t) rfl))) pss_nil), ?_⟩
    refine s_when (b := true) (et_is (et_not (et_B (ev_call (z := .bl false) (ea_cons (ev_var rfl) ea_nil) fun H3 e3 Q q E => ⟨v, _, rfl, hv.mono e3, q⟩))) rfl) (fun _ H1 e1 => ?_) (fun q => by cases q)
    exact kb.go e1
theorem scShort : FnScope ["length"] ["length"] (defScope sShort) := ⟨rfl, rfl, rfl, by decide +kernel, rfl, by decide +kernel, by decide +kernel⟩
theorem ok_short {f : Addr} {fd : FuncData} (F : Fun K "is_short" "is_short" sShort f fd) : FnOk P w K mg base CX0 1 f fd ["length"] spShort := by
  refine F.ok scShort (fun vs H Q E h => ?_) (fun cdv A outer s H vs Q E hr h => ?_)
  · obtain ⟨i, rfl, _⟩ := h
    rfl
  · obtain ⟨i, rfl, k⟩ := h
    refine ⟨_, pss_one (ps_ret (pe_cmpR op_lt (pv 0) (pe_op op_pow pe_int pe_int) (nomark _))), ?_⟩
    exact s_ret (ev_op (ev_var rfl) (ev_is (ev_op ev_c ev_c (rv_I ⟨by decide, by decide, by decide⟩)) (by rfl)) rv_I0) fun H1 e => k.go e
theorem scCkS : FnScope ["things", "count", "thing", "part"] ["things"] (defScope sCkS) := ⟨rfl, rfl, rfl, by decide +kernel, rfl, by decide +kernel, by decide +kernel⟩
theorem ok_ckS {f fT C : Addr} {fd fdT : FuncData} (F : Fun K "check_short" "check_short" sCkS f fd) (T : Bn mg) (N : XC K mg "BadThings" C) (gT : mg "is_short" = some (.ref fT)) (FT : Fun K "is_short" "is_short" sShort fT fdT) (bT : Binds K fdT ["length"] []) : FnOk P w K mg base (L2.CX P w) 2 f fd ["things"] (spCkSX K C) := by
  have GT : FnOk P w K mg base CX0 1 fT fdT ["length"] spShort := ok_short FT
  refine F.okX scCkS (fun vs H Q E h => ?_) (fun cdv A outer s H vs Q E hr h => ?_)
  · obtain ⟨l, zs, rfl, _⟩ := h
    rfl
  · obtain ⟨l, zs, rfl, hT, kg, kb⟩ := h
    refine ⟨_, pss_one (ps_for (passes_of rfl) rfl (pi_enum (by rfl) T.enum (pa_cons (pv 0) pa_nil)) (pg_tup rfl (pgs_cons (pg_name (i := 1) scCkS.nd rfl (Or.inl rfl)) (pgs_cons (pg_name (i := 2) scCkS.nd rfl (Or.inl rfl)) pgs_nil)))
        (pss_one (ps_if (pt_not (pt_val (pe_callB (cr_all rfl) (by rfl) T.all (by decide +kernel) (pa_cons (pe_lc (own := [("part", 3)]) (g := gName 3) (tt := tYes) rfl scCkS.nd (pi_tup (pv 2)) (blkOk_by (N := ["things", "count", "thing", "part"]) (sc := defScope sCkS) (by decide +kernel))
            (fun _ _ _ _ _ => pg_name (i := 3) scCkS.nd rfl (Or.inl rfl)) (fun _ _ _ _ _ => pts_nil) (fun _ _ _ _ _ => pe_call GT hr (by rfl) gT FT.kp bT .nil pass0 (pa_cons (pv 3) pa_nil))) pa_nil))))
          (pss_one (ps_raise rfl (takes_of rfl rfl rfl rfl) (SkE.pmk_own1 PySem.F.excBase_ValueError N.q N.g N.k (raises_own N.b N.t) rfl (pe_joined (.cons pe_str (.cons (pe_fmt (pv 1)) (.cons pe_str .nil))))))) pss_nil))), ?_⟩
    have hle := hT.le
    refine s_forE (a := l) (xs := tv zs) (ea_cons (ev_var rfl) ea_nil) hT.ls (fun i σ' H' => ∃ v1 v2 : Option V, σ' = [some (.ref l), v1, v2, none] ∧ Ex H H' ∧ ((ths zs).take i).all shB = true) (fun H2 e2 => ⟨none, none, rfl, e2, rfl⟩) (fun i σ' H' _ ⟨_, _, _, e', _⟩ => ex_l e' hT.ls) ?_ ?_
    · rintro i x t σ' H' hi ⟨v1, v2, rfl, e', hb⟩ nt
      obtain ⟨z, hzi, rfl⟩ := tv_get hi
      have hin : i < zs.length := (List.getElem?_eq_some_iff.mp hzi).1
      have hti : (ths zs)[i]? = some z.2 := by
        unfold ths
        rw [List.getElem?_map, hzi]
        rfl
      have hZ := hT.it z (List.mem_of_getElem? hzi)
      refine ⟨t, _, rfl, st_of upd_same, rfl, _, _, rfl, _, _, rfl, rfl, ?_⟩
      have e2 : Ex H (upd H' t (.tup [.int (i : Int), .ref z.1])) := e'.trans (Ex.new nt)
      refine s_when (b := !shB z.2) (et_not (et_B (ev_cbL (el_lcT (xs := iv z.2) (fun _ => true) (fun j => .bl ([decide (z.2.1 < 10 ^ 60), decide (z.2.2.1 < 10 ^ 60), decide (z.2.2.2 < 10 ^ 60)].getD j false)) (ev_var rfl) (ex_t e2 hZ) (by show 3 ≤ 40000; decide) (fun x => rfl) (fun j x H3 e3 hj => et_yes) fun j x H3 e3 hj _ => ?_) fun p H3 e3 h3 => ?_))) (fun h H3 e3 => ?_) fun h H3 e3 => ⟨_, _, rfl, e2.trans e3, ?_⟩
      · refine ev_call (ea_cons (ev_var rfl) ea_nil) fun H4 e4 Q q E => ?_
        match j, hj with
        | 0, hj => obtain rfl := Option.some.inj hj; exact ⟨_, rfl, q⟩
        | 1, hj => obtain rfl := Option.some.inj hj; exact ⟨_, rfl, q⟩
        | 2, hj => obtain rfl := Option.some.inj hj; exact ⟨_, rfl, q⟩
        | j + 3, hj => cases hj
      · have := rc_all (K := K) (bs := [decide (z.2.1 < 10 ^ 60), decide (z.2.2.1 < 10 ^ 60), decide (z.2.2.2 < 10 ^ 60)]) (sq_of h3)
        have e : shB z.2 = [decide (z.2.1 < 10 ^ 60), decide (z.2.2.1 < 10 ^ 60), decide (z.2.2.2 < 10 ^ 60)].all id := by
          show _ = (id _ && (id _ && (id _ && true)))
          rw [Bool.and_true]
          rfl
        rw [e]
        exact this
      · have h : shB z.2 = false := by simpa using h
        have hall : (ths zs).all shB = false := by
          cases hq : (ths zs).all shB with
          | false => rfl
          | true =>
            have := List.all_eq_true.mp hq z.2 (List.mem_of_getElem? hti)
            rw [h] at this
            cases this
        exact js_num (ev_var rfl) (by omega) (by omega) (by decide) (by decide) fun _ H4 e4 => (kb hall).go ((e2.trans e3).trans e4)
      · have h : shB z.2 = true := by simpa using h
        rw [take_snoc hti, List.all_append, hb]
        show (true && (shB z.2 && true)) = true
        rw [h]
        rfl
    · rintro σ' H' ⟨v1, v2, rfl, e', hb⟩
      rw [tv_len, ← ths_len zs, List.take_length] at hb
      exact (kg hb).go e'
end
end Bp
namespace Bp
open PySem L2 Evl
/-! ### the doors -/
theorem Refuse.mono {C : Addr} {H H1 : Hp} {E : XK} (r : Refuse C H E) (e : Ex H H1) : Refuse C H1 E := fun H2 e2 => r H2 (e.trans e2)
def spWrittenX (K : PySem.W.Frag) (CT : Addr) : Sp := fun vs H Q E => ∃ (v : V) (b : Bool), vs = [v] ∧ Tl K H v b ∧ (b = false → Refuse CT H E) ∧ (b = true → ∃ (l : Addr) (zs : List (Addr × Th)), v = .ref l ∧ Ths K H l zs ∧ ((ths zs).all shB = false → Refuse CT H E) ∧ ((ths zs).all shB = true → RetV (.str (if zs = [] then "-" else wThs (ths zs))) H Q))
theorem sh_of {t : Th} (h : shB t = true) : Sh t := by
  unfold shB at h
  simp only [Bool.and_eq_true, decide_eq_true_eq] at h
  exact h
/-- the kind of the outer list display -/
def innerSc (st : Stmt) : Scope := match (defBody st).getLast? with
  | some (.Return (some (.Call _ [.ListComp _ _ sc _] _ _)) _) => sc
  | _ => defScope st
/-- a check's promises, as the doors use them -/
structure Chk (P : Program) (w : World) (K : PySem.W.Frag) (mg : Str → Option Value) (base : Heap) (fT fO fM fS CT CO CM : Addr) (dT dO dM dS : FuncData) : Prop where
  gT : mg "check_things" = some (.ref fT)
  kT : PySem.W.keepIn K (.ref fT) = true
  bT : Binds K dT ["things"] []
  okT : FnOk P w K mg base (L2.CX P w) 4 fT dT ["things"] (spCkTX K CT)
  gO : mg "check_order" = some (.ref fO)
  kO : PySem.W.keepIn K (.ref fO) = true
  bO : Binds K dO ["order", "many"] []
  okO : FnOk P w K mg base (L2.CX P w) 3 fO dO ["order", "many"] (spCkOX K CO)
  gM : mg "check_time" = some (.ref fM)
  kM : PySem.W.keepIn K (.ref fM) = true
  bM : Binds K dM ["time"] []
  okM : FnOk P w K mg base (L2.CX P w) 2 fM dM ["time"] (spCkTimeX K CM)
  gS : mg "check_short" = some (.ref fS)
  kS : PySem.W.keepIn K (.ref fS) = true
  bS : Binds K dS ["things"] []
  okS : FnOk P w K mg base (L2.CX P w) 2 fS dS ["things"] (spCkSX K CT)
section
variable {P : Program} {w : World} {K : PySem.W.Frag} {mg : Str → Option Value} {base : Heap} {fT fO fM fS CT CO CM : Addr} {dT dO dM dS : FuncData}
theorem scDone : FnScope ["things", "order", "_", "end"] ["things", "order"] (defScope sDone) := ⟨rfl, rfl, rfl, by decide +kernel, rfl, by decide +kernel, by decide +kernel⟩
theorem ok_done {f : Addr} {fd : FuncData} (F : Fun K "done" "done" sDone f fd) (T : Bn mg) (Kk : Chk P w K mg base fT fO fM fS CT CO CM dT dO dM dS) : FnOk P w K mg base (L2.CX P w) 5 f fd ["things", "order"] (spDoneX K CT CO) := by
  refine F.okX scDone (fun vs H Q E h => ?_) (fun cdv A outer s H vs Q E hr h => ?_)
  · obtain ⟨v, o, b, rfl, _⟩ := h
    rfl
  · obtain ⟨v, o, b, rfl, hv, kb, kg⟩ := h
    refine ⟨_, pss_cons (ps_expr (pe_call Kk.okT hr (by rfl) Kk.gT Kk.kT Kk.bT .nil (passes_call (takes_of rfl rfl rfl rfl) fun _ _ _ _ h => h) (pa_cons (pv 0) pa_nil)))
      (pss_cons (ps_expr (pe_call Kk.okO (hr.mono (by decide)) (by rfl) Kk.gO Kk.kO Kk.bO .nil (passes_call (takes_of rfl rfl rfl rfl) fun _ _ _ _ h => h) (pa_cons (pv 1) (pa_cons (pe_callB call_len_seq (by rfl) T.len PySem.boot_len (pa_cons (pv 0) pa_nil)) pa_nil)))) pss_never), ?_⟩
    refine q_ask (ea_cons (ev_var rfl) ea_nil) fun H1 e1 => ⟨v, b, rfl, hv.mono e1, fun hb H2 e2 => ?_, fun hb => (kb hb).mono e1⟩
    obtain ⟨l, xs, rfl, hS, hz, hO, kr⟩ := kg hb
    exact q_ask (ea_cons (ev_var rfl) (ea_cons (ev_cb (ea_cons (ev_var rfl) ea_nil) (rc_lenL (ex_l (e1.trans e2) hS))) ea_nil)) fun H3 e3 => ⟨o, xs.length, rfl, hz, hO.mono ((e1.trans e2).trans e3), kr.mono ((e1.trans e2).trans e3)⟩
theorem scStarts : FnScope ["things", "order", "begins", "_"] ["things", "order"] (defScope sStarts) := ⟨rfl, rfl, rfl, by decide +kernel, rfl, by decide +kernel, by decide +kernel⟩
theorem ok_starts {f : Addr} {fd : FuncData} (F : Fun K "starts" "starts" sStarts f fd) (T : Bn mg) (Kk : Chk P w K mg base fT fO fM fS CT CO CM dT dO dM dS) : FnOk P w K mg base (L2.CX P w) 5 f fd ["things", "order"] (spDoneX K CT CO) := by
  refine F.okX scStarts (fun vs H Q E h => ?_) (fun cdv A outer s H vs Q E hr h => ?_)
  · obtain ⟨v, o, b, rfl, _⟩ := h
    rfl
  · obtain ⟨v, o, b, rfl, hv, kb, kg⟩ := h
    refine ⟨_, pss_cons (ps_expr (pe_call Kk.okT hr (by rfl) Kk.gT Kk.kT Kk.bT .nil (passes_call (takes_of rfl rfl rfl rfl) fun _ _ _ _ h => h) (pa_cons (pv 0) pa_nil)))
      (pss_cons (ps_expr (pe_call Kk.okO (hr.mono (by decide)) (by rfl) Kk.gO Kk.kO Kk.bO .nil (passes_call (takes_of rfl rfl rfl rfl) fun _ _ _ _ h => h) (pa_cons (pv 1) (pa_cons (pe_callB call_len_seq (by rfl) T.len PySem.boot_len (pa_cons (pv 0) pa_nil)) pa_nil)))) pss_never), ?_⟩
    refine q_ask (ea_cons (ev_var rfl) ea_nil) fun H1 e1 => ⟨v, b, rfl, hv.mono e1, fun hb H2 e2 => ?_, fun hb => (kb hb).mono e1⟩
    obtain ⟨l, xs, rfl, hS, hz, hO, kr⟩ := kg hb
    exact q_ask (ea_cons (ev_var rfl) (ea_cons (ev_cb (ea_cons (ev_var rfl) ea_nil) (rc_lenL (ex_l (e1.trans e2) hS))) ea_nil)) fun H3 e3 => ⟨o, xs.length, rfl, hz, hO.mono ((e1.trans e2).trans e3), kr.mono ((e1.trans e2).trans e3)⟩
theorem scSoonest : FnScope ["things", "order", "bench", "apart", "length"] ["things"] (defScope sSoonest) := ⟨rfl, rfl, rfl, by decide +kernel, rfl, by decide +kernel, by decide +kernel⟩
theorem ok_soonest {f : Addr} {fd : FuncData} (F : Fun K "soonest" "soonest" sSoonest f fd) (Kk : Chk P w K mg base fT fO fM fS CT CO CM dT dO dM dS) : FnOk P w K mg base (L2.CX P w) 5 f fd ["things"] (spSoonestX K CT) := by
  refine F.okX scSoonest (fun vs H Q E h => ?_) (fun cdv A outer s H vs Q E hr h => ?_)
  · obtain ⟨v, rfl, _⟩ := h
    rfl
  · obtain ⟨v, rfl, hv, kb⟩ := h
    refine ⟨_, pss_cons (ps_expr (pe_call Kk.okT hr (by rfl) Kk.gT Kk.kT Kk.bT .nil (passes_call (takes_of rfl rfl rfl rfl) fun _ _ _ _ h => h) (pa_cons (pv 0) pa_nil))) pss_never, ?_⟩
    exact q_ask (ea_cons (ev_var rfl) ea_nil) fun H1 e1 => ⟨v, false, rfl, hv.mono e1, (fun hb => by cases hb), fun hb => kb.mono e1⟩
theorem scWithin : FnScope ["things", "time", "order", "_", "end", "bench", "apart", "length"] ["things", "time"] (defScope sWithin) := ⟨rfl, rfl, rfl, by decide +kernel, rfl, by decide +kernel, by decide +kernel⟩
theorem ok_within {f : Addr} {fd : FuncData} (F : Fun K "within" "within" sWithin f fd) (Kk : Chk P w K mg base fT fO fM fS CT CO CM dT dO dM dS) : FnOk P w K mg base (L2.CX P w) 5 f fd ["things", "time"] (spWithinX K CT CM) := by
  refine F.okX scWithin (fun vs H Q E h => ?_) (fun cdv A outer s H vs Q E hr h => ?_)
  · obtain ⟨v, t, b, rfl, _⟩ := h
    rfl
  · obtain ⟨v, t, b, rfl, hv, kb, kg⟩ := h
    refine ⟨_, pss_cons (ps_expr (pe_call Kk.okT hr (by rfl) Kk.gT Kk.kT Kk.bT .nil (passes_call (takes_of rfl rfl rfl rfl) fun _ _ _ _ h => h) (pa_cons (pv 0) pa_nil)))
      (pss_cons (ps_expr (pe_call Kk.okM (hr.mono (by decide)) (by rfl) Kk.gM Kk.kM Kk.bM .nil (passes_call (takes_of rfl rfl rfl rfl) fun _ _ _ _ h => h) (pa_cons (pv 1) pa_nil))) pss_never), ?_⟩
    refine q_ask (ea_cons (ev_var rfl) ea_nil) fun H1 e1 => ⟨v, b, rfl, hv.mono e1, fun hb H2 e2 => ?_, fun hb => (kb hb).mono e1⟩
    obtain ⟨ht, kr⟩ := kg hb
    exact q_ask (ea_cons (ev_var rfl) ea_nil) fun H3 e3 => ⟨t, rfl, ht.mono ((e1.trans e2).trans e3), kr.mono ((e1.trans e2).trans e3)⟩
theorem scWritten : FnScope ["things", "thing", "part"] ["things"] (defScope sWritten) := ⟨rfl, rfl, rfl, by decide +kernel, rfl, by decide +kernel, by decide +kernel⟩
theorem ok_written {f : Addr} {fd : FuncData} (F : Fun K "written" "written" sWritten f fd) (T : Bn mg) {uN : Value} (gN : mg "NOTHING" = some uN) (rN : RelV (.str "-") uN) (Kk : Chk P w K mg base fT fO fM fS CT CO CM dT dO dM dS) : FnOk P w K mg base (L2.CX P w) 5 f fd ["things"] (spWrittenX K CT) := by
  refine F.okX scWritten (fun vs H Q E h => ?_) (fun cdv A outer s H vs Q E hr h => ?_)
  · obtain ⟨v, b, rfl, _⟩ := h
    rfl
  · obtain ⟨v, b, rfl, hv, kb, kg⟩ := h
    refine ⟨_, pss_cons (ps_expr (pe_call Kk.okT hr (by rfl) Kk.gT Kk.kT Kk.bT .nil (passes_call (takes_of rfl rfl rfl rfl) fun _ _ _ _ h => h) (pa_cons (pv 0) pa_nil)))
      (pss_cons (ps_expr (pe_call Kk.okS (hr.mono (by decide)) (by rfl) Kk.gS Kk.kS Kk.bS .nil (passes_call (takes_of rfl rfl rfl rfl) fun _ _ _ _ h => h) (pa_cons (pv 0) pa_nil)))
      (pss_cons (ps_if (pt_not (pt_truth (pv 0) (by intro _; rfl))) (pss_one (ps_ret (pe_glob (v := .str "-") (by rfl) gN rN))) pss_nil)
      (pss_one (ps_ret (pe_join pe_str (pe_lc (own := [("thing", 1)]) (g := gName 1) (tt := tYes) (te := tM1 (rJoin K) (tC (.str "/")) (tLc (iTup K (tVar 1)) (gName 2) tYes (tCB rStrI (tCons (tVar 2) tNil)) [2])) rfl scWritten.nd (pi_list (pv 0)) (blkOk_by (N := ["things", "thing", "part"]) (sc := defScope sWritten) (by decide +kernel))
        (fun _ _ _ _ _ => pg_name (i := 1) scWritten.nd rfl (Or.inl rfl)) (fun _ _ _ _ _ => pts_nil)
        (fun _ _ _ _ _ => ?el))))))), ?go⟩
    case el =>
      refine pe_join pe_str ?_
      exact pe_lc (own := [("part", 2)]) (g := gName 2) (tt := tYes) rfl scWritten.nd (pi_tup (pv 1)) (blkOk_by (N := ["things", "thing", "part"]) (sc := innerSc sWritten) (by decide +kernel))
          (fun _ _ _ _ _ => pg_name (i := 2) scWritten.nd rfl (Or.inl rfl)) (fun _ _ _ _ _ => pts_nil) (fun _ _ _ _ _ => pe_callTy call_str_int (by rfl) T.str PyProof.Rows.boot_str (pa_cons (pv 2) pa_nil))
    refine q_ask (ea_cons (ev_var rfl) ea_nil) fun H1 e1 => ⟨v, b, rfl, hv.mono e1, fun hb H2 e2 => ?_, fun hb => (kb hb).mono e1⟩
    obtain ⟨l, zs, rfl, hT, kr, ks⟩ := kg hb
    have e12 := e1.trans e2
    refine q_ask (ea_cons (ev_var rfl) ea_nil) fun H3 e3 => ⟨l, zs, rfl, hT.mono (e12.trans e3), fun hs H4 e4 => ?_, fun hs => (kr hs).mono (e12.trans e3)⟩
    have e34 := (e12.trans e3).trans e4
    have hT4 := hT.mono e34
    have ky := ks hs
    refine q_when (et_not (et_truL (ev_var rfl) hT4.ls)) (fun h H5 e5 => ?_) (fun h H5 e5 => ?_)
    · have z : zs = [] := by
        cases zs with
        | nil => rfl
        | cons _ _ => cases h
      rw [if_pos z] at ky
      exact s_ret ev_c fun H6 e6 => ky.go ((e34.trans e5).trans e6)
    · have z : zs ≠ [] := fun z => by
        rw [z] at h
        cases h
      rw [if_neg z] at ky
      have shz : ∀ t ∈ ths zs, Sh t := fun t ht => sh_of (List.all_eq_true.mp hs t ht)
      have nnz := ths_nn hT4
      have hle := hT4.le
      refine s_ret (ev_joinL (K := K) (a := " ") (ys := (ths zs).map wTh) ?_ ?_) fun H6 e6 => ky.go ((e34.trans e5).trans e6)
      · have hE := el_lcL (K := K) (σ := [some (.ref l), none, none]) (xs := tv zs) (j := 1) (vs := [1]) (tl := tVar 0) (t := tYes) (te := tM1 (rJoin K) (tC (.str "/")) (tLc (iTup K (tVar 1)) (gName 2) tYes (tCB rStrI (tCons (tVar 2) tNil)) [2])) (H := H5) (fun _ => true) (fun i => .str (wTh ((ths zs).getD i th0))) (ev_var rfl) (ex_l e5 hT4.ls) (by rw [tv_len]; omega) (fun x => rfl) (fun i x H6 e6 hi => et_yes) fun i x H6 e6 hi _ => ?_
        · rw [tv_len, ← ths_len zs, given_all, show (List.range (ths zs).length).map (fun i => V.str (wTh ((ths zs).getD i th0))) = (ths zs).map fun t => V.str (wTh t) from range_map (ths zs) th0 fun t => V.str (wTh t)] at hE
          rw [List.map_map]
          exact hE
        · obtain ⟨z, hz, rfl⟩ := tv_get hi
          have hti : (ths zs).getD i th0 = z.2 := by
            unfold ths
            rw [List.getD_eq_getElem?_getD, List.getElem?_map, hz]
            rfl
          have hm : z.2 ∈ ths zs := List.mem_map.mpr ⟨z, List.mem_of_getElem? hz, rfl⟩
          have n := nnz _ hm
          have s := shz _ hm
          rw [hti]
          refine ev_joinL (K := K) (a := "/") (ys := [(toString z.2.1 : Str), (toString z.2.2.1 : Str), (toString z.2.2.2 : Str)]) ?_ ?_
          · refine el_lcT (K := K) (xs := iv z.2) (fun _ => true) (fun j => .str ([(toString z.2.1 : Str), (toString z.2.2.1 : Str), (toString z.2.2.2 : Str)].getD j "")) (ev_var rfl) (ex_t (e5.trans e6) (hT4.it z (List.mem_of_getElem? hz))) (by show 3 ≤ 40000; decide) (fun x => rfl) (fun j x H7 e7 hj => et_yes) fun j x H7 e7 hj _ => ?_
            match j, hj with
            | 0, hj => obtain rfl := Option.some.inj hj; exact ev_cb (ea_cons (ev_var rfl) ea_nil) (rc_strI (log_of n.1 s.1))
            | 1, hj => obtain rfl := Option.some.inj hj; exact ev_cb (ea_cons (ev_var rfl) ea_nil) (rc_strI (log_of n.2.1 s.2.1))
            | 2, hj => obtain rfl := Option.some.inj hj; exact ev_cb (ea_cons (ev_var rfl) ea_nil) (rc_strI (log_of n.2.2 s.2.2))
            | j + 3, hj => cases hj
          · have a := num_le n.1 s.1
            have b := num_le n.2.1 s.2.1
            have c := num_le n.2.2 s.2.2
            have d : ("/" : Str).length = 1 := rfl
            simp only [List.map_cons, List.map_nil, List.sum_cons, List.sum_nil, List.length_cons, List.length_nil]
            omega
      · have d : (" " : Str).length = 1 := rfl
        have := sum_le (fun y : Str => y.length) 183 ((ths zs).map wTh) fun y hy => by
          obtain ⟨t, ht, rfl⟩ := List.mem_map.mp hy
          exact wTh_le (nnz t ht) (shz t ht)
        rw [List.length_map, ths_len] at this
        rw [List.length_map, ths_len, d]
        omega
end
end Bp
namespace Bp
open PySem L2 Evl L2H
abbrev St := L2.St
/-! ### the law's own askers -/
/-- what isinstance says of an error of the class at D -/
structure Knd (K : PySem.W.Frag) (CT CO CM CX CB D : Addr) (b1 b2 b3 : Bool) : Prop where
  c : ExcC K D
  t : PySem.W.kitOne K (.ref D) (.ref CT) = some b1
  o : PySem.W.kitOne K (.ref D) (.ref CO) = some b2
  m : PySem.W.kitOne K (.ref D) (.ref CM) = some b3
  x : PySem.W.kitOne K (.ref D) (.ref CX) = some false
  v : PySem.W.kitOne K (.ref D) (.type "ValueError") = some true
  b : PySem.W.exmOne K (.ref D) (.ref CB) = some true
def hits (b1 b2 b3 : Bool) : List V := [.bl b1, .bl b2, .bl b3, .bl false, .bl true]
def spKinds (K : PySem.W.Frag) (CT CO CM CX CB : Addr) (a : Addr) (cls : Value) (d : Option Addr) : Sp := fun vs H Q _ => ∃ (D : Addr) (b1 b2 b3 : Bool), cls = .ref D ∧ d = none ∧ vs = [.ref a] ∧ Knd K CT CO CM CX CB D b1 b2 b3 ∧ RetL (hits b1 b2 b3) H Q
/-- .. of the object that the suite holds -/
def spHeld (sp : Addr → Value → Option Addr → Sp) : SpP := fun p vs H Q E => ∃ cls d, Zc cls d p.2 ∧ (∃ fs, p.2.data = .fields fs) ∧ sp p.1 cls d vs H Q E
def spWithT (K : PySem.W.Frag) (CT : Addr) : Sp := fun vs H Q E => ∃ (n : Int) (v : V), vs = [.int n, v] ∧ (Tl K H v false ∨ (n = 4 ∧ ∃ (l : Addr) (zs : List (Addr × Th)), v = .ref l ∧ Ths K H l zs ∧ (ths zs).all shB = false)) ∧ Refuse CT H E
def spTold (P : Program) (w : World) (K : PySem.W.Frag) (mg : Str → Option Value) (base : Heap) (CT CO CM CX CB : Addr) : Sp := fun vs H Q _ => ∃ (f : Addr) (x y : V) (fd : FuncData) (ps : List Str) (sp : Sp) (D : Addr) (b1 b2 b3 : Bool), vs = [.ref f, x, y] ∧ PySem.W.keepIn K (.ref f) = true ∧ Binds K fd ps [] ∧
  FnOk P w K mg base (L2.CX P w) 6 f fd ps sp ∧ (∀ (Q' : VK) (E' : XK) H1, Ex H H1 → Refuse D H1 E' → sp [x, y] H1 Q' E') ∧ Knd K CT CO CM CX CB D b1 b2 b3 ∧ RetL (hits b1 b2 b3) H Q
theorem PE.weak {X : Cx} {e : Expr} {t t' : TE} (h : PE X e t) (w : ∀ σ H Q, t' σ H Q → t σ H Q) : PE X e t' := ⟨fun pins s σ H Q I q => h.run pins s σ H Q I (w σ H Q q)⟩
theorem rc_isP {K : PySem.W.Frag} {H : Hp} {D a : Addr} {c : V} {cv : Value} {b : Bool} (hc : ∀ u, RelV c u → u = cv) (k : PySem.W.kitOne K (.ref D) cv = some b) : RC (rIsE K D a) [.ref a, c] H (.bl b) := fun H1 e Q q => ⟨c, cv, b, rfl, hc, k, q H1 (Ex.refl H1)⟩
theorem x_if {σ : L2.St} {H : Hp} {t : TT} {ta tb : TE} {b : Bool} {Q : VK} (h : EvT t σ H b) (h1 : b = true → ∀ H1, Ex H H1 → ta σ H1 Q) (h2 : b = false → ∀ H1, Ex H H1 → tb σ H1 Q) : tIf t ta tb σ H Q := h H (Ex.refl H) _ fun H1 e1 => by
  cases b with
  | true => exact h1 rfl H1 e1
  | false => exact h2 rfl H1 e1
theorem el_catV {σ : L2.St} {H : Hp} {tl tr : TE} {l : Addr} {xs ys : List V} (h1 : Ev tl σ H (.ref l)) (hl : H l = some (.lst xs)) (h2 : EvL tr σ H ys) (hz : xs.length + ys.length ≤ 100000) : EvL (tOp rCat tl tr) σ H (xs ++ ys) := fun H1 e Q q =>
  h1 H1 e _ fun H2 e2 => h2 H2 (e.trans e2) _ fun r H3 _ e3 hr => ⟨l, r, xs, ys, rfl, rfl, e3 _ _ (e2 _ _ (e _ _ hl)), hr, sz_of hz, fun u hu => q u _ (fresh_back (e2.trans e3) hu) ((e2.trans e3).trans (Ex.new hu)) upd_same⟩
theorem x_call {σ : L2.St} {H : Hp} {sp : Sp} {dvs vs : List V} {E : XK} {ta : TA} {Q : VK} (h : EvA ta σ H vs) (k : ∀ H1, Ex H H1 → sp (vs ++ dvs) H1 Q E) : tCall sp dvs E ta σ H Q := h H (Ex.refl H) _ k
section
variable {P : Program} {w : World} {K : PySem.W.Frag} {mg : Str → Option Value} {base : Heap} {fT fO fM fS CT CO CM CX CB : Addr} {dT dO dM dS : FuncData}
theorem scKinds : FnScope ["_law_error", "_law_found"] ["_law_error"] (defScope sKinds) := ⟨rfl, rfl, rfl, by decide +kernel, rfl, by decide +kernel, by decide +kernel⟩
theorem ok_kinds {f : Addr} {fd : FuncData} (F : Fun K "_law_kinds" "_law_kinds" sKinds f fd) (T : Bn mg) (gT : mg "BadThings" = some (.ref CT)) (gO : mg "BadOrder" = some (.ref CO)) (gM : mg "BadTime" = some (.ref CM)) (gX : mg "BadText" = some (.ref CX)) : FnP P w K mg base CX0 1 f fd ["_law_error"] (spHeld (spKinds K CT CO CM CX CB)) := by
  refine fnp_of F scKinds (fun p vs H Q E h => ?_) (fun p cdv A outer s H vs Q E h => ?_)
  · obtain ⟨cls, d, _, _, D, b1, b2, b3, _, _, rfl, _⟩ := h
    rfl
  · obtain ⟨a, oe⟩ := p
    obtain ⟨cls, d, hz, hf, D, b1, b2, b3, rfl, rfl, rfl, N, k⟩ := h
    have hi : CallR (cxH CX0 P w K mg base ["_law_error", "_law_found"] "_law_kinds" (defScope sKinds) f cdv A outer s H E (a, oe)) (.builtin "isinstance") (rIsE K D a) := call_isP N.c List.mem_cons_self hz hf
    refine ⟨_, pss_cons (ps_set (i := 1) scKinds.nd rfl (Or.inl rfl) (pe_lst (pa_cons (pe_callB hi (by rfl) T.isi (by decide +kernel) (pa_cons (pv 0) (pa_cons (pe_glob (v := .ref CT) (by rfl) gT rfl) pa_nil)))
        (pa_cons (pe_callB hi (by rfl) T.isi (by decide +kernel) (pa_cons (pv 0) (pa_cons (pe_glob (v := .ref CO) (by rfl) gO rfl) pa_nil))) (pa_cons (pe_callB hi (by rfl) T.isi (by decide +kernel) (pa_cons (pv 0) (pa_cons (pe_glob (v := .ref CM) (by rfl) gM rfl) pa_nil))) pa_nil)))))
      (pss_one (ps_ret (pe_op op_cat (pv 1) (pe_lst (pa_cons (pe_callB hi (by rfl) T.isi (by decide +kernel) (pa_cons (pv 0) (pa_cons (pe_glob (v := .ref CX) (by rfl) gX rfl) pa_nil)))
        (pa_cons (pe_callB hi (by rfl) T.isi (by decide +kernel) (pa_cons (pv 0) (pa_cons (pe_bltn (v := .ty "ValueError") (by rfl) T.verr (by decide +kernel) rfl) pa_nil))) pa_nil)))))), ?_⟩
    have self : ∀ C : Addr, ∀ u, RelV (.ref C) u → u = .ref C := fun C u r => r
    refine q_asgL (xs := [.bl b1, .bl b2, .bl b3]) (el_lst (ea_cons (ev_cb (ea_cons (ev_var rfl) (ea_cons ev_c ea_nil)) (rc_isP (self CT) N.t)) (ea_cons (ev_cb (ea_cons (ev_var rfl) (ea_cons ev_c ea_nil)) (rc_isP (self CO) N.o)) (ea_cons (ev_cb (ea_cons (ev_var rfl) (ea_cons ev_c ea_nil)) (rc_isP (self CM) N.m)) ea_nil))) (by show 3 ≤ 100000; decide)) fun p H1 np e1 hp => ?_
    exact s_retL (xs := hits b1 b2 b3) (el_catV (xs := [.bl b1, .bl b2, .bl b3]) (ys := [.bl false, .bl true]) (ev_var rfl) hp (el_lst (ea_cons (ev_cb (ea_cons (ev_var rfl) (ea_cons ev_c ea_nil)) (rc_isP (self CX) N.x)) (ea_cons (ev_cb (ea_cons (ev_var rfl) (ea_cons ev_c ea_nil)) (rc_isP (cv := .type "ValueError") (fun u r => r) N.v)) ea_nil)) (by show 2 ≤ 100000; decide)) (by show 3 + 2 ≤ 100000; decide)) fun q H2 nq e2 hq => k.go e1 nq e2 hq
theorem scWithT : FnScope ["_law_door", "_law_things_here"] ["_law_door", "_law_things_here"] (defScope sWithT) := ⟨rfl, rfl, rfl, by decide +kernel, rfl, by decide +kernel, by decide +kernel⟩
/-- the doors, as the law calls them -/
structure Drs (P : Program) (w : World) (K : PySem.W.Frag) (mg : Str → Option Value) (base : Heap) (fD fS fJ fW fX CT CO CM : Addr) (dD dS dJ dW dX : FuncData) : Prop where
  gD : mg "done" = some (.ref fD)
  kD : PySem.W.keepIn K (.ref fD) = true
  bD : Binds K dD ["things", "order"] []
  okD : FnOk P w K mg base (L2.CX P w) 5 fD dD ["things", "order"] (spDoneX K CT CO)
  gS : mg "starts" = some (.ref fS)
  kS : PySem.W.keepIn K (.ref fS) = true
  bS : Binds K dS ["things", "order"] []
  okS : FnOk P w K mg base (L2.CX P w) 5 fS dS ["things", "order"] (spDoneX K CT CO)
  gJ : mg "soonest" = some (.ref fJ)
  kJ : PySem.W.keepIn K (.ref fJ) = true
  bJ : Binds K dJ ["things"] []
  okJ : FnOk P w K mg base (L2.CX P w) 5 fJ dJ ["things"] (spSoonestX K CT)
  gW : mg "within" = some (.ref fW)
  kW : PySem.W.keepIn K (.ref fW) = true
  bW : Binds K dW ["things", "time"] []
  okW : FnOk P w K mg base (L2.CX P w) 5 fW dW ["things", "time"] (spWithinX K CT CM)
  gX : mg "written" = some (.ref fX)
  kX : PySem.W.keepIn K (.ref fX) = true
  bX : Binds K dX ["things"] []
  okX : FnOk P w K mg base (L2.CX P w) 5 fX dX ["things"] (spWrittenX K CT)
section
variable {fD fJ fW fX : Addr} {dD dJ dW dX : FuncData}
theorem ok_withT {f : Addr} {fd : FuncData} (F : Fun K "_law_with_things" "_law_with_things" sWithT f fd) (R : Drs P w K mg base fD fS fJ fW fX CT CO CM dD dS dJ dW dX) : FnOk P w K mg base (L2.CX P w) 6 f fd ["_law_door", "_law_things_here"] (spWithT K CT) := by
  refine F.okX scWithT (fun vs H Q E h => ?_) (fun cdv A outer s H vs Q E hr h => ?_)
  · obtain ⟨n, v, rfl, _⟩ := h
    rfl
  · obtain ⟨n, v, rfl, hv, r⟩ := h
    refine ⟨_, pss_cons (ps_if (pt_cmpR op_lt (pv 0) pe_int (nomark _)) (pss_one (ps_ret (pe_ifExp (pt_cmpR op_eq (pv 0) pe_int (nomark _))
          (pe_call R.okD hr (by rfl) R.gD R.kD R.bD .nil (passes_call (takes_of rfl rfl rfl rfl) fun _ _ _ _ h => h) (pa_cons (pv 1) (pa_cons pe_non pa_nil)))
          (pe_ifExp (pt_cmpR op_eq (pv 0) pe_int (nomark _)) (pe_call R.okS hr (by rfl) R.gS R.kS R.bS .nil (passes_call (takes_of rfl rfl rfl rfl) fun _ _ _ _ h => h) (pa_cons (pv 1) (pa_cons pe_int pa_nil)))
            (pe_call R.okJ hr (by rfl) R.gJ R.kJ R.bJ .nil (passes_call (takes_of rfl rfl rfl rfl) fun _ _ _ _ h => h) (pa_cons (pv 1) pa_nil)))))) pss_nil)
      (pss_one (ps_ret (pe_ifExp (pt_cmpR op_eq (pv 0) pe_int (nomark _)) (pe_call R.okW hr (by rfl) R.gW R.kW R.bW .nil (passes_call (takes_of rfl rfl rfl rfl) fun _ _ _ _ h => h) (pa_cons (pv 1) (pa_cons pe_non pa_nil)))
        (pe_call R.okX hr (by rfl) R.gX R.kX R.bX .nil (passes_call (takes_of rfl rfl rfl rfl) fun _ _ _ _ h => h) (pa_cons (pv 1) pa_nil))))), ?_⟩
    rcases hv with hv | ⟨rfl, l, zs, rfl, hT, hs⟩
    · refine q_when (b := decide (n < 3)) (et_test (ev_op (ev_var rfl) ev_c rv_I0)) (fun _ H1 e1 => ?_) (fun _ H1 e1 => ?_)
      · refine x_if (et_test (ev_op (ev_var rfl) ev_c (rv_eq rfl))) (fun _ H2 e2 => ?_) fun _ H2 e2 => x_if (et_test (ev_op (ev_var rfl) ev_c (rv_eq rfl))) (fun _ H3 e3 => ?_) fun _ H3 e3 => ?_
        · exact x_call (ea_cons (ev_var rfl) (ea_cons ev_c ea_nil)) fun H3 e3 => ⟨v, .non, false, rfl, hv.mono ((e1.trans e2).trans e3), fun _ => r.mono ((e1.trans e2).trans e3), fun h => by cases h⟩
        · exact x_call (ea_cons (ev_var rfl) (ea_cons ev_c ea_nil)) fun H4 e4 => ⟨v, .int 0, false, rfl, hv.mono (((e1.trans e2).trans e3).trans e4), fun _ => r.mono (((e1.trans e2).trans e3).trans e4), fun h => by cases h⟩
        · exact x_call (ea_cons (ev_var rfl) ea_nil) fun H4 e4 => ⟨v, rfl, hv.mono (((e1.trans e2).trans e3).trans e4), r.mono (((e1.trans e2).trans e3).trans e4)⟩
      · refine x_if (et_test (ev_op (ev_var rfl) ev_c (rv_eq rfl))) (fun _ H2 e2 => ?_) fun _ H2 e2 => ?_
        · exact x_call (ea_cons (ev_var rfl) (ea_cons ev_c ea_nil)) fun H3 e3 => ⟨v, .non, false, rfl, hv.mono ((e1.trans e2).trans e3), fun _ => r.mono ((e1.trans e2).trans e3), fun h => by cases h⟩
        · exact x_call (ea_cons (ev_var rfl) ea_nil) fun H3 e3 => ⟨v, false, rfl, hv.mono ((e1.trans e2).trans e3), fun _ => r.mono ((e1.trans e2).trans e3), fun h => by cases h⟩
    · refine q_when (b := false) (et_test (ev_op (ev_var rfl) ev_c rv_I0)) (fun h => by cases h) (fun _ H1 e1 => ?_)
      refine x_if (b := false) (et_is (et_test (ev_op (ev_var rfl) ev_c (rv_eq rfl))) (by decide)) (fun h => by cases h) fun _ H2 e2 => ?_
      exact x_call (ea_cons (ev_var rfl) ea_nil) fun H3 e3 => ⟨.ref l, true, rfl, (tl_ths hT).mono ((e1.trans e2).trans e3), (fun h => by cases h), fun _ => ⟨l, zs, rfl, hT.mono ((e1.trans e2).trans e3), fun _ => r.mono ((e1.trans e2).trans e3), fun h => by rw [hs] at h; cases h⟩⟩
theorem scWithO : FnScope ["_law_things_here", "_law_order_here"] ["_law_things_here", "_law_order_here"] (defScope sWithO) := ⟨rfl, rfl, rfl, by decide +kernel, rfl, by decide +kernel, by decide +kernel⟩
theorem ok_withO {f : Addr} {fd : FuncData} (F : Fun K "_law_with_order" "_law_with_order" sWithO f fd) (R : Drs P w K mg base fD fS fJ fW fX CT CO CM dD dS dJ dW dX) : FnOk P w K mg base (L2.CX P w) 6 f fd ["_law_things_here", "_law_order_here"] (spDoneX K CT CO) := by
  refine F.okX scWithO (fun vs H Q E h => ?_) (fun cdv A outer s H vs Q E hr h => ?_)
  · obtain ⟨v, o, b, rfl, _⟩ := h
    rfl
  · obtain ⟨v, o, b, rfl, hv, kb, kg⟩ := h
    refine ⟨_, pss_one (ps_ret (pe_call R.okD hr (by rfl) R.gD R.kD R.bD .nil (passes_call (takes_of rfl rfl rfl rfl) fun _ _ _ _ h => h) (pa_cons (pv 0) (pa_cons (pv 1) pa_nil)))), ?_⟩
    exact s_giveX (ea_cons (ev_var rfl) (ea_cons (ev_var rfl) ea_nil)) fun H1 e1 => ⟨v, o, b, rfl, hv.mono e1, fun h => (kb h).mono e1, fun h => by
      obtain ⟨l, xs, h1, h2, h3, h4, h5⟩ := kg h
      exact ⟨l, xs, h1, ex_l e1 h2, h3, h4.mono e1, h5.mono e1⟩⟩
theorem scWithS : FnScope ["_law_things_here", "_law_order_here"] ["_law_things_here", "_law_order_here"] (defScope sWithS) := ⟨rfl, rfl, rfl, by decide +kernel, rfl, by decide +kernel, by decide +kernel⟩
theorem ok_withS {f : Addr} {fd : FuncData} (F : Fun K "_law_with_starts" "_law_with_starts" sWithS f fd) (R : Drs P w K mg base fD fS fJ fW fX CT CO CM dD dS dJ dW dX) : FnOk P w K mg base (L2.CX P w) 6 f fd ["_law_things_here", "_law_order_here"] (spDoneX K CT CO) := by
  refine F.okX scWithS (fun vs H Q E h => ?_) (fun cdv A outer s H vs Q E hr h => ?_)
  · obtain ⟨v, o, b, rfl, _⟩ := h
    rfl
  · obtain ⟨v, o, b, rfl, hv, kb, kg⟩ := h
    refine ⟨_, pss_one (ps_ret (pe_call R.okS hr (by rfl) R.gS R.kS R.bS .nil (passes_call (takes_of rfl rfl rfl rfl) fun _ _ _ _ h => h) (pa_cons (pv 0) (pa_cons (pv 1) pa_nil)))), ?_⟩
    exact s_giveX (ea_cons (ev_var rfl) (ea_cons (ev_var rfl) ea_nil)) fun H1 e1 => ⟨v, o, b, rfl, hv.mono e1, fun h => (kb h).mono e1, fun h => by
      obtain ⟨l, xs, h1, h2, h3, h4, h5⟩ := kg h
      exact ⟨l, xs, h1, ex_l e1 h2, h3, h4.mono e1, h5.mono e1⟩⟩
end
abbrev nTold : List Str := ["_law_ask", "_law_one", "_law_other", "_law_error"]
theorem scTold : FnScope nTold ["_law_ask", "_law_one", "_law_other"] (defScope sTold) := ⟨rfl, rfl, rfl, by decide +kernel, rfl, by decide +kernel, by decide +kernel⟩
theorem ok_told {f fK : Addr} {fd dK : FuncData} (F : Fun K "_law_told" "_law_told" sTold f fd) (gB : mg "BenchError" = some (.ref CB)) (gK : mg "_law_kinds" = some (.ref fK)) (kK : PySem.W.keepIn K (.ref fK) = true) (bK : Binds K dK ["_law_error"] []) (GK : FnP P w K mg base CX0 1 fK dK ["_law_error"] (spHeld (spKinds K CT CO CM CX CB))) :
    FnOk P w K mg base CX0 7 f fd ["_law_ask", "_law_one", "_law_other"] (spTold P w K mg base CT CO CM CX CB) := by
  refine F.ok scTold (fun vs H Q E h => ?_) (fun cdv A outer s H vs Q E hr h => ?_)
  · obtain ⟨f, x, y, fd, ps, sp, D, b1, b2, b3, rfl, _⟩ := h
    rfl
  · obtain ⟨fA, x, y, dA, pA, spA, D, b1, b2, b3, rfl, kA, bA, GA, hA, N, k⟩ := h
    have hrh : ∀ a, RoomH 1 ((A.deeper (PyProof.Rows.envOfC "_law_told" (defScope sTold) s.heap.objs.size f cdv)).mark (some (.ref a))) := fun a => ⟨(roomH_of (hr.mono (by decide : 1 ≤ 6))).dp, (roomH_of (hr.mono (by decide : 1 ≤ 6))).un⟩
    refine ⟨_, pss_cons (ps_try_as (i := 3) (tb := fun W => tDrop (fun σ H Q => σ[0]? = some (some (.ref fA)) ∧ (tCons (tVar 1) (tCons (tVar 2) tNil)) σ H fun vs H1 => spA vs H1 Q (WE W σ))) (ts := fun a cls d => tRet (fun σ H Q => (tCons (tVar 3) tNil) σ H fun vs H1 => spKinds K CT CO CM CX CB a cls d vs H1 Q E0)) (Wout := fun _ _ _ _ => False) rfl rfl scTold.nd rfl rfl ⟨rfl, by decide, Or.inl gB⟩ takes0
        (fun W pn xe tk _ => pss_one (ps_expr (by exact pe_callLS (i := 0) GA hr rfl (Or.inl rfl) kA bA (fun σ => passAt tk σ) (pa_cons (pv 1) (pa_cons (pv 2) pa_nil)))))
        (fun a oe cls d pn hz hf => pss_one (ps_ret (by exact PE.weak (pe_callP (p := (a, oe)) GK (hrh a) List.mem_cons_self rfl gK kK bK (pa_cons (pv 3) pa_nil)) fun σ H Q ⟨v, hv, q⟩ => ⟨v, hv, cls, d, hz, hf, q⟩))))
      (pss_one (ps_ret (pe_lst pa_nil))), ?_⟩
    refine ⟨rfl, x, rfl, y, rfl, hA _ _ H (Ex.refl H) fun H1 e1 => ⟨true, N.b, fun _ a na => ?_, fun h => by cases h⟩⟩
    exact ⟨.ref a, rfl, D, b1, b2, b3, rfl, rfl, rfl, N, fun p H2 np e2 hp => k.go e1 np e2 hp⟩
end
end Bp
namespace Bp
open PySem L2 Evl
/-! ### draws -/
def primes : List Int := [1000003, 1000033, 1000037, 1000039, 1000081, 1000099, 1000117, 1000121, 1000133, 1000151, 1000159, 1000171, 1000183, 1000187, 1000193, 1000199]
def drawF (c k m : Int) : Int := (c * 48271 + k * 69621) % primes.getD (k % 16).toNat 1 % m
theorem drawF_lt {c k m : Int} (h : 0 < m) : 0 ≤ drawF c k m ∧ drawF c k m < m := ⟨Int.emod_nonneg _ (by omega), Int.emod_lt_of_pos _ h⟩
theorem prime_pos (j : Nat) : 0 < primes.getD j 1 := by
  rw [List.getD_eq_getElem?_getD]
  cases e : primes[j]? with
  | none => decide
  | some p =>
    have : ∀ p ∈ primes, 0 < p := by decide
    exact this p (List.mem_of_getElem? e)
theorem prime_at (k : Int) : atI (primes.map V.int) (k % 16) = some (.int (primes.getD (k % 16).toNat 1)) := by
  have h1 : 0 ≤ k % 16 := Int.emod_nonneg _ (by decide)
  have h2 : k % 16 < 16 := Int.emod_lt_of_pos _ (by decide)
  have h3 : (k % 16).toNat < primes.length := by show (k % 16).toNat < 16; omega
  refine at_of (j := (k % 16).toNat) (by omega) ?_
  rw [List.getElem?_map, List.getD_eq_getElem?_getD, List.getElem?_eq_getElem h3]
  rfl
/-! ### the promises of the law's own helpers -/
def spCell (K : PySem.W.Frag) : Sp := fun vs H Q _ => ∃ (a : Addr) (ns : List Int) (k : Nat), vs = [.ref a, .int (k : Int)] ∧ SqL K H a (ns.map V.int) ∧ RetV (.int (ns.getD k 0)) H Q
def spDraw : Sp := fun vs H Q _ => ∃ c k m : Int, vs = [.int c, .int k, .int m] ∧ 0 < m ∧ RetV (.int (drawF c k m)) H Q
def spThings (K : PySem.W.Frag) : Sp := fun vs H Q _ => ∃ (a : Addr) (ns : List Int), vs = [.ref a] ∧ SqL K H a (ns.map V.int) ∧ ns.length ≤ 63 ∧
  ∀ (l : Addr) (zs : List (Addr × Th)) (H' : Hp), Ex H H' → H l = none → H' l = some (.lst (tv zs)) → (∀ z ∈ zs, H' z.1 = some (.tup (iv z.2)) ∧ Bd z.2) → zs.length ≤ 189 → Q (.ref l) H'
section
variable {P : Program} {w : World} {K : PySem.W.Frag} {mg : Str → Option Value} {base : Heap}
theorem scCell : FnScope ["_law_script", "_law_k"] ["_law_script", "_law_k"] (defScope sCell) := ⟨rfl, rfl, rfl, by decide +kernel, rfl, by decide +kernel, by decide +kernel⟩
theorem ok_cell {f : Addr} {fd : FuncData} (F : Fun K "_law_cell_at" "_law_cell_at" sCell f fd) (T : Bn mg) : FnOk P w K mg base CX0 1 f fd ["_law_script", "_law_k"] (spCell K) := by
  refine F.ok scCell (fun vs H Q E h => ?_) (fun cdv A outer s H vs Q E hr h => ?_)
  · obtain ⟨a, ns, k, rfl, _⟩ := h
    rfl
  · obtain ⟨a, ns, k, rfl, hS, q⟩ := h
    refine ⟨_, pss_cons (ps_if (pt_cmpR op_lt (pv 1) (pe_callB call_len_seq (by rfl) T.len PySem.boot_len (pa_cons (pv 0) pa_nil)) (nomark _)) (pss_one (ps_ret (pe_ix ix_list (pv 0) (pv 1) (fun _ _ => rfl)))) pss_nil)
      (pss_one (ps_ret pe_int)), ?_⟩
    refine q_when (b := decide ((k : Int) < ((ns.map V.int).length : Int))) (et_test (ev_op (ev_var rfl) (ev_cb (ea_cons (ev_var rfl) ea_nil) (rc_lenL hS)) rv_I0)) (fun hb H1 e1 => ?_) (fun hb H1 e1 => ?_)
    · have hk : k < ns.length := by
        have := of_decide_eq_true hb
        rw [List.length_map] at this
        omega
      refine s_ret (ev_op (ev_var rfl) (ev_var rfl) (rv_ixL (v := .int (ns.getD k 0)) (ex_l e1 hS) (atI_nat ?_))) fun H2 e2 => q.go (e1.trans e2)
      rw [List.getElem?_map, List.getD_eq_getElem?_getD, List.getElem?_eq_getElem hk]
      rfl
    · have hk : ns.length ≤ k := by
        have := of_decide_eq_false hb
        rw [List.length_map] at this
        omega
      have e0 : ns.getD k 0 = 0 := by rw [List.getD_eq_getElem?_getD, List.getElem?_eq_none hk]; rfl
      rw [e0] at q
      exact s_ret ev_c fun H2 e2 => q.go (e1.trans e2)
theorem scDraw : FnScope ["_law_cell", "_law_k", "_law_many", "_law_primes"] ["_law_cell", "_law_k", "_law_many"] (defScope sDraw) := ⟨rfl, rfl, rfl, by decide +kernel, rfl, by decide +kernel, by decide +kernel⟩
theorem ok_draw {f : Addr} {fd : FuncData} (F : Fun K "_law_draw" "_law_draw" sDraw f fd) : FnOk P w K mg base CX0 1 f fd ["_law_cell", "_law_k", "_law_many"] spDraw := by
  refine F.ok scDraw (fun vs H Q E h => ?_) (fun cdv A outer s H vs Q E hr h => ?_)
  · obtain ⟨c, k, m, rfl, _⟩ := h
    rfl
  · obtain ⟨c, k, m, rfl, hm, q⟩ := h
    refine ⟨_, pss_cons (ps_set (i := 3) scDraw.nd rfl (Or.inl rfl) (pe_tup (pa_cons pe_int (pa_cons pe_int (pa_cons pe_int (pa_cons pe_int (pa_cons pe_int (pa_cons pe_int (pa_cons pe_int (pa_cons pe_int (pa_cons pe_int (pa_cons pe_int (pa_cons pe_int (pa_cons pe_int (pa_cons pe_int (pa_cons pe_int (pa_cons pe_int (pa_cons pe_int pa_nil))))))))))))))))))
      (pss_one (ps_ret (pe_op op_mod (pe_op op_mod (pe_op op_add (pe_op op_mul (pv 0) pe_int) (pe_op op_mul (pv 1) pe_int)) (pe_ix ix_tup (pv 3) (pe_op op_mod (pv 1) pe_int) (fun _ _ => rfl))) (pv 2)))), ?_⟩
    refine q_asgU (xs := primes.map V.int) (eu_tup (ea_cons ev_c (ea_cons ev_c (ea_cons ev_c (ea_cons ev_c (ea_cons ev_c (ea_cons ev_c (ea_cons ev_c (ea_cons ev_c (ea_cons ev_c (ea_cons ev_c (ea_cons ev_c (ea_cons ev_c (ea_cons ev_c (ea_cons ev_c (ea_cons ev_c (ea_cons ev_c ea_nil)))))))))))))))) (by decide)) fun p H1 np e1 hp => ?_
    refine s_ret (v := .int (drawF c k m)) (ev_op (ev_op (ev_op (ev_op (ev_var rfl) ev_c (rv_I (.inr (by decide)))) (ev_op (ev_var rfl) ev_c (rv_I (.inr (by decide)))) rv_I0)
      (ev_op (ev_var rfl) (ev_op (ev_var rfl) ev_c (rv_I (by decide))) (rv_ixT (st_of hp) (prime_at k))) (rv_I (prime_pos _))) (ev_var rfl) (rv_I hm)) fun H2 e2 => q.go (e1.trans e2)
end
end Bp
namespace Bp
open PySem L2 Evl
abbrev nThings : List Str := ["_law_script", "_law_kind", "_law_found", "_law_k", "_law_cell", "_law_three", "_law_most", "_law_one", "_law_rest", "_law_dry", "_law_other"]
theorem scThings : FnScope nThings ["_law_script"] (defScope sThings) := ⟨rfl, rfl, rfl, by decide +kernel, rfl, by decide +kernel, by decide +kernel⟩
section
variable {P : Program} {w : World} {K : PySem.W.Frag} {mg : Str → Option Value} {base : Heap}
theorem ok_things {f fC fD : Addr} {fd fdC fdD : FuncData} (F : Fun K "_law_things" "_law_things" sThings f fd) (T : Bn mg) (gC : mg "_law_cell_at" = some (.ref fC)) (FC : Fun K "_law_cell_at" "_law_cell_at" sCell fC fdC) (bC : Binds K fdC ["_law_script", "_law_k"] []) (GC : FnOk P w K mg base CX0 1 fC fdC ["_law_script", "_law_k"] (spCell K))
    (gD : mg "_law_draw" = some (.ref fD)) (FD : Fun K "_law_draw" "_law_draw" sDraw fD fdD) (bD : Binds K fdD ["_law_cell", "_law_k", "_law_many"] []) (GD : FnOk P w K mg base CX0 1 fD fdD ["_law_cell", "_law_k", "_law_many"] spDraw) : FnOk P w K mg base CX0 2 f fd ["_law_script"] (spThings K) := by
  refine F.ok scThings (fun vs H Q E h => ?_) (fun cdv A outer s H vs Q E hr h => ?_)
  · obtain ⟨a, ns, rfl, _⟩ := h
    rfl
  · obtain ⟨a, ns, rfl, hS, hz, q⟩ := h
    refine ⟨_, pss_cons (ps_set (i := 0) scThings.nd rfl (Or.inl rfl) (pe_slice sl_list (pv 0) po_none (po_some pe_int)))
      (pss_cons (ps_par (i := 1) (j := 2) (by rfl) scThings.nd rfl rfl (by decide) rfl rfl (pa_cons (pe_call GD hr (by rfl) gD FD.kp bD .nil pass0 (pa_cons (pe_call GC hr (by rfl) gC FC.kp bC .nil pass0 (pa_cons (pv 0) (pa_cons pe_int pa_nil))) (pa_cons pe_int (pa_cons pe_int pa_nil)))) (pa_cons (pe_lst pa_nil) pa_nil)) (by rfl))
      (pss_cons (ps_if (pt_cmpR op_eq (pe_op op_mod (pe_callB call_len_seq (by rfl) T.len PySem.boot_len (pa_cons (pv 0) pa_nil)) pe_int) pe_int (nomark _))
        (pss_cons (ps_for PassesOwn.never rfl (pi_range3 rfl T.range (pa_cons pe_int (pa_cons (pe_callB call_len_seq (by rfl) T.len PySem.boot_len (pa_cons (pv 0) pa_nil)) (pa_cons pe_int pa_nil)))) (pg_name (i := 3) scThings.nd rfl (Or.inl rfl))
          (pss_cons (ps_setLc (i := 5) (own := [("_law_cell", 4)]) (g := gName 4) (tt := tYes) (by rfl) scThings.nd rfl rfl (sw_true rfl rfl rfl (by decide +kernel)) (pi_list (pe_slice sl_list (pv 0) (po_some (pv 3)) (po_some (pe_op op_add (pv 3) pe_int)))) (blkOk_by (N := nThings) (sc := defScope sThings) (by decide +kernel))
            (fun _ _ _ _ _ => pg_name (i := 4) scThings.nd rfl (Or.inl rfl)) (fun _ _ _ _ _ => pts_nil) (fun _ _ _ _ _ => pe_op op_mod (pv 4) (pe_op op_pow pe_int pe_int)))
          (pss_one (ps_expr (pe_bm PySem.F.plainAttrs_list PySem.F.slot_list_append PySem.F.type_list_append mt_append (pv 2) (pa_cons (pe_tup (pa_cons (pe_ix ix_list (pv 5) pe_int (fun _ _ => rfl)) (pa_cons (pe_ix ix_list (pv 5) pe_int (fun _ _ => rfl)) (pa_cons (pe_ix ix_list (pv 5) pe_int (fun _ _ => rfl)) pa_nil)))) pa_nil))))))
        (pss_one (ps_ret (pv 2)))) pss_nil)
      (pss_cons (ps_set (i := 6) scThings.nd rfl (Or.inl rfl) (pe_ix ix_tup (pe_tup (pa_cons pe_int (pa_cons pe_int (pa_cons (pe_op op_pow pe_int pe_int) pa_nil)))) (pe_call GD hr (by rfl) gD FD.kp bD .nil pass0 (pa_cons (pe_call GC hr (by rfl) gC FC.kp bC .nil pass0 (pa_cons (pv 0) (pa_cons pe_int pa_nil))) (pa_cons pe_int (pa_cons pe_int pa_nil)))) (fun _ _ => rfl)))
      (pss_cons (ps_for PassesOwn.never rfl (pi_range1 rfl T.range (pa_cons (pe_op op_mul (pe_callB call_len_seq (by rfl) T.len PySem.boot_len (pa_cons (pv 0) pa_nil)) (pe_ifExp (pt_cmpR op_eq (pv 1) pe_int (nomark _)) pe_int pe_int)) pa_nil)) (pg_name (i := 3) scThings.nd rfl (Or.inl rfl))
        (pss_cons (ps_set (i := 4) scThings.nd rfl (Or.inl rfl) (pe_op op_add (pe_ix ix_list (pv 0) (pe_op op_mod (pv 3) (pe_callB call_len_seq (by rfl) T.len PySem.boot_len (pa_cons (pv 0) pa_nil))) (fun _ _ => rfl)) (pe_op op_mul pe_int (pe_op op_fdiv (pv 3) (pe_callB call_len_seq (by rfl) T.len PySem.boot_len (pa_cons (pv 0) pa_nil))))))
        (pss_cons (ps_par (i := 7) (j := 8) (by rfl) scThings.nd rfl rfl (by decide) rfl rfl (pa_cons (pe_op op_mod (pv 4) (pv 6)) (pa_cons (pe_op op_fdivW (pv 4) (pv 6)) pa_nil)) (by rfl))
        (pss_cons (ps_par (i := 9) (j := 10) (by rfl) scThings.nd rfl rfl (by decide) rfl rfl (pa_cons (pe_op op_mod (pv 8) (pv 6)) (pa_cons (pe_op op_mod (pe_op op_fdivW (pv 8) (pv 6)) (pv 6)) pa_nil)) (by rfl))
        (pss_cut (ps_if (pt_cmpR op_gt (pv 1) pe_int (nomark _))
          (pss_cons (ps_set (i := 7) scThings.nd rfl (Or.inl rfl) (pe_op op_fdiv (pe_op op_mul (pe_call GD hr (by rfl) gD FD.kp bD .nil pass0 (pa_cons (pv 4) (pa_cons (pe_op op_add (pe_op op_mod (pv 3) pe_int) pe_int) (pa_cons pe_int pa_nil)))) (pv 6)) pe_int))
          (pss_cons (ps_set (i := 9) scThings.nd rfl (Or.inl rfl) (pe_op op_fdiv (pe_op op_mul (pe_call GD hr (by rfl) gD FD.kp bD .nil pass0 (pa_cons (pe_op op_add (pe_op op_mul (pv 4) pe_int) (pv 3)) (pa_cons (pe_op op_add (pe_op op_mod (pv 3) pe_int) pe_int)
              (pa_cons (pe_ix ix_tup (pe_tup (pa_cons pe_int (pa_cons pe_int (pa_cons pe_int pa_nil)))) (pe_call GD hr (by rfl) gD FD.kp bD .nil pass0 (pa_cons (pv 4) (pa_cons pe_int (pa_cons pe_int pa_nil)))) (fun _ _ => rfl)) pa_nil)))) (pv 6)) pe_int))
          (pss_one (ps_set (i := 10) scThings.nd rfl (Or.inl rfl) (pe_op op_fdiv (pe_op op_mul (pe_call GD hr (by rfl) gD FD.kp bD .nil pass0 (pa_cons (pe_op op_add (pe_op op_mul (pv 4) pe_int) pe_int) (pa_cons (pe_op op_add (pe_op op_mod (pv 3) pe_int) pe_int) (pa_cons pe_int pa_nil)))) (pv 6)) pe_int))))) pss_nil)
        (pss_cut (ps_if (pt_cmpR op_eq (pv 1) pe_int (nomark _)) (pss_one (ps_set (i := 9) scThings.nd rfl (Or.inl rfl) pe_int)) pss_nil)
        (pss_cut (ps_if (PW.pt (pw_and (pt_cmpR op_eq (pv 1) pe_int (nomark _)) (pw_and1 (pt_cmpR op_lt (pv 7) (pv 10) (nomark _))))) (pss_one (ps_par (i := 7) (j := 10) (by rfl) scThings.nd rfl rfl (by decide) rfl rfl (pa_cons (pv 10) (pa_cons (pv 7) pa_nil)) (by rfl))) pss_nil)
        (pss_one (ps_expr (pe_bm PySem.F.plainAttrs_list PySem.F.slot_list_append PySem.F.type_list_append mt_append (pv 2) (pa_cons (pe_tup (pa_cons (pv 7) (pa_cons (pv 9) (pa_cons (pv 10) pa_nil)))) pa_nil)))))))))))
      (pss_one (ps_ret (pv 2))))))), ?_⟩
    have hzl : (ns.map V.int).length ≤ 63 := by rw [List.length_map]; exact hz
    -- script = script[:63]
    refine q_asgL (xs := ns.map V.int) (fun H1 e Q qq => (el_sl (ev_var rfl) eo_none (eo_some ev_c) (ex_l e hS)) H1 (Ex.refl H1) Q fun p H2 np e2 hp => qq p H2 np e2 (by rw [hp, cut63 hzl])) fun c H1 nc e1 hc => ?_
    have nc0 : H c = none := nc
    have hC : SqL K H1 c (ns.map V.int) := sq_of hc
    -- kind, found = draw(..), []
    have cellv : ∀ {σ : L2.St} {H2 : Hp} {tl tk : TE} (k : Nat), Ex H1 H2 → Ev tl σ H2 (.ref c) → Ev tk σ H2 (.int (k : Int)) → Ev (tCall (spCell K) [] E0 (tCons tl (tCons tk tNil))) σ H2 (.int (ns.getD k 0)) := fun k e2 h1 h2 =>
      ev_call (ea_cons h1 (ea_cons h2 ea_nil)) fun H3 e3 Q q E => ⟨c, ns, k, rfl, ex_l (e2.trans e3) hC, q⟩
    have drawv : ∀ {σ : L2.St} {H2 : Hp} {t1 t2 t3 : TE} {x y z : Int}, 0 < z → Ev t1 σ H2 (.int x) → Ev t2 σ H2 (.int y) → Ev t3 σ H2 (.int z) → Ev (tCall spDraw [] E0 (tCons t1 (tCons t2 (tCons t3 tNil)))) σ H2 (.int (drawF x y z)) := fun hp h1 h2 h3 =>
      ev_call (ea_cons h1 (ea_cons h2 (ea_cons h3 ea_nil))) fun H3 e3 Q q E => ⟨_, _, _, rfl, hp, q⟩
    refine drawv (z := 6) (by decide) (cellv 0 (Ex.refl H1) (ev_var rfl) ev_c) ev_c ev_c H1 (Ex.refl H1) _ fun H2 e2 => ?_
    have hk := drawF_lt (c := ns.getD 0 0) (k := 6) (m := 6) (by decide)
    generalize drawF (ns.getD 0 0) 6 6 = kind at hk
    refine ⟨Nat.zero_le _, fun l nl => ⟨_, _, rfl, ?_⟩⟩
    have nl0 : H1 l = none := fresh_back e2 nl
    have m0 : Made H1 (upd H2 l (.lst [])) l [] := ⟨e2.trans (Ex.new nl), upd_same, fun z hz => nomatch hz⟩
    have eC := m0.ex
    generalize hH3 : upd H2 l (.lst []) = H3 at m0 eC
    clear hH3
    refine q_when (b := decide (V.int ((ns.map V.int).length % 3 : Int) = V.int 0)) (et_test (ev_op (ev_op (ev_cb (ea_cons (ev_var rfl) ea_nil) (rc_lenL (ex_l eC hC))) ev_c (rv_I (by decide))) ev_c (rv_eq rfl))) (fun hb H4 e4 => ?_) (fun hb H4 e4 => ?_)
    · -- by threes
      have h3 : ns.length % 3 = 0 := by
        have := V.int.inj (of_decide_eq_true hb)
        rw [List.length_map] at this
        omega
      obtain ⟨r1, r2⟩ := rgc3 ns.length (by omega) h3
      refine q_forR3 (lo := 0) (hi := (ns.length : Int)) (c := 3) (n := ns.length / 3) (ea_cons ev_c (ea_cons (ev_is (ev_cb (ea_cons (ev_var rfl) ea_nil) (rc_lenL (ex_l (eC.trans e4) hC))) (by rw [List.length_map])) (ea_cons ev_c ea_nil))) ⟨by decide, by decide, r1, r2⟩
        (fun i σ' H' => ∃ (zs : List (Addr × Th)) (v3 v5 : Option V), σ' = [some (.ref c), some (.int kind), some (.ref l), v3, none, v5, none, none, none, none, none] ∧ Made H1 H' l zs ∧ zs.length = i)
        (fun H5 e5 => ⟨[], none, none, rfl, m0.more (e4.trans e5), rfl⟩) ?_ ?_
      · rintro i σ' H' hi ⟨zs, v3, v5, rfl, m, hzs⟩
        have eC' := m.ex
        have hi3 : i * 3 + 3 ≤ ns.length := by omega
        have e0 : (0 : Int) + (i : Int) * 3 = ((i * 3 : Nat) : Int) := by omega
        rw [e0]
        have hcs : ((ns.drop (i * 3)).take 3).length = 3 := by rw [List.length_take, List.length_drop]; omega
        refine q_asgL (xs := given 3 (fun _ => true) fun j => .int (((ns.drop (i * 3)).take 3).getD j 0 % 10 ^ 59)) ?_ fun p H5 np e5 hp => ?_
        · have hE : EvL _ _ H' (((ns.drop (i * 3)).take 3).map V.int) := fun H5 e5 Q qq => el_sl (σ := [some (.ref c), some (.int kind), some (.ref l), some (.int ((i * 3 : Nat) : Int)), none, v5, none, none, none, none, none]) (tl := tPart (tVar 3)) (th := tPart (tOp (rI0 fun i j => .int (i + j)) (tVar 3) (tC (.int 3)))) (te := tVar 0) (ev_var rfl) (eo_some (ev_var rfl)) (eo_some (ev_op (ev_var rfl) ev_c rv_I0)) (ex_l (eC'.trans e5) hC) H5 (Ex.refl H5) Q fun p H6 np e6 hp => qq p H6 np e6 (by
            rw [hp, cut3 (by rw [List.length_map]; exact hi3), List.map_take, List.map_drop])
          have := el_lcNL (K := K) (j := 4) (vs := [4]) (t := tYes) (te := tOp (rI (fun _ j => 0 < j) fun i j => .int (i % j)) (tVar 4) (tOp (rI CPow fun i j => .int (i ^ j.toNat)) (tC (.int 10)) (tC (.int 59)))) (fun _ => true) (fun j => V.int (((ns.drop (i * 3)).take 3).getD j 0 % 10 ^ 59)) hE (by rw [List.length_map, hcs]; decide) (fun x => rfl) (fun j x H5 e5 hj => et_yes) (fun j x H5 e5 hj _ => ?_)
          · rw [List.length_map, hcs] at this
            exact this
          · rw [List.getElem?_map] at hj
            cases hq : ((ns.drop (i * 3)).take 3)[j]? with
            | none => rw [hq] at hj; cases hj
            | some y =>
              rw [hq] at hj
              obtain rfl := Option.some.inj hj
              rw [List.getD_eq_getElem?_getD, hq]
              exact ev_op (ev_var rfl) (ev_op ev_c ev_c (rv_I ⟨by decide, by decide, by decide⟩)) (rv_I (by decide))
        · generalize ((ns.drop (i * 3)).take 3) = cs at hp
          have hb : ∀ x : Int, 0 ≤ x % 10 ^ 59 ∧ x % 10 ^ 59 < 10 ^ 59 := fun x => ⟨Int.emod_nonneg _ (by decide), Int.emod_lt_of_pos _ (by decide)⟩
          refine s_made (t := (cs.getD 0 0 % 10 ^ 59, cs.getD 1 0 % 10 ^ 59, cs.getD 2 0 % 10 ^ 59)) (m.more e5) nl0 (by omega) (ev_var rfl)
            (ea_cons (ev_op (ev_var rfl) ev_c (rv_ixL (sq_of hp) rfl)) (ea_cons (ev_op (ev_var rfl) ev_c (rv_ixL (sq_of hp) rfl)) (ea_cons (ev_op (ev_var rfl) ev_c (rv_ixL (sq_of hp) rfl)) ea_nil))) ⟨hb _, hb _, hb _⟩ fun t H6 m6 => ⟨_, _, _, rfl, m6, ?_⟩
          rw [List.length_append, hzs]
          rfl
      · rintro σ' H' ⟨zs, v3, v5, rfl, m, hzs⟩
        exact s_ret (ev_var rfl) fun H5 e5 => q l zs H5 ((e1.trans m.ex).trans e5) (fresh_back e1 nl0) (e5 _ _ m.ls) (fun z hz => ⟨e5 _ _ (m.it z hz).1, (m.it z hz).2⟩) (by omega)
    · -- one for each number
      have hL : 0 < (ns.map V.int).length := by
        have := of_decide_eq_false hb
        rw [List.length_map] at this ⊢
        rcases Nat.eq_zero_or_pos ns.length with h | h
        · rw [h] at this
          exact absurd rfl this
        · exact h
      have hd := drawF_lt (c := ns.getD 1 0) (k := 7) (m := 3) (by decide)
      have hdr := drawv (σ := [some (.ref c), some (.int kind), some (.ref l), none, none, none, none, none, none, none, none]) (z := 3) (by decide) (cellv 1 (eC.trans e4) (tl := tVar 0) (tk := tC (.int 1)) (ev_var rfl) ev_c) (t2 := tC (.int 7)) (t3 := tC (.int 3)) ev_c ev_c
      generalize drawF (ns.getD 1 0) 7 3 = d at hd hdr
      obtain ⟨most, am, hm0, hm1⟩ := pick3 (a := 3) (b := 10) (c := 10 ^ 20) hd.1 hd.2 (10 ^ 20) (by decide) (by decide) (by decide)
      refine q_asg (v := .int most) (ev_opU1 (xs := [.int 3, .int 10, .int (10 ^ 20)]) (eu_tup (ea_cons ev_c (ea_cons ev_c (ea_cons (ev_is (ev_op ev_c ev_c (rv_I ⟨by decide, by decide, by decide⟩)) rfl) ea_nil))) (by show 3 ≤ 100000; decide)) (fun H5 e5 => hdr.mono e5) fun p H5 hp e5 => rv_ixT (st_of hp) am) fun H5 e5 => ?_
      obtain ⟨mult, hm3, ht, hf⟩ : ∃ mult : Nat, (mult = 3 ∨ mult = 1) ∧ (decide (V.int kind = V.int 5) = true → mult = 3) ∧ (decide (V.int kind = V.int 5) = false → mult = 1) := by
        cases decide (V.int kind = V.int 5) with
        | true => exact ⟨3, .inl rfl, fun _ => rfl, fun h => by cases h⟩
        | false => exact ⟨1, .inr rfl, fun h => (by cases h), fun _ => rfl⟩
      obtain ⟨N, hN, hN2⟩ : ∃ N : Nat, ((ns.map V.int).length : Int) * (mult : Int) = (N : Int) ∧ N ≤ 189 := by
        rcases hm3 with rfl | rfl
        · exact ⟨(ns.map V.int).length * 3, by omega, by omega⟩
        · exact ⟨(ns.map V.int).length, by omega, by omega⟩
      have m4 : Made H1 H5 l [] := m0.more (e4.trans e5)
      refine q_forR1 (n := (N : Int)) (ea_cons (ev_is (ev_op (ev_cb (ea_cons (ev_var rfl) ea_nil) (rc_lenL (ex_l m4.ex hC))) (ev_if (v := .int (mult : Int)) (et_test (ev_op (ev_var rfl) ev_c (rv_eq rfl))) (fun h => by rw [ht h]; exact ev_c) (fun h => by rw [hf h]; exact ev_c)) (rv_I (.inl (by omega)))) (by rw [hN])) ea_nil) (by omega)
        (fun i σ' H' => ∃ (zs : List (Addr × Th)) (v3 v4 v7 v8 v9 v10 : Option V), σ' = [some (.ref c), some (.int kind), some (.ref l), v3, v4, none, some (.int most), v7, v8, v9, v10] ∧ Made H1 H' l zs ∧ zs.length = i)
        (fun H6 e6 => ⟨[], none, none, none, none, none, none, rfl, m4.more e6, rfl⟩) ?_ ?_
      · rintro i σ' H' hi ⟨zs, v3, v4, v7, v8, v9, v10, rfl, m, hzs⟩
        have hLi : 0 < ((ns.map V.int).length : Int) := by omega
        have hr1 : 0 ≤ (i : Int) % ((ns.map V.int).length : Int) := Int.emod_nonneg _ (by omega)
        have hr2 : (i : Int) % ((ns.map V.int).length : Int) < ((ns.map V.int).length : Int) := Int.emod_lt_of_pos _ hLi
        obtain ⟨j, hj⟩ : ∃ j : Nat, (i : Int) % ((ns.map V.int).length : Int) = (j : Int) := ⟨((i : Int) % ((ns.map V.int).length : Int)).toNat, by omega⟩
        have hjl : j < ns.length := by
          rw [List.length_map] at hr2 hj
          omega
        have hat : (ns.map V.int)[j]? = some (.int ns[j]) := by
          rw [List.getElem?_map, List.getElem?_eq_getElem hjl]
          rfl
        generalize ns[j] = nj at hat
        have hw70 : most.natAbs < 2 ^ 70 := Nat.lt_of_le_of_lt (by omega : most.natAbs ≤ 100000000000000000000) (by decide)
        refine q_asg (ev_op (ev_op (ev_var rfl) (ev_op (ev_var rfl) (ev_cb (ea_cons (ev_var rfl) ea_nil) (rc_lenL (ex_l m.ex hC))) (rv_I hLi)) (rv_ixL (ex_l m.ex hC) (at_of hj hat))) (ev_op ev_c (ev_op (ev_var rfl) (ev_cb (ea_cons (ev_var rfl) ea_nil) (rc_lenL (ex_l m.ex hC))) (rv_I ⟨hLi, by omega⟩)) (rv_I (.inl (by decide)))) rv_I0) fun H6 e6 => ?_
        generalize nj + 977 * ((i : Int) / ((ns.map V.int).length : Int)) = cell
        refine q_par (ea_cons (ev_op (ev_var rfl) (ev_var rfl) (rv_I hm0)) (ea_cons (ev_op (ev_var rfl) (ev_var rfl) (rv_I (wide_div hm0 hw70 (by decide) (by decide)))) ea_nil)) fun H7 e7 => ?_
        refine q_par (ea_cons (ev_op (ev_var rfl) (ev_var rfl) (rv_I hm0)) (ea_cons (ev_op (ev_op (ev_var rfl) (ev_var rfl) (rv_I (wide_div hm0 hw70 (by decide) (by decide)))) (ev_var rfl) (rv_I hm0)) ea_nil)) fun H8 e8 => ?_
        have m8 := m.more ((e6.trans e7).trans e8)
        have bd : ∀ x : Int, 0 ≤ x % most ∧ x % most < 10 ^ 59 := fun x => by
          have h1 := Int.emod_nonneg x (show most ≠ 0 by omega)
          have h2 := Int.emod_lt_of_pos x hm0
          omega
        refine q_cut (M := fun σ2 H2 => ∃ (x y z : Int) (v8 : Option V), σ2 = [some (.ref c), some (.int kind), some (.ref l), some (.int (i : Int)), some (.int cell), none, some (.int most), some (.int x), v8, some (.int y), some (.int z)] ∧ Made H1 H2 l zs ∧ Bd (x, y, z)) ?_ ?_
        · refine s_when (et_test (ev_op (ev_var rfl) ev_c rv_I0)) (fun _ H9 e9 => ?_) (fun _ H9 e9 => ⟨_, _, _, _, rfl, m8.more e9, bd _, bd _, bd _⟩)
          have d1 := drawF_lt (c := cell) (k := (i : Int) % 5 + 1) (m := 30) (by decide)
          refine q_asg (ev_op (ev_op (drawv (z := 30) (by decide) (ev_var rfl) (ev_op (ev_op (ev_var rfl) ev_c (rv_I (by decide))) ev_c rv_I0) ev_c) (ev_var rfl) (rv_I (.inl (by omega)))) ev_c (rv_I ⟨by decide, by decide⟩)) fun H10 e10 => ?_
          have d2 := drawF_lt (c := cell) (k := 3) (m := 3) (by decide)
          obtain ⟨p2, a2, q0, q1⟩ := pick3 (a := 1) (b := 30) (c := 200) d2.1 d2.2 200 (by decide) (by decide) (by decide)
          have d3 := drawF_lt (c := cell * 3 + (i : Int)) (k := (i : Int) % 7 + 2) (m := p2) q0
          refine q_asg (ev_op (ev_op (drawv (z := p2) q0 (ev_op (ev_op (ev_var rfl) ev_c (rv_I (.inr (by decide)))) (ev_var rfl) rv_I0) (ev_op (ev_op (ev_var rfl) ev_c (rv_I (by decide))) ev_c rv_I0)
            (ev_opU1 (xs := [.int 1, .int 30, .int 200]) (eu_tup (ea_cons ev_c (ea_cons ev_c (ea_cons ev_c ea_nil))) (by show 3 ≤ 100000; decide)) (fun H5 e5 => drawv (z := 3) (by decide) (ev_var rfl) ev_c ev_c) fun p H5 hp e5 => rv_ixT (st_of hp) a2)) (ev_var rfl) (rv_I (.inl (by omega)))) ev_c (rv_I ⟨by decide, by decide⟩)) fun H11 e11 => ?_
          have d4 := drawF_lt (c := cell * 7 + 1) (k := (i : Int) % 3 + 9) (m := 30) (by decide)
          refine s_asg (ev_op (ev_op (drawv (z := 30) (by decide) (ev_op (ev_op (ev_var rfl) ev_c (rv_I (.inr (by decide)))) ev_c rv_I0) (ev_op (ev_op (ev_var rfl) ev_c (rv_I (by decide))) ev_c rv_I0) ev_c) (ev_var rfl) (rv_I (.inl (by omega)))) ev_c (rv_I ⟨by decide, by decide⟩)) fun H12 e12 => ?_
          exact ⟨_, _, _, _, rfl, m8.more (((e9.trans e10).trans e11).trans e12), part_ok d1.1 (by omega) hm0 hm1, part_ok d3.1 (by omega) hm0 hm1, part_ok d4.1 (by omega) hm0 hm1⟩
        · rintro σ2 H2 ⟨x, y, z, v8', rfl, m2, hb2⟩
          refine q_cut (M := fun σ2 H2 => ∃ (x y z : Int) (v8 : Option V), σ2 = [some (.ref c), some (.int kind), some (.ref l), some (.int (i : Int)), some (.int cell), none, some (.int most), some (.int x), v8, some (.int y), some (.int z)] ∧ Made H1 H2 l zs ∧ Bd (x, y, z)) ?_ ?_
          · exact s_when (et_test (ev_op (ev_var rfl) ev_c (rv_eq rfl))) (fun _ H9 e9 => s_asg ev_c fun H10 e10 => ⟨_, _, _, _, rfl, m2.more (e9.trans e10), hb2.1, ⟨Int.le_refl 0, by show (0 : Int) < 10 ^ 59; decide⟩, hb2.2.2⟩) (fun _ H9 e9 => ⟨_, _, _, _, rfl, m2.more e9, hb2⟩)
          · clear hb2
            rintro σ3 H3' ⟨x, y, z, v8'', rfl, m3, hb3⟩
            refine q_cut (M := fun σ2 H2 => ∃ (x y z : Int) (v8 : Option V), σ2 = [some (.ref c), some (.int kind), some (.ref l), some (.int (i : Int)), some (.int cell), none, some (.int most), some (.int x), v8, some (.int y), some (.int z)] ∧ Made H1 H2 l zs ∧ Bd (x, y, z)) ?_ ?_
            · exact s_when (et_and (et_test (ev_op (ev_var rfl) ev_c (rv_eq rfl))) fun _ => et_test (ev_op (ev_var rfl) (ev_var rfl) rv_I0)) (fun _ H9 e9 => s_par (ea_cons (ev_var rfl) (ea_cons (ev_var rfl) ea_nil)) fun H10 e10 => ⟨_, _, _, _, rfl, m3.more (e9.trans e10), hb3.2.2, hb3.2.1, hb3.1⟩) (fun _ H9 e9 => ⟨_, _, _, _, rfl, m3.more e9, hb3⟩)
            · clear hb3
              rintro σ4 H4' ⟨x, y, z, v8''', rfl, m5, hb4⟩
              refine s_made (t := (x, y, z)) m5 nl0 (by omega) (ev_var rfl) (ea_cons (ev_var rfl) (ea_cons (ev_var rfl) (ea_cons (ev_var rfl) ea_nil))) hb4 fun t H6 m6 => ⟨_, _, _, _, _, _, _, rfl, m6, ?_⟩
              rw [List.length_append, hzs]
              rfl
      · rintro σ' H' ⟨zs, v3, v4, v7, v8, v9, v10, rfl, m, hzs⟩
        rw [Int.toNat_natCast] at hzs
        exact s_ret (ev_var rfl) fun H5 e5 => q l zs H5 ((e1.trans m.ex).trans e5) (fresh_back e1 nl0) (e5 _ _ m.ls) (fun z hz => ⟨e5 _ _ (m.it z hz).1, (m.it z hz).2⟩) (by omega)
end
end Bp
namespace Bp
open PySem L2 Evl
abbrev nLaw6 : List Str := ["_law_script", "_law_far", "_law_due", "_law_k", "_law_things_here", "_law_kept", "_law_many", "_law_bad", "_law_at", "_law_strange", "_law_door", "_law_order_here", "_law_wrong", "_law_ask", "_law_time", "_law_great", "_law_thing"]
theorem scLaw6 : FnScope nLaw6 ["_law_script"] (defScope sLaw) := ⟨rfl, rfl, rfl, by decide +kernel, rfl, by decide +kernel, by decide +kernel⟩
/-- what the law calls -/
structure L6ks (K : PySem.W.Frag) (mg : Str → Option Value) (P : Program) (w : World) (base : Heap) (fE fT fQ fA fB fC CT CO CM CX CB : Addr) (dE dT dQ dA dB dC : FuncData) : Prop where
  gE : mg "_law_cell_at" = some (.ref fE)
  kE : PySem.W.keepIn K (.ref fE) = true
  bE : Binds K dE ["_law_script", "_law_k"] []
  GE : FnOk P w K mg base CX0 1 fE dE ["_law_script", "_law_k"] (spCell K)
  gT : mg "_law_things" = some (.ref fT)
  kT : PySem.W.keepIn K (.ref fT) = true
  bT : Binds K dT ["_law_script"] []
  GT : FnOk P w K mg base CX0 2 fT dT ["_law_script"] (spThings K)
  gQ : mg "_law_told" = some (.ref fQ)
  kQ : PySem.W.keepIn K (.ref fQ) = true
  bQ : Binds K dQ ["_law_ask", "_law_one", "_law_other"] []
  GQ : FnOk P w K mg base CX0 7 fQ dQ ["_law_ask", "_law_one", "_law_other"] (spTold P w K mg base CT CO CM CX CB)
  gA : mg "_law_with_things" = some (.ref fA)
  kA : PySem.W.keepIn K (.ref fA) = true
  bA : Binds K dA ["_law_door", "_law_things_here"] []
  GA : FnOk P w K mg base (L2.CX P w) 6 fA dA ["_law_door", "_law_things_here"] (spWithT K CT)
  gB : mg "_law_with_order" = some (.ref fB)
  kB : PySem.W.keepIn K (.ref fB) = true
  bB : Binds K dB ["_law_things_here", "_law_order_here"] []
  GB : FnOk P w K mg base (L2.CX P w) 6 fB dB ["_law_things_here", "_law_order_here"] (spDoneX K CT CO)
  gC : mg "_law_with_starts" = some (.ref fC)
  kC : PySem.W.keepIn K (.ref fC) = true
  bC : Binds K dC ["_law_things_here", "_law_order_here"] []
  GC : FnOk P w K mg base (L2.CX P w) 6 fC dC ["_law_things_here", "_law_order_here"] (spDoneX K CT CO)
  nT : Knd K CT CO CM CX CB CT true false false
  nO : Knd K CT CO CM CX CB CO false true false
  nM : Knd K CT CO CM CX CB CM false false true
section
variable {P : Program} {w : World} {K : PySem.W.Frag} {mg : Str → Option Value} {base : Heap}
def law6_pf {f fE fT fQ fA fB fC fD fS fJ fW fX CT CO CM CX CB : Addr} {dE dT dQ dA dB dC dD dS dJ dW dX : FuncData} (T : Bn mg) (R : Drs P w K mg base fD fS fJ fW fX CT CO CM dD dS dJ dW dX) (S : L6ks K mg P w base fE fT fQ fA fB fC CT CO CM CX CB dE dT dQ dA dB dC) {cdv : Value} {A : Around} {outer : List Env} {s : Shared} {H : Hp} {E : XK} (hr : Room 7 (A.deeper (PyProof.Rows.envOfC "law" (defScope sLaw) s.heap.objs.size f cdv))) :=
  show PSs (cxOf CX0 P w K mg base nLaw6 "law" (defScope sLaw) f cdv A outer s H E).nox (defBody sLaw) _ from
    (pss_cons (ps_set (i := 1) scLaw6.nd rfl (Or.inl rfl) (pe_op op_mod (pe_call S.GE (hr.mono (by decide)) (by rfl) S.gE S.kE S.bE .nil pass0 (pa_cons (pv 0) (pa_cons pe_int pa_nil))) (pe_op op_pow pe_int pe_int)))
      (pss_cons (ps_set (i := 2) scLaw6.nd rfl (Or.inr rfl) (pe_lst pa_nil))
      (pss_cons (ps_for PassesOwn.never rfl (pi_range1 rfl T.range (pa_cons pe_int pa_nil)) (pg_name (i := 3) scLaw6.nd rfl (Or.inl rfl)) (pss_one (ps_expr (pe_bm PySem.F.plainAttrs_list PySem.F.slot_list_append PySem.F.type_list_append mt_append (pv 2) (pa_cons (pe_lst (pa_cons (pe_cmpR op_eq (pv 3) pe_int (nomark _)) (pa_cons (pe_cmpR op_eq (pv 3) pe_int (nomark _)) (pa_cons (pe_cmpR op_eq (pv 3) pe_int (nomark _)) (pa_cons pe_bl (pa_cons pe_bl pa_nil)))))) pa_nil)))))
      (pss_cons (ps_set (i := 4) scLaw6.nd rfl (Or.inr rfl) (pe_call S.GT (hr.mono (by decide)) (by rfl) S.gT S.kT S.bT .nil pass0 (pa_cons (pv 0) pa_nil)))
      (pss_cons (ps_par (i := 5) (j := 6) (by rfl) scLaw6.nd rfl rfl (by decide) rfl rfl (pa_cons (pe_callTy call_list_of (by rfl) T.list PyProof.Rows.boot_list (pa_cons (pv 4) pa_nil)) (pa_cons (pe_callB call_len_seq (by rfl) T.len PySem.boot_len (pa_cons (pv 4) pa_nil)) pa_nil)) (by rfl))
      (pss_cons (ps_set (i := 7) scLaw6.nd rfl (Or.inl rfl) (pe_lst (pa_cons (pe_non) (pa_cons (pe_tup pa_nil) (pa_cons (pe_tup (pa_cons (pe_tup (pa_cons (pe_int) (pa_cons (pe_int) (pa_cons (pe_int) pa_nil)))) pa_nil)) (pa_cons (pe_str) (pa_cons (pe_dnewK) (pa_cons (pe_int) (pa_cons (pe_lst (pa_cons (pe_non) pa_nil)) (pa_cons (pe_lst (pa_cons (pe_int) pa_nil)) (pa_cons (pe_lst (pa_cons (pe_tup (pa_cons (pe_int) (pa_cons (pe_int) pa_nil))) pa_nil)) (pa_cons (pe_lst (pa_cons (pe_tup (pa_cons (pe_int) (pa_cons (pe_int) (pa_cons (pe_int) (pa_cons (pe_int) pa_nil))))) pa_nil)) (pa_cons (pe_lst (pa_cons (pe_lst (pa_cons (pe_int) (pa_cons (pe_int) (pa_cons (pe_int) pa_nil)))) pa_nil)) (pa_cons (pe_lst (pa_cons (pe_tup (pa_cons (pe_un un_neg pe_int) (pa_cons (pe_int) (pa_cons (pe_int) pa_nil)))) pa_nil)) pa_nil))))))))))))))
      (pss_cons (ps_set (i := 7) scLaw6.nd rfl (Or.inl rfl) (pe_op op_cat (pv 7) (pe_lst (pa_cons (pe_lst (pa_cons (pe_tup (pa_cons (pe_int) (pa_cons (pe_op op_sub (pe_un un_neg pe_int) (pv 1)) (pa_cons (pe_int) pa_nil)))) pa_nil)) (pa_cons (pe_lst (pa_cons (pe_tup (pa_cons (pe_int) (pa_cons (pe_int) (pa_cons (pe_un un_neg pe_int) pa_nil)))) pa_nil)) (pa_cons (pe_lst (pa_cons (pe_tup (pa_cons (pe_bl) (pa_cons (pe_int) (pa_cons (pe_int) pa_nil)))) pa_nil)) (pa_cons (pe_lst (pa_cons (pe_tup (pa_cons (pe_int) (pa_cons (pe_bl) (pa_cons (pe_int) pa_nil)))) pa_nil)) (pa_cons (pe_lst (pa_cons (pe_tup (pa_cons (pe_int) (pa_cons (pe_int) (pa_cons (pe_bl) pa_nil)))) pa_nil)) (pa_cons (pe_lst (pa_cons (pe_tup (pa_cons (pe_str) (pa_cons (pe_int) (pa_cons (pe_int) pa_nil)))) pa_nil)) pa_nil)))))))))
      (pss_cons (ps_set (i := 7) scLaw6.nd rfl (Or.inl rfl) (pe_op op_cat (pv 7) (pe_lst (pa_cons (pe_lst (pa_cons (pe_tup (pa_cons (pe_int) (pa_cons (pe_non) (pa_cons (pe_int) pa_nil)))) pa_nil)) (pa_cons (pe_lst (pa_cons (pe_tup (pa_cons (pe_int) (pa_cons (pe_int) (pa_cons (pe_str) pa_nil)))) pa_nil)) (pa_cons (pe_lst (pa_cons (pe_tup (pa_cons (pe_int) (pa_cons (pe_int) (pa_cons (pe_int) pa_nil)))) (pa_cons (pe_tup (pa_cons (pe_int) (pa_cons (pe_int) (pa_cons (pe_op op_sub (pe_un un_neg pe_int) (pv 1)) pa_nil)))) pa_nil))) (pa_cons (pe_lst (pa_cons (pe_tup (pa_cons (pe_op op_sub (pe_un un_neg pe_int) (pv 1)) (pa_cons (pe_int) (pa_cons (pe_int) pa_nil)))) (pa_cons (pe_tup (pa_cons (pe_int) (pa_cons (pe_int) (pa_cons (pe_int) pa_nil)))) pa_nil))) pa_nil)))))))
      (pss_cons (ps_for PassesOwn.never rfl (pi_range3 rfl T.range (pa_cons pe_int (pa_cons (pv 6) (pa_cons (pe_op op_add pe_int (pe_op op_fdiv (pv 6) pe_int)) pa_nil)))) (pg_name (i := 8) scLaw6.nd rfl (Or.inl rfl)) (pss_cons (ps_set (i := 9) scLaw6.nd rfl (Or.inl rfl) (pe_ix ix_tup (pe_tup (pa_cons (pe_non) (pa_cons (pe_tup (pa_cons (pe_int) (pa_cons (pe_int) pa_nil))) (pa_cons (pe_tup (pa_cons (pe_int) (pa_cons (pe_int) (pa_cons (pe_op op_sub (pe_un un_neg pe_int) (pv 1)) pa_nil)))) (pa_cons (pe_lst (pa_cons (pe_int) (pa_cons (pe_int) (pa_cons (pe_int) pa_nil)))) (pa_cons (pe_tup (pa_cons (pe_int) (pa_cons (pe_bl) (pa_cons (pe_int) pa_nil)))) pa_nil)))))) (pe_op op_mod (pv 8) pe_int) (fun _ _ => rfl))) (pss_one (ps_expr (pe_bm PySem.F.plainAttrs_list PySem.F.slot_list_append PySem.F.type_list_append mt_append (pv 7) (pa_cons (pe_op op_cat (pe_op op_cat (pe_slice sl_list (pv 4) po_none (po_some (pv 8))) (pe_lst (pa_cons (pv 9) pa_nil))) (pe_slice sl_list (pv 4) (po_some (pe_op op_add (pv 8) pe_int)) po_none)) pa_nil))))))
      (pss_cons (ps_for PassesOwn.never rfl (pi_range1 rfl T.range (pa_cons pe_int pa_nil)) (pg_name (i := 10) scLaw6.nd rfl (Or.inr rfl)) (pss_one (ps_if (pt_not (pt_val (pe_callB (cr_all rfl) (by rfl) T.all (by decide +kernel) (pa_cons (pe_lc (own := [("_law_thing", 16)]) (g := gName 16) (tt := tYes) rfl scLaw6.nd (pi_list (pv 7)) (blkOk_by (N := nLaw6) (sc := defScope sLaw) (by decide +kernel)) (fun _ _ _ _ _ => pg_name (i := 16) scLaw6.nd rfl (Or.inl rfl)) (fun _ _ _ _ _ => pts_nil) (fun _ _ _ _ _ => pe_cmpR (show OpR _ _ (rEqD K) from op_eqD hr.units) (pe_call S.GQ hr (by rfl) S.gQ S.kQ S.bQ .nil pass0 (pa_cons (pe_glob (v := .ref fA) (by rfl) S.gA rfl) (pa_cons (pv 10) (pa_cons (pv 16) pa_nil)))) (pe_ix (show IxR _ (rIxL K) from ix_list) (pv 2) pe_int (fun _ _ => rfl)) (nomark _))) pa_nil)))) (pss_one (ps_ret pe_bl)) pss_nil)))
      (pss_cons (ps_set (i := 11) scLaw6.nd rfl (Or.inl rfl) (pe_listRg rfl (by rfl) T.list (prg_1 (by rfl) T.range (pv 6))))
      (pss_cons (ps_set (i := 12) scLaw6.nd rfl (Or.inl rfl) (pe_lst (pa_cons (pe_non) (pa_cons (pe_callTy call_tuple_of (by rfl) T.tuple PyProof.Rows.boot_tuple (pa_cons (pv 11) pa_nil)) (pa_cons (pe_str) (pa_cons (pe_dnewK) (pa_cons (pe_int) (pa_cons (pe_op op_cat (pv 11) (pe_lst (pa_cons (pv 6) pa_nil))) (pa_cons (pe_op op_cat (pv 11) (pe_lst (pa_cons (pe_int) pa_nil))) (pa_cons (pe_op op_rep (pe_lst (pa_cons (pe_non) pa_nil)) (pe_op op_add (pv 6) pe_int)) (pa_cons (pe_op op_cat (pe_slice sl_list (pv 11) (po_some pe_int) po_none) (pe_lst (pa_cons (pe_op op_add (pv 6) (pv 1)) pa_nil))) pa_nil)))))))))))
      (pss_cut (ps_if (pt_cmpR op_gt (pv 6) pe_int (nomark _)) (pss_one (ps_set (i := 12) scLaw6.nd rfl (Or.inl rfl) (pe_op op_cat (pv 12) (pe_lst (pa_cons (pe_slice sl_list (pv 11) (po_some pe_int) po_none) (pa_cons (pe_slice sl_list (pv 11) po_none (po_some (pe_un un_neg pe_int))) (pa_cons (pe_op op_cat (pe_slice sl_list (pv 11) (po_some pe_int) po_none) (pe_lst (pa_cons (pe_un un_neg pe_int) pa_nil))) (pa_cons (pe_op op_cat (pe_slice sl_list (pv 11) po_none (po_some (pe_un un_neg pe_int))) (pe_lst (pa_cons (pe_str) pa_nil))) (pa_cons (pe_op op_cat (pe_slice sl_list (pv 11) po_none (po_some (pe_un un_neg pe_int))) (pe_lst (pa_cons (pe_non) pa_nil))) pa_nil))))))))) pss_nil)
      (pss_cut (ps_if (pt_cmpR op_gt (pv 6) pe_int (nomark _)) (pss_one (ps_set (i := 12) scLaw6.nd rfl (Or.inl rfl) (pe_op op_cat (pv 12) (pe_lst (pa_cons (pe_lc (own := [("_law_at", 8)]) (g := gName 8) (tt := tYes) rfl scLaw6.nd (pi_list (pv 11)) (blkOk_by (N := nLaw6) (sc := defScope sLaw) (by decide +kernel)) (fun _ _ _ _ _ => pg_name (i := 8) scLaw6.nd rfl (Or.inl rfl)) (fun _ _ _ _ _ => pts_nil) (fun _ _ _ _ _ => pe_ifExp (pt_cmpR op_eq (pv 8) pe_int (nomark _)) pe_bl (pv 8))) (pa_cons (pe_op op_cat (pe_lst (pa_cons (pe_ix ix_list (pv 11) pe_int (fun _ _ => rfl)) pa_nil)) (pe_slice sl_list (pv 11) po_none (po_some (pe_un un_neg pe_int)))) (pa_cons (pe_op op_cat (pe_slice sl_list (pv 11) (po_some pe_int) po_none) (pe_lst (pa_cons (pe_ix ix_list (pv 11) pe_int (fun _ _ => rfl)) pa_nil))) pa_nil))))))) pss_nil)
      (pss_cons (ps_for PassesOwn.never rfl (pi_tup (pe_tup (pa_cons (pe_glob (v := .ref fB) (by rfl) S.gB rfl) (pa_cons (pe_glob (v := .ref fC) (by rfl) S.gC rfl) pa_nil)))) (pg_name (i := 13) scLaw6.nd rfl (Or.inr rfl)) (pss_one (ps_if (pt_not (pt_val (pe_callB (cr_all rfl) (by rfl) T.all (by decide +kernel) (pa_cons (pe_lc (own := [("_law_thing", 16)]) (g := gName 16) (tt := tYes) rfl scLaw6.nd (pi_list (pv 12)) (blkOk_by (N := nLaw6) (sc := defScope sLaw) (by decide +kernel)) (fun _ _ _ _ _ => pg_name (i := 16) scLaw6.nd rfl (Or.inl rfl)) (fun _ _ _ _ _ => pts_nil) (fun _ _ _ _ _ => pe_cmpR (show OpR _ _ (rEqD K) from op_eqD hr.units) (pe_call S.GQ hr (by rfl) S.gQ S.kQ S.bQ .nil pass0 (pa_cons (pv 13) (pa_cons (pv 4) (pa_cons (pv 16) pa_nil)))) (pe_ix (show IxR _ (rIxL K) from ix_list) (pv 2) pe_int (fun _ _ => rfl)) (nomark _))) pa_nil)))) (pss_one (ps_ret pe_bl)) pss_nil)))
      (pss_cons (ps_for PassesOwn.never rfl (pi_tup (pe_tup (pa_cons (pe_non) (pa_cons (pe_str) (pa_cons (pe_bl) (pa_cons (pe_lst (pa_cons (pe_int) pa_nil)) (pa_cons (pe_tup (pa_cons (pe_int) pa_nil)) (pa_cons (pe_dnewK) pa_nil)))))))) (pg_name (i := 14) scLaw6.nd rfl (Or.inl rfl)) (pss_one (ps_if (pt_cmpR (op_neD hr.units) (pe_call S.GQ hr (by rfl) S.gQ S.kQ S.bQ .nil pass0 (pa_cons (pe_glob (v := .ref fW) (by rfl) R.gW rfl) (pa_cons (pv 4) (pa_cons (pv 14) pa_nil)))) (pe_ix ix_list (pv 2) pe_int (fun _ _ => rfl)) (nomark _)) (pss_one (ps_ret pe_bl)) pss_nil)))
      (pss_cons (ps_for PassesOwn.never rfl (pi_tup (pe_tup (pa_cons (pe_lst (pa_cons (pe_tup (pa_cons (pe_op op_pow (pe_int) (pe_int)) (pa_cons (pe_int) (pa_cons (pe_int) pa_nil)))) pa_nil)) (pa_cons (pe_lst (pa_cons (pe_tup (pa_cons (pe_int) (pa_cons (pe_op op_add (pe_op op_pow (pe_int) (pe_int)) (pv 1)) (pa_cons (pe_int) pa_nil)))) pa_nil)) (pa_cons (pe_lst (pa_cons (pe_tup (pa_cons (pe_int) (pa_cons (pe_int) (pa_cons (pe_int) pa_nil)))) (pa_cons (pe_tup (pa_cons (pe_int) (pa_cons (pe_int) (pa_cons (pe_op op_pow (pe_int) (pe_int)) pa_nil)))) pa_nil))) pa_nil))))) (pg_name (i := 15) scLaw6.nd rfl (Or.inl rfl)) (pss_one (ps_if (pt_cmpR (op_neD hr.units) (pe_call S.GQ hr (by rfl) S.gQ S.kQ S.bQ .nil pass0 (pa_cons (pe_glob (v := .ref fA) (by rfl) S.gA rfl) (pa_cons (pe_int) (pa_cons (pv 15) pa_nil)))) (pe_ix ix_list (pv 2) pe_int (fun _ _ => rfl)) (nomark _)) (pss_one (ps_ret pe_bl)) pss_nil)))
      (pss_one (ps_ret (pe_and (pe_cmpR (op_eqD hr.units) (pv 4) (pv 5) (nomark _)) (pe_one (pe_cmpR op_eq (pe_call R.okX (hr.mono (by decide)) (by rfl) R.gX R.kX R.bX .nil passL (pa_cons (pe_lst (pa_cons (pe_tup (pa_cons (pe_int) (pa_cons (pe_op op_sub (pe_op op_pow (pe_int) (pe_int)) (pe_int)) (pa_cons (pe_int) pa_nil)))) pa_nil)) pa_nil)) (pe_op op_add_str (pe_op op_add_str pe_str (pe_op op_mulS pe_str pe_int)) pe_str) (nomark _)))))))))))))))))))))))
end
end Bp
namespace Bp
open PySem L2 Evl
/-! ### what the law's rows share -/
def spLaw (K : PySem.W.Frag) : Sp := fun vs H Q _ => ∃ (a : Addr) (ns : List Int), vs = [.ref a] ∧ SqL K H a (ns.map V.int) ∧ ns.length ≤ 63 ∧ ∀ H', Q (.bl true) H'
section
variable {K : PySem.W.Frag} {σ : L2.St} {H : Hp} {D : Ends} {tz tu : TS} {ta : TA} {β : Type} {R : Hp → V → β → Prop}
theorem q_lstR {i : Nat} {bs : List β} (h : EvAR ta σ H R bs) (hz : bs.length ≤ 100000) (k : ∀ p A xs, Ex H A → A p = none → All2 (R A) xs bs → tz D (σ.set i (some (.ref p))) (upd A p (.lst xs))) : tSeq (tAsg (tLst ta) (gName i)) tz D σ H := h H (Ex.refl H) _ fun xs A e rs =>
  ⟨sz_of (by rw [rs.len]; exact hz), fun p np => k p A xs e np rs⟩
theorem s_catR {i : Nat} {tl : TE} {l : Addr} {xs0 : List V} {bs : List β} (g : Grow R) (hv : Ev tl σ H (.ref l)) (hl : H l = some (.lst xs0)) (h : EvAR ta σ H R bs) (hz : xs0.length + bs.length ≤ 100000) (k : ∀ p A xs, Ex H A → A p = none → All2 (R A) xs bs → D.nx (σ.set i (some (.ref p))) (upd A p (.lst (xs0 ++ xs)))) : tAsg (tOp rCat tl (tLst ta)) (gName i) D σ H :=
  hv H (Ex.refl H) _ fun H1 e1 => h H1 e1 _ fun xs A e rs => ⟨sz_of (by rw [rs.len]; omega), fun b nb => ⟨l, b, xs0, xs, rfl, rfl, Ex.new nb _ _ (e _ _ (e1 _ _ hl)), upd_same, sz_of (by rw [rs.len]; exact hz), fun p np =>
    k p _ xs ((e1.trans e).trans (Ex.new nb)) np (rs.imp fun v c r => g _ _ _ _ (Ex.new nb) r)⟩⟩
theorem q_catR {i : Nat} {tl : TE} {l : Addr} {xs0 : List V} {bs : List β} (g : Grow R) (hv : Ev tl σ H (.ref l)) (hl : H l = some (.lst xs0)) (h : EvAR ta σ H R bs) (hz : xs0.length + bs.length ≤ 100000) (k : ∀ p A xs, Ex H A → A p = none → All2 (R A) xs bs → tz D (σ.set i (some (.ref p))) (upd A p (.lst (xs0 ++ xs)))) : tSeq (tAsg (tOp rCat tl (tLst ta)) (gName i)) tz D σ H := s_catR (D := { D with nx := tz D }) g hv hl h hz k
theorem q_parL {i j : Nat} {tl tm : TE} {xs : List V} {v : V} (h : EvL tl σ H xs) (hm : ∀ H1, Ex H H1 → Ev tm σ H1 v) (k : ∀ p H1, H p = none → Ex H H1 → H1 p = some (.lst xs) → tz D ((σ.set i (some (.ref p))).set j (some v)) H1) : tSeq (tPar i j (tCons tl (tCons tm tNil))) tz D σ H :=
  h H (Ex.refl H) _ fun p H1 np e1 hp => hm H1 e1 H1 (Ex.refl H1) _ fun H2 e2 => ⟨.ref p, v, rfl, k p H2 np (e1.trans e2) (e2 _ _ hp)⟩
theorem q_asgR {i : Nat} {te : TE} {S : Hp → V → Prop} (h : EvR te σ H S) (k : ∀ v A, Ex H A → S A v → tz D (σ.set i (some v)) A) : tSeq (tAsg te (gName i)) tz D σ H := h H (Ex.refl H) _ k
theorem er_ixT {bs : List β} {tb : TE} {j : Int} (g : Grow R) (h : EvAR ta σ H R bs) (hz : bs.length ≤ 1000) (hb : ∀ H1, Ex H H1 → Ev tb σ H1 (.int j)) (h0 : 0 ≤ j) (h1 : j < (bs.length : Int)) : EvR (tOp (rIxT K) (tTup ta) tb) σ H fun A v => ∃ b ∈ bs, R A v b := fun H1 e Q q =>
  h H1 e _ fun xs A e2 rs => ⟨sz_of (by rw [rs.len]; omega), fun t nt => hb _ ((e.trans e2).trans (Ex.new nt)) _ (Ex.refl _) _ fun H2 e3 => by
    have l := rs.len
    have hi : j.toNat < xs.length := by omega
    obtain ⟨b, hb, r⟩ := rs.get (List.getElem?_eq_getElem hi)
    exact ⟨t, xs, j, xs[j.toNat], rfl, rfl, st_of (e3 _ _ upd_same), at_of (j := j.toNat) (by omega) (List.getElem?_eq_getElem hi), q _ H2 (e2.trans ((Ex.new nt).trans e3)) ⟨b, List.mem_of_getElem? hb, g _ _ _ _ ((Ex.new nt).trans e3) r⟩⟩⟩
theorem q_forUR {g : TG} {bs : List β} (gr : Grow R) (h : EvAR ta σ H R bs) (hz : bs.length ≤ 1000) (Pv : Addr → List V → Nat → L2.St → Hp → Prop) (h0 : ∀ tp xs A, Ex H A → A tp = some (.tup xs) → All2 (R A) xs bs → Pv tp xs 0 σ A) (hl : ∀ tp xs i σ' H', Pv tp xs i σ' H' → SqT K H' tp xs)
    (hs : ∀ tp xs i x σ' H', xs[i]? = some x → Pv tp xs i σ' H' → g x σ' H' fun σ2 H2 => tu { D with nx := Pv tp xs (i + 1), ct := Pv tp xs (i + 1), bk := tz D } σ2 H2) (hd : ∀ tp xs σ' H', Pv tp xs xs.length σ' H' → tz D σ' H') : tSeq (tFor (iTup K (tTup ta)) g tu) tz D σ H :=
  h H (Ex.refl H) _ fun xs A e rs => ⟨sz_of (by rw [rs.len]; omega), fun tp ntp => ⟨tp, rfl, ⟨_, st_of upd_same⟩, for_tup (D := { D with nx := tz D }) (Pv tp xs) (h0 tp xs _ (e.trans (Ex.new ntp)) upd_same (rs.imp fun v c r => gr _ _ _ _ (Ex.new ntp) r)) (fun i σ' H' _ p => hl tp xs i σ' H' p) (hs tp xs) (hd tp xs)⟩⟩
theorem all2_mem {α β : Type} {S : α → β → Prop} {as : List α} {bs : List β} (h : All2 S as bs) {c : β} (hb : ∀ b ∈ bs, b = c) : ∀ x ∈ as, S x c := by
  induction h with
  | nil => intro x hx; cases hx
  | cons h _ ih =>
    intro x hx
    rcases List.mem_cons.mp hx with rfl | hx
    · have := hb _ List.mem_cons_self
      rw [this] at h
      exact h
    · exact ih (fun b hb' => hb b (List.mem_cons_of_mem _ hb')) x hx
/-- the three lists that are due -/
structure Dues (H : Hp) (d : Addr) : Prop where
  ex : ∃ q0 q1 q2 : Addr, H d = some (.lst [.ref q0, .ref q1, .ref q2]) ∧ H q0 = some (.lst (hits true false false)) ∧ H q1 = some (.lst (hits false true false)) ∧ H q2 = some (.lst (hits false false true))
theorem Dues.mono {H H' : Hp} {d : Addr} (e : Ex H H') (h : Dues H d) : Dues H' d := by
  obtain ⟨q0, q1, q2, h0, h1, h2, h3⟩ := h.ex
  exact ⟨q0, q1, q2, e _ _ h0, e _ _ h1, e _ _ h2, e _ _ h3⟩
def dHits (b1 b2 b3 : Bool) : PyData := .list [.bool b1, .bool b2, .bool b3, .bool false, .bool true]
theorem dpx_hits {A : Hp} {p : Addr} {b1 b2 b3 : Bool} (h : A p = some (.lst (hits b1 b2 b3))) : DpX K A (.ref p) (dHits b1 b2 b3) := fun H1 e => .lst (sq_of (e _ _ h)) (.cons (.bl _) (.cons (.bl _) (.cons (.bl _) (.cons (.bl _) (.cons (.bl _) .nil)))))
theorem sh_hits (b1 b2 b3 : Bool) : SeqAt.shaped (dHits b1 b2 b3) = true := by cases b1 <;> cases b2 <;> cases b3 <;> decide +kernel
/-- the j-th that is due -/
theorem due_at {A : Hp} {d : Addr} (h : Dues A d) : (∃ q, RV (rIxL K) (.ref d) (.int 0) A (.ref q) ∧ A q = some (.lst (hits true false false))) ∧ (∃ q, RV (rIxL K) (.ref d) (.int 1) A (.ref q) ∧ A q = some (.lst (hits false true false))) ∧ ∃ q, RV (rIxL K) (.ref d) (.int 2) A (.ref q) ∧ A q = some (.lst (hits false false true)) := by
  obtain ⟨q0, q1, q2, h0, h1, h2, h3⟩ := h.ex
  exact ⟨⟨q0, rv_ixL (sq_of h0) (atI_nat (j := 0) rfl), h1⟩, ⟨q1, rv_ixL (sq_of h0) (atI_nat (j := 1) rfl), h2⟩, ⟨q2, rv_ixL (sq_of h0) (atI_nat (j := 2) rfl), h3⟩⟩
end
section
variable {P : Program} {w : World} {K : PySem.W.Frag} {mg : Str → Option Value} {base : Heap} {CT CO CM CX CB : Addr} {σ : L2.St} {H : Hp}
/-- one question is answered as it is due -/
theorem el_told {f D : Addr} {x y : V} {fd : FuncData} {ps : List Str} {sp : Sp} {b1 b2 b3 : Bool} {tf tx ty : TE} (hf : Ev tf σ H (.ref f)) (hx : Ev tx σ H x) (hy : Ev ty σ H y) (kA : PySem.W.keepIn K (.ref f) = true) (bA : Binds K fd ps []) (GA : FnOk P w K mg base (L2.CX P w) 6 f fd ps sp) (N : Knd K CT CO CM CX CB D b1 b2 b3)
    (hA : ∀ (Q' : VK) (E' : XK) H1, Ex H H1 → Refuse D H1 E' → sp [x, y] H1 Q' E') : EvL (tCall (spTold P w K mg base CT CO CM CX CB) [] E0 (tCons tf (tCons tx (tCons ty tNil)))) σ H (hits b1 b2 b3) :=
  el_call (ea_cons hf (ea_cons hx (ea_cons hy ea_nil))) fun H1 e1 Q q E => ⟨f, x, y, fd, ps, sp, D, b1, b2, b3, rfl, kA, bA, GA, fun Q' E' H2 e2 r => hA Q' E' H2 (e1.trans e2) r, N, fun p H2 np e2 hp => q p H2 np e2 hp⟩
theorem ev_same {b1 b2 b3 : Bool} {ta tb : TE} {q : Addr} (h : EvL ta σ H (hits b1 b2 b3)) (hb : ∀ H1, Ex H H1 → Ev tb σ H1 (.ref q)) (hq : H q = some (.lst (hits b1 b2 b3))) : Ev (tOp (rEqD K) ta tb) σ H (.bl true) :=
  ev_opL1 h hb fun p H1 hp e1 => rv_eqD (dpx_hits hp) (dpx_hits (e1 _ _ hq)) (sh_hits b1 b2 b3)
theorem ev_apart {b1 b2 b3 : Bool} {ta tb : TE} {q : Addr} (h : EvL ta σ H (hits b1 b2 b3)) (hb : ∀ H1, Ex H H1 → Ev tb σ H1 (.ref q)) (hq : H q = some (.lst (hits b1 b2 b3))) : Ev (tOp (rNeD K) ta tb) σ H (.bl false) :=
  ev_opL1 h hb fun p H1 hp e1 => rv_neD (dpx_hits hp) (dpx_hits (e1 _ _ hq)) (sh_hits b1 b2 b3)
end
/-! ### ranges and orders -/
theorem rg6 : ∀ n : Nat, n < 190 → (1 + (n : Int) / 6).natAbs < 1073741824 ∧ Builtin.Range.small 0 (n : Int) (1 + (n : Int) / 6) = true ∧ Builtin.Range.rangeSize 0 (n : Int) (1 + (n : Int) / 6) = (Builtin.Range.rangeSize 0 (n : Int) (1 + (n : Int) / 6)).toNat ∧ (Builtin.Range.rangeSize 0 (n : Int) (1 + (n : Int) / 6)).toNat ≤ 189 := by decide +kernel
theorem rgc6 {n : Nat} (h : n < 190) : ∃ m : Nat, m ≤ 189 ∧ RgC 0 (n : Int) (1 + (n : Int) / 6) m := by
  obtain ⟨h1, h2, h3, h4⟩ := rg6 n h
  exact ⟨_, h4, by omega, h1, h2, h3⟩
theorem cut_but (xs : List V) : cutV xs none (some (-1)) = xs.take (xs.length - 1) := by
  unfold cutV
  rw [HT.sIx_none]
  have : HT.sIx xs.length xs.length (some (-1)) = xs.length - 1 := by
    unfold HT.sIx
    simp only []
    rw [if_pos (show (-1 : Int) < 0 by decide)]
    omega
  rw [this, List.drop_zero, Nat.sub_zero]
section
variable {m : Nat}
def up (m : Nat) : List Int := asI (List.range m)
theorem up_len : (up m).length = m := by unfold up asI; rw [List.length_map, List.length_range]
theorem up_at {j : Nat} (h : j < m) : (up m)[j]? = some (j : Int) := by
  unfold up asI
  rw [List.getElem?_map, List.getElem?_range h]
  rfl
theorem no_len {is : List Int} (h : is.length ≠ m) : ordB m is = false := ordB_no fun z => h z.1
theorem no_mem {is : List Int} {c : Int} (hc : c ∈ is) (h : c < 0 ∨ (m : Int) ≤ c) : ordB m is = false := ordB_no fun z => by
  have := z.2.2 c hc
  omega
theorem no_two {is : List Int} (h : ¬ is.Nodup) : ordB m is = false := ordB_no fun z => h z.2.1
theorem o_more (c : Int) : ordB m (up m ++ [c]) = false := no_len (by rw [List.length_append, up_len]; show m + 1 ≠ m; omega)
theorem o_far {c : Int} (h : (m : Int) ≤ c) : ordB m ((up m).drop 1 ++ [c]) = false := no_mem (List.mem_append_right _ List.mem_cons_self) (.inr h)
theorem o_low {is : List Int} : ordB m (is ++ [-1]) = false := no_mem (List.mem_append_right _ List.mem_cons_self) (.inl (by decide))
theorem o_drop (h : 0 < m) : ordB m ((up m).drop 1) = false := no_len (by rw [List.length_drop, up_len]; omega)
theorem o_take (h : 0 < m) : ordB m ((up m).take (m - 1)) = false := no_len (by rw [List.length_take, up_len]; omega)
theorem o_head (h : 1 < m) : ordB m ([0] ++ (up m).take (m - 1)) = false := no_two fun z => by
  have h0 : (0 : Int) ∈ (up m).take (m - 1) := List.mem_of_getElem? (i := 0) (by rw [List.getElem?_take_of_lt (by omega)]; exact up_at (by omega))
  exact (List.nodup_cons.mp z).1 h0
theorem o_one (h : 1 < m) : ordB m ((up m).drop 1 ++ [1]) = false := no_two fun z => by
  have h1 : (1 : Int) ∈ (up m).drop 1 := List.mem_of_getElem? (i := 0) (by rw [List.getElem?_drop]; exact up_at (by omega))
  exact (List.nodup_append.mp z).2.2 1 h1 1 List.mem_cons_self rfl
end
end Bp
namespace Bp
open PySem L2 Evl
section
variable {K : PySem.W.Frag} {σ : L2.St} {H : Hp} {te : TE} {o : Addr} {is : List Int} {vw : Hp → Hp}
theorem o_tup {xs : List V} {n : Nat} (h : Ev te σ H (.ref o)) (hs : SqL K H o xs) : EvR (tCB (fun us H Q => ∃ p ys, us = [.ref p] ∧ ((SqL K H p ys ∧ ∀ l, H l = none → Q (.ref l) (upd H l (.tup ys))) ∨ (SqT K H p ys ∧ Q (.ref p) H))) (tCons te tNil)) σ H fun A v => NoO K (id A) v n := fun H1 e Q q =>
  h H1 e _ fun H2 e2 => ⟨o, xs, rfl, .inl ⟨ex_l (e.trans e2) hs, fun l nl => q (.ref l) _ (e2.trans (Ex.new nl)) (.inr ⟨"tuple", by decide, ty_t upd_same⟩)⟩⟩
theorem el_dropI (h : Ev te σ H (.ref o)) (hs : SqL K H o (is.map V.int)) : EvL (tSl (rSlL K) te (tPart (tC (.int 1))) tNoPart) σ H ((is.drop 1).map V.int) := fun H1 e Q q =>
  el_sl h (eo_some ev_c) eo_none hs H1 e Q fun p H2 np e2 hp => q p H2 np e2 (by rw [hp, show cutV (is.map V.int) (some 1) none = (is.map V.int).drop 1 from cut_drop _ 1, List.map_drop])
theorem el_butI (h : Ev te σ H (.ref o)) (hs : SqL K H o (is.map V.int)) : EvL (tSl (rSlL K) te tNoPart (tPart (tUn (rU fun i => .int (-i)) (tC (.int 1))))) σ H ((is.take (is.length - 1)).map V.int) := fun H1 e Q q =>
  el_sl h eo_none (eo_some (ev_un ev_c ru_neg)) hs H1 e Q fun p H2 np e2 hp => q p H2 np e2 (by rw [hp, show cutV (is.map V.int) none (some (-1)) = _ from cut_but _, List.length_map, List.map_take])
/-- a list of numbers, one more behind -/
theorem el_moreI {tl tr : TE} {c : Int} (h : EvL tl σ H (is.map V.int)) (hc : Ev tr σ H (.int c)) (hz : is.length ≤ 1000) : EvL (tOp rCat tl (tLst (tCons tr tNil))) σ H ((is ++ [c]).map V.int) := fun H1 e Q q =>
  el_cat h (el_lst (ea_cons hc ea_nil) (by show 1 ≤ 100000; decide)) (by rw [List.length_map]; show _ + 1 ≤ _; omega) H1 e Q fun p H2 np e2 hp => q p H2 np e2 (by rw [hp, List.map_append]; rfl)
theorem el_moreV {tl tr : TE} {x : V} (h : EvL tl σ H (is.map V.int)) (hc : Ev tr σ H x) (hz : is.length ≤ 1000) : EvL (tOp rCat tl (tLst (tCons tr tNil))) σ H (is.map V.int ++ [x]) :=
  el_cat h (el_lst (ea_cons hc ea_nil) (by show 1 ≤ 100000; decide)) (by rw [List.length_map]; show _ + 1 ≤ _; omega)
/-- .. ahead -/
theorem el_headI {tl tr : TE} {c : Int} (hc : Ev tr σ H (.int c)) (h : EvL tl σ H (is.map V.int)) (hz : is.length ≤ 1000) : EvL (tOp rCat (tLst (tCons tr tNil)) tl) σ H (([c] ++ is).map V.int) := fun H1 e Q q =>
  el_cat (el_lst (ea_cons hc ea_nil) (by show 1 ≤ 100000; decide)) h (by rw [List.length_map]; show 1 + _ ≤ _; omega) H1 e Q fun p H2 np e2 hp => q p H2 np e2 (by rw [hp]; rfl)
theorem o_ints {n : Nat} (h : EvL te σ H (is.map V.int)) (hz : is.length ≤ 1000) (no : ordB n is = false) : EvR te σ H fun A v => NoO K (id A) v n := er_l h fun p A e hp => no_ints hp hz no
/-- some numbers, then what is none -/
theorem o_bad {n : Nat} {x : V} (h : EvL te σ H (is.map V.int ++ [x])) (hz : is.length ≤ 999) (hx : ∀ A, Sc K A x none) : EvR te σ H fun A v => NoO K (id A) v n := er_l h fun p A e hp =>
  no_none (os := is.map some ++ [none]) hp (by rw [List.length_append, List.length_map]; show _ + 1 ≤ _; omega) ((scs_ints is).app (.cons (hx A) .nil)) (List.mem_append_right _ List.mem_cons_self)
theorem all2_rep {α β : Type} {S : α → β → Prop} {a : α} {b : β} (h : S a b) : ∀ n, All2 S (List.replicate n a) (List.replicate n b)
  | 0 => .nil
  | n + 1 => .cons h (all2_rep h n)
theorem o_none {n k : Nat} (h : EvL te σ H (List.replicate k .non)) (h0 : 0 < k) (hz : k ≤ 1000) : EvR te σ H fun A v => NoO K (id A) v n := er_l h fun p A e hp =>
  no_none (os := List.replicate k none) hp (by rw [List.length_replicate]; exact hz) (all2_rep (sc_n ty_non) k) (List.mem_replicate.mpr ⟨by omega, rfl⟩)
/-- a list of numbers with True at place 1 -/
theorem o_true {n m : Nat} (h : EvL te σ H (given m (fun _ => true) fun i => if i = 1 then .bl true else .int (i : Int))) (h1 : 1 < m) (hz : m ≤ 1000) : EvR te σ H fun A v => NoO K (id A) v n := er_l h fun p A e hp => by
  rw [given_all] at hp
  refine no_none (os := (List.range m).map fun (i : Nat) => if i = 1 then none else some (i : Int)) hp (by rw [List.length_map, List.length_range]; exact hz) (All2.map _ _ _ fun i _ => ?_) (List.mem_map.mpr ⟨1, List.mem_range.mpr h1, rfl⟩)
  by_cases hi : i = 1
  · rw [if_pos hi, if_pos hi]
    exact sc_n ty_bool
  · rw [if_neg hi, if_neg hi]
    exact sc_i
end
end Bp
namespace Bp
open PySem L2 Evl
section
variable {K : PySem.W.Frag} {σ : L2.St} {H : Hp} {te : TE} {ta : TA} {o : Addr} {is : List Int}
theorem el_ownI {tl tr : TE} {c : Int} (hv : Ev tl σ H (.ref o)) (h : H o = some (.lst (is.map V.int))) (hc : Ev tr σ H (.int c)) (hz : is.length ≤ 1000) : EvL (tOp rCat tl (tLst (tCons tr tNil))) σ H ((is ++ [c]).map V.int) := fun H1 e Q q =>
  el_catV hv h (el_lst (ea_cons hc ea_nil) (by show 1 ≤ 100000; decide)) (by rw [List.length_map]; show _ + 1 ≤ _; omega) H1 e Q fun p H2 np e2 hp => q p H2 np e2 (by rw [hp, List.map_append]; rfl)
theorem up_ix {m j : Nat} (h : j < m) : atI ((up m).map V.int) (j : Int) = some (.int (j : Int)) := atI_nat (by rw [List.getElem?_map, up_at h]; rfl)
/-- [True if at == 1 else at for at in order] -/
theorem el_trueI {m : Nat} {j : Nat} {tl : TE} (h : Ev tl σ H (.ref o)) (hs : SqL K H o ((up m).map V.int)) (hz : m ≤ 1000) (hw : ∀ x, wipe ((wipe σ [j]).set j (some x)) [j] = wipe σ [j]) (hj : ∀ x, ((wipe σ [j]).set j (some x))[j]? = some (some x)) :
    EvL (tLc (iList K tl) (gName j) tYes (tIf (tTest (tOp rEq (tVar j) (tC (.int 1)))) (tC (.bl true)) (tVar j)) [j]) σ H (given m (fun _ => true) fun i => if i = 1 then .bl true else .int (i : Int)) := by
  have := el_lcL (K := K) (j := j) (vs := [j]) (t := tYes) (te := tIf (tTest (tOp rEq (tVar j) (tC (.int 1)))) (tC (.bl true)) (tVar j)) (fun _ => true) (fun i => if i = 1 then V.bl true else .int (i : Int)) h hs (by rw [List.length_map, up_len]; omega) hw (fun i x H1 e1 hi => et_yes) fun i x H1 e1 hi _ => ?_
  · rw [List.length_map, up_len] at this
    exact this
  · obtain ⟨y, hy, rfl⟩ := ints_at hi
    have hi2 : i < m := by
      have := (List.getElem?_eq_some_iff.mp hy).1
      rw [up_len] at this
      exact this
    rw [up_at hi2] at hy
    obtain rfl := Option.some.inj hy
    refine ev_if (et_test (ev_op (ev_var (hj _)) ev_c (rv_eq rfl))) (fun hb => ?_) (fun hb => ?_)
    · have : i = 1 := by
        have := V.int.inj (of_decide_eq_true hb)
        omega
      rw [if_pos this]
      exact ev_c
    · have : i ≠ 1 := fun z => by
        rw [z] at hb
        exact absurd hb (by decide)
      rw [if_neg this]
      exact ev_var (hj _)
/-! ### times, great lengths -/
theorem grow_wh : Grow fun A v (b : Bool) => Wh K A v b := fun A B v b e h => h.mono e
theorem w_s {v : V} {n : String} (h : Ev te σ H v) (t : ∀ A, Ty K A v n) (k : NonInt n := by decide) : EvR te σ H fun A v => Wh K A v false := er_v h fun _ _ => .inr ⟨rfl, n, k, t _⟩
theorem w_l {vs : List V} (h : EvA ta σ H vs) (hz : vs.length ≤ 1000) : EvR (tLst ta) σ H fun A v => Wh K A v false := er_l (el_lst h (by omega)) fun p A e hp => .inr ⟨rfl, "list", by decide, ty_l hp⟩
theorem w_u {vs : List V} (h : EvA ta σ H vs) (hz : vs.length ≤ 1000) : EvR (tTup ta) σ H fun A v => Wh K A v false := er_u (eu_tup h (by omega)) fun p A e hp => .inr ⟨rfl, "tuple", by decide, ty_t hp⟩
theorem w_d : EvR tDNewK σ H fun A v => Wh K A v false := er_dic fun p A e np => .inr ⟨rfl, "dict", by decide, ty_dic upd_same⟩
/-- a tuple of three numbers -/
def Th3 (K : PySem.W.Frag) (A : Hp) (v : V) (t : Th) : Prop := ∃ q, v = .ref q ∧ SqT K A q (iv t)
theorem grow_th : Grow fun A v (t : Th) => Th3 K A v t := fun A B v b e ⟨q, h1, h2⟩ => ⟨q, h1, ex_t e h2⟩
theorem er_three {t1 t2 t3 : TE} {x y z : Int} (h1 : Ev t1 σ H (.int x)) (h2 : Ev t2 σ H (.int y)) (h3 : Ev t3 σ H (.int z)) : EvR (tTup (tCons t1 (tCons t2 (tCons t3 tNil)))) σ H fun A v => Th3 K A v (x, y, z) :=
  er_u (eu_tup (ea_cons h1 (ea_cons h2 (ea_cons h3 ea_nil))) (by show 3 ≤ 100000; decide)) fun p A e hp => ⟨p, rfl, st_of hp⟩
theorem all2_ths {A : Hp} {vs : List V} {ts : List Th} (h : All2 (Th3 K A) vs ts) : ∃ zs : List (Addr × Th), vs = tv zs ∧ ths zs = ts ∧ ∀ z ∈ zs, SqT K A z.1 (iv z.2) := by
  induction h with
  | nil => exact ⟨[], rfl, rfl, fun _ h => nomatch h⟩
  | @cons v t vs ts h _ ih =>
    obtain ⟨q, rfl, hq⟩ := h
    obtain ⟨zs, rfl, rfl, hz⟩ := ih
    exact ⟨(q, t) :: zs, rfl, rfl, fun z hm => (List.mem_cons.mp hm).elim (fun e => by rw [e]; exact hq) (hz z)⟩
theorem er_ths {ts : List Th} (h : EvAR ta σ H (Th3 K) ts) (hz : ts.length ≤ 1000) (nn : ∀ t ∈ ts, Nn t) : EvR (tLst ta) σ H fun A v => ∃ l zs, v = .ref l ∧ Ths K A l zs ∧ ths zs = ts := fun H1 e Q q =>
  er_lst (R := Th3 K) grow_th h (by omega) (S := fun A v => ∃ l zs, v = .ref l ∧ Ths K A l zs ∧ ths zs = ts) (fun p A xs e np r => by
    obtain ⟨zs, rfl, hts, hzs⟩ := all2_ths r
    have hl := ths_len zs
    rw [hts] at hl
    exact ⟨p, zs, rfl, ⟨sq_of upd_same, fun z hm => ex_t (Ex.new np) (hzs z hm), fun z hm => nn z.2 (by rw [← hts]; exact List.mem_map.mpr ⟨z, hm, rfl⟩), by omega⟩, hts⟩) H1 e Q q
def Great (K : PySem.W.Frag) (A : Hp) (v : V) : Prop := ∃ l zs, v = .ref l ∧ Ths K A l zs ∧ (ths zs).all shB = false
theorem Great.mono {A B : Hp} {v : V} (e : Ex A B) (h : Great K A v) : Great K B v := by
  obtain ⟨l, zs, h1, h2, h3⟩ := h
  exact ⟨l, zs, h1, h2.mono e, h3⟩
theorem grow_great : Grow fun A v (_ : Unit) => Great K A v := fun A B v b e h => h.mono e
theorem er_great {ts : List Th} (h : EvAR ta σ H (Th3 K) ts) (hz : ts.length ≤ 1000) (nn : ∀ t ∈ ts, Nn t) (sh : ts.all shB = false) : EvR (tLst ta) σ H fun A v => Great K A v := er_imp (er_ths h hz nn) fun A v _ ⟨l, zs, h1, h2, h3⟩ => ⟨l, zs, h1, h2, by rw [h3]; exact sh⟩
/-! ### what is just within -/
def just : List Th := [(0, 10 ^ 60 - 1, 0)]
theorem just_text : wThs just = "0/999999999999999999999999999999999999999999999999999999999999/0" := by decide +kernel
theorem rv_nines : RV rMulS (.str "9") (.int 60) H (.str "999999999999999999999999999999999999999999999999999999999999") := fun H1 e Q q => ⟨"9", 60, rfl, rfl, by unfold PySem.MulOk; decide +kernel, by
  have : Txt.mul "9" 60 = "999999999999999999999999999999999999999999999999999999999999" := by decide +kernel
  rw [this]
  exact q H1 (Ex.refl H1)⟩
theorem rv_addS {x y : Str} (h : x.length + y.length ≤ sizeLine) : RV (fun x y H Q => ∃ i j, x = .str i ∧ y = .str j ∧ i.length + j.length ≤ sizeLine ∧ Q (.str (i ++ j)) H) (.str x) (.str y) H (.str (x ++ y)) := fun H1 e Q q => ⟨x, y, rfl, rfl, h, q H1 (Ex.refl H1)⟩
theorem ev_callR {te : TE} {S : Hp → V → Prop} {sp : Sp} {E : XK} {z : V} (h : EvR te σ H S) (k : ∀ v H1, Ex H H1 → S H1 v → ∀ Q : VK, (∀ H2, Ex H1 H2 → Q z H2) → sp [v] H1 Q E) : Ev (tCall sp [] E (tCons te tNil)) σ H z := fun H1 e Q q => h H1 e _ fun v H2 e2 s => k v H2 (e.trans e2) s Q fun H3 e3 => q H3 (e2.trans e3)
theorem ev_just {CT : Addr} (_ : Vw H id) : Ev (tCall (spWrittenX K CT) [] E0 (tCons (tLst (tCons (tTup (tCons (tC (.int 0)) (tCons (tOp (rI0 fun i j => .int (i - j)) (tOp (rI CPow fun i j => .int (i ^ j.toNat)) (tC (.int 10)) (tC (.int 60))) (tC (.int 1))) (tCons (tC (.int 0)) tNil)))) tNil)) tNil)) σ H (.str (wThs just)) :=
  ev_callR (er_ths (K := K) (ts := just) (ar_cons grow_th (er_three ev_c (ev_op (ev_op ev_c ev_c (rv_I ⟨by decide, by decide, by decide⟩)) ev_c rv_I0) ev_c) ar_nil) (by decide) (by
    intro t ht
    obtain rfl := List.mem_singleton.mp ht
    exact ⟨by show (0 : Int) ≤ 0; decide, by show (0 : Int) ≤ 10 ^ 60 - 1; decide, by show (0 : Int) ≤ 0; decide⟩)) fun v H2 e2 ⟨l, zs, h1, h2, h3⟩ Q q => by
    subst h1
    refine ⟨.ref l, true, rfl, tl_ths h2, (fun h => by cases h), fun _ => ⟨l, zs, rfl, h2, fun h => ?_, fun _ H3 e3 => ?_⟩⟩
    · rw [h3] at h
      exact absurd h (by decide +kernel)
    · have : zs ≠ [] := fun z => by
        rw [z] at h3
        cases h3
      rw [if_neg this, h3]
      exact q H3 e3
theorem just_so : V.bl (decide (V.str (wThs just) = V.str ((("0/" : Str) ++ ("999999999999999999999999999999999999999999999999999999999999" : Str)) ++ ("/0" : Str)))) = .bl true := by
  rw [just_text]
  decide +kernel
end
end Bp
namespace Bp
theorem kit_val {K : PySem.W.Frag} {D : PySem.Addr} (h : PySem.W.subIn K (.ref D) (.type "ValueError") = some true) : PySem.W.kitOne K (.ref D) (.type "ValueError") = some true := by
  have m : PySem.W.kitMeta "ValueError" = true := by decide +kernel
  have n : ¬ ((PySem.Value.ref D == PySem.Value.type "ValueError") = true) := fun z => by
    have := eq_of_beq z
    cases this
  unfold PySem.W.kitOne
  rw [if_neg n]
  show (if PySem.W.kitMeta "ValueError" = true then PySem.W.subIn K (.ref D) (.type "ValueError") else none) = some true
  rw [if_pos m]
  exact h
end Bp
namespace Bp
open PySem L2 Evl
section
variable {P : Program} {w : World} {K : PySem.W.Frag} {mg : Str → Option Value} {base : Heap}
set_option maxHeartbeats 3200000 in
theorem ok_law6 {f fE fT fQ fA fB fC fD fS fJ fW fX CT CO CM CX CB : Addr} {fd dE dT' dQ dA dB dC dD dS dJ dW dX : FuncData} (F : Fun K "law" "law" sLaw f fd) (T : Bn mg) (R : Drs P w K mg base fD fS fJ fW fX CT CO CM dD dS dJ dW dX) (S : L6ks K mg P w base fE fT fQ fA fB fC CT CO CM CX CB dE dT' dQ dA dB dC) : FnOk P w K mg base CX0 8 f fd ["_law_script"] (spLaw K) := by
  refine F.ok scLaw6 (fun vs H Q E h => ?_) (fun cdv Ar outer s H vs Q E hr h => ?_)
  · obtain ⟨a, ns, rfl, _⟩ := h
    rfl
  · obtain ⟨a, ns, rfl, hS, hz, q⟩ := h
    refine ⟨_, law6_pf T R S hr, ?_⟩
    clear hr
    -- far
    refine q_asg (v := .int (ns.getD 0 0 % 10 ^ 6)) (ev_op (ev_call (z := .int (ns.getD 0 0)) (ea_cons (ev_var rfl) (ea_cons ev_c ea_nil)) fun H1 e1 Q q E => ⟨a, ns, 0, rfl, ex_l e1 hS, q⟩) (ev_is (ev_op ev_c ev_c (rv_I ⟨by decide, by decide, by decide⟩)) (by rfl)) (rv_I (by decide))) fun H1 e1 => ?_
    have hfar : 0 ≤ ns.getD 0 0 % 10 ^ 6 := Int.emod_nonneg _ (by decide)
    generalize ns.getD 0 0 % 10 ^ 6 = far at hfar
    have hneg : decide (0 ≤ -1 - far) = false := decide_eq_false (by omega)
    -- due
    refine q_asgL (xs := []) (el_lst ea_nil (by show 0 ≤ 100000; decide)) fun d H2 nd e2 hd => ?_
    refine q_forR1 (n := 3) (ea_cons ev_c ea_nil) (by omega) (fun i σ' H' => ∃ (v3 : Option V) (qs : List Addr), σ' = [some (.ref a), some (.int far), some (.ref d), v3, none, none, none, none, none, none, none, none, none, none, none, none, none] ∧ Ex H1 H' ∧ H' d = some (.lst (qs.map V.ref)) ∧ qs.length = i ∧ ∀ (j : Nat) p, qs[j]? = some p → H' p = some (.lst (hits (decide (V.int (j : Int) = V.int 0)) (decide (V.int (j : Int) = V.int 1)) (decide (V.int (j : Int) = V.int 2)))))
      (fun H3 e3 => ⟨none, [], rfl, e2.trans e3, e3 _ _ hd, rfl, fun j p h => by cases h⟩) ?_ ?_
    · rintro i σ' H' hi ⟨v3, qs, rfl, e', hl, hqs, hall⟩
      refine s_appL hl (ev_var rfl) (el_lst (ea_cons (ev_op (ev_var rfl) ev_c (rv_eq rfl)) (ea_cons (ev_op (ev_var rfl) ev_c (rv_eq rfl)) (ea_cons (ev_op (ev_var rfl) ev_c (rv_eq rfl)) (ea_cons ev_c (ea_cons ev_c ea_nil))))) (by show 5 ≤ 100000; decide)) (by rw [List.length_map]; omega) fun p H4 np e4 hp => ⟨_, qs ++ [p], rfl, Ex.mut (e'.trans e4) nd, ?_, ?_, ?_⟩
      · rw [upd_same, List.map_append]
        rfl
      · rw [List.length_append, hqs]
        rfl
      · intro j r hj
        have hne : r ≠ d := by
          rcases Nat.lt_or_ge j qs.length with h | h
          · rw [List.getElem?_append_left h] at hj
            intro z
            have h1 := hall j r hj
            rw [z, hl] at h1
            have h2 := HO.lst.inj (Option.some.inj h1)
            cases qs with
            | nil => cases h2
            | cons x xs => cases h2
          · intro z
            have hj1 : j - qs.length = 0 := by
              have := (List.getElem?_eq_some_iff.mp hj).1
              rw [List.length_append] at this
              simp only [List.length_cons, List.length_nil] at this
              omega
            rw [List.getElem?_append_right h, hj1] at hj
            obtain rfl := Option.some.inj hj
            rw [z, hl] at np
            cases np
        rw [upd_ne hne]
        rcases Nat.lt_or_ge j qs.length with h | h
        · rw [List.getElem?_append_left h] at hj
          exact e4 _ _ (hall j r hj)
        · have hj1 : j = i := by
            have := (List.getElem?_eq_some_iff.mp hj).1
            rw [List.length_append] at this
            simp only [List.length_cons, List.length_nil] at this
            omega
          rw [List.getElem?_append_right h, show j - qs.length = 0 by omega] at hj
          obtain rfl := Option.some.inj hj
          rw [hp, hj1]
          rfl
    rintro σ' H3 ⟨v3, qs, rfl, e3, hl3, hqs, hall⟩
    have hDu : Dues H3 d := by
      match qs, hqs, hl3, hall with
      | [q0, q1, q2], _, hl3, hall => exact ⟨q0, q1, q2, hl3, hall 0 q0 rfl, hall 1 q1 rfl, hall 2 q2 rfl⟩
    clear hl3 hall hqs hd e2
    -- things
    refine ⟨.ref a, rfl, a, ns, rfl, ex_l (e1.trans e3) hS, hz, fun l zs H4 e4 nl hl hbd hzs => ?_⟩
    have hT : Ths K H4 l zs := ⟨sq_of hl, fun z hz => st_of (hbd z hz).1, fun z hz => (hbd z hz).2.nn, by omega⟩
    have hDu4 := hDu.mono e4
    clear hbd hl nl
    -- kept, many
    refine q_parL (xs := tv zs) (v := .int ((tv zs).length : Int)) (el_list (ev_var rfl) hT.ls) (fun H5 e5 => ev_cb (ea_cons (ev_var rfl) ea_nil) (rc_lenL (ex_l e5 hT.ls))) fun kp H6 nkp e6 hkp => ?_
    have hT6 := hT.mono e6
    have hK6 : Ths K H6 kp zs := hT6.some (sq_of hkp) (fun u hu => hu) (by omega)
    have hDu6 := hDu4.mono e6
    clear hkp e6 e4 hT hDu4 hDu nkp hS
    rw [tv_len]
    -- bad
    have hw := vw_id H6
    refine q_lstR (R := fun A v b => Tl K (id A) v b) (bs := [false, false, false, false, false, false, false, false, false, false, false, false]) (ar_cons (b := false) (grow_tl (K := K) hw) (l_s ev_c (fun _ => ty_non)) (ar_cons (b := false) (grow_tl (K := K) hw) (l_tup hw (grow_tg (K := K) hw) ar_nil (by decide)) (ar_cons (b := false) (grow_tl (K := K) hw) (l_tup hw (grow_tg (K := K) hw) (ar_cons (b := true) (grow_tg (K := K) hw) (g_tup hw (ar_cons (b := true) (grow_pt (K := K) hw) (p_i ev_c (by decide)) (ar_cons (b := true) (grow_pt (K := K) hw) (p_i ev_c (by decide)) (ar_cons (b := true) (grow_pt (K := K) hw) (p_i ev_c (by decide)) ar_nil))) (by decide) (b := true) (by decide)) ar_nil) (by decide)) (ar_cons (b := false) (grow_tl (K := K) hw) (l_s ev_c (fun _ => ty_str)) (ar_cons (b := false) (grow_tl (K := K) hw) (l_dic hw) (ar_cons (b := false) (grow_tl (K := K) hw) (l_s ev_c (fun _ => ty_int)) (ar_cons (b := false) (grow_tl (K := K) hw) (l_lst hw (ar_cons (b := false) (grow_tg (K := K) hw) (g_s ev_c (fun _ => ty_non)) ar_nil) (by decide) (b := false) (by decide)) (ar_cons (b := false) (grow_tl (K := K) hw) (l_lst hw (ar_cons (b := false) (grow_tg (K := K) hw) (g_s ev_c (fun _ => ty_int)) ar_nil) (by decide) (b := false) (by decide)) (ar_cons (b := false) (grow_tl (K := K) hw) (l_lst hw (ar_cons (b := false) (grow_tg (K := K) hw) (g_tup hw (ar_cons (b := true) (grow_pt (K := K) hw) (p_i ev_c (by decide)) (ar_cons (b := true) (grow_pt (K := K) hw) (p_i ev_c (by decide)) ar_nil)) (by decide) (b := false) (by decide)) ar_nil) (by decide) (b := false) (by decide)) (ar_cons (b := false) (grow_tl (K := K) hw) (l_lst hw (ar_cons (b := false) (grow_tg (K := K) hw) (g_tup hw (ar_cons (b := true) (grow_pt (K := K) hw) (p_i ev_c (by decide)) (ar_cons (b := true) (grow_pt (K := K) hw) (p_i ev_c (by decide)) (ar_cons (b := true) (grow_pt (K := K) hw) (p_i ev_c (by decide)) (ar_cons (b := true) (grow_pt (K := K) hw) (p_i ev_c (by decide)) ar_nil)))) (by decide) (b := false) (by decide)) ar_nil) (by decide) (b := false) (by decide)) (ar_cons (b := false) (grow_tl (K := K) hw) (l_lst hw (ar_cons (b := false) (grow_tg (K := K) hw) (g_lst hw (grow_pt (K := K) hw) (ar_cons (b := true) (grow_pt (K := K) hw) (p_i ev_c (by decide)) (ar_cons (b := true) (grow_pt (K := K) hw) (p_i ev_c (by decide)) (ar_cons (b := true) (grow_pt (K := K) hw) (p_i ev_c (by decide)) ar_nil))) (by decide)) ar_nil) (by decide) (b := false) (by decide)) (ar_cons (b := false) (grow_tl (K := K) hw) (l_lst hw (ar_cons (b := false) (grow_tg (K := K) hw) (g_tup hw (ar_cons (b := false) (grow_pt (K := K) hw) (p_i (ev_un ev_c ru_neg) (by decide)) (ar_cons (b := true) (grow_pt (K := K) hw) (p_i ev_c (by decide)) (ar_cons (b := true) (grow_pt (K := K) hw) (p_i ev_c (by decide)) ar_nil))) (by decide) (b := false) (by decide)) ar_nil) (by decide) (b := false) (by decide)) ar_nil)))))))))))) (by decide) fun p1 A1 xs1 eA1 np1 r1 => ?_
    have hx1 := all2_mem r1 (c := false) (by decide)
    have hl1 := r1.len
    have eB1 := eA1.trans (Ex.new (o := .lst xs1) np1)
    have hp1 : (upd A1 p1 (.lst xs1)) p1 = some (.lst xs1) := upd_same
    have hx1' : ∀ x ∈ xs1, Tl K (upd A1 p1 (.lst xs1)) x false := fun x hx => (hx1 x hx).mono (Ex.new np1)
    generalize upd A1 p1 (.lst xs1) = H7 at eB1 hp1 hx1'
    clear eA1 np1 r1 hx1 A1
    have hw := vw_id H7
    refine q_catR (R := fun A v b => Tl K (id A) v b) (bs := [false, false, false, false, false, false]) (grow_tl (K := K) hw) (ev_var rfl) hp1 (ar_cons (b := false) (grow_tl (K := K) hw) (l_lst hw (ar_cons (b := false) (grow_tg (K := K) hw) (g_tup hw (ar_cons (b := true) (grow_pt (K := K) hw) (p_i ev_c (by decide)) (ar_cons (b := false) (grow_pt (K := K) hw) (p_i (ev_op (ev_un ev_c ru_neg) (ev_var rfl) rv_I0) hneg) (ar_cons (b := true) (grow_pt (K := K) hw) (p_i ev_c (by decide)) ar_nil))) (by decide) (b := false) (by decide)) ar_nil) (by decide) (b := false) (by decide)) (ar_cons (b := false) (grow_tl (K := K) hw) (l_lst hw (ar_cons (b := false) (grow_tg (K := K) hw) (g_tup hw (ar_cons (b := true) (grow_pt (K := K) hw) (p_i ev_c (by decide)) (ar_cons (b := true) (grow_pt (K := K) hw) (p_i ev_c (by decide)) (ar_cons (b := false) (grow_pt (K := K) hw) (p_i (ev_un ev_c ru_neg) (by decide)) ar_nil))) (by decide) (b := false) (by decide)) ar_nil) (by decide) (b := false) (by decide)) (ar_cons (b := false) (grow_tl (K := K) hw) (l_lst hw (ar_cons (b := false) (grow_tg (K := K) hw) (g_tup hw (ar_cons (b := false) (grow_pt (K := K) hw) (p_s ev_c (fun _ => ty_bool)) (ar_cons (b := true) (grow_pt (K := K) hw) (p_i ev_c (by decide)) (ar_cons (b := true) (grow_pt (K := K) hw) (p_i ev_c (by decide)) ar_nil))) (by decide) (b := false) (by decide)) ar_nil) (by decide) (b := false) (by decide)) (ar_cons (b := false) (grow_tl (K := K) hw) (l_lst hw (ar_cons (b := false) (grow_tg (K := K) hw) (g_tup hw (ar_cons (b := true) (grow_pt (K := K) hw) (p_i ev_c (by decide)) (ar_cons (b := false) (grow_pt (K := K) hw) (p_s ev_c (fun _ => ty_bool)) (ar_cons (b := true) (grow_pt (K := K) hw) (p_i ev_c (by decide)) ar_nil))) (by decide) (b := false) (by decide)) ar_nil) (by decide) (b := false) (by decide)) (ar_cons (b := false) (grow_tl (K := K) hw) (l_lst hw (ar_cons (b := false) (grow_tg (K := K) hw) (g_tup hw (ar_cons (b := true) (grow_pt (K := K) hw) (p_i ev_c (by decide)) (ar_cons (b := true) (grow_pt (K := K) hw) (p_i ev_c (by decide)) (ar_cons (b := false) (grow_pt (K := K) hw) (p_s ev_c (fun _ => ty_bool)) ar_nil))) (by decide) (b := false) (by decide)) ar_nil) (by decide) (b := false) (by decide)) (ar_cons (b := false) (grow_tl (K := K) hw) (l_lst hw (ar_cons (b := false) (grow_tg (K := K) hw) (g_tup hw (ar_cons (b := false) (grow_pt (K := K) hw) (p_s ev_c (fun _ => ty_str)) (ar_cons (b := true) (grow_pt (K := K) hw) (p_i ev_c (by decide)) (ar_cons (b := true) (grow_pt (K := K) hw) (p_i ev_c (by decide)) ar_nil))) (by decide) (b := false) (by decide)) ar_nil) (by decide) (b := false) (by decide)) ar_nil)))))) (by rw [hl1]; decide) fun p2 A2 xs2 eA2 np2 r2 => ?_
    have hx2 := all2_mem r2 (c := false) (by decide)
    have hl2 := r2.len
    have eB2 := eA2.trans (Ex.new (o := .lst (xs1 ++ xs2)) np2)
    have hp2 : (upd A2 p2 (.lst (xs1 ++ xs2))) p2 = some (.lst (xs1 ++ xs2)) := upd_same
    have hx2' : ∀ x ∈ xs1 ++ xs2, Tl K (upd A2 p2 (.lst (xs1 ++ xs2))) x false := fun x hx => (List.mem_append.mp hx).elim (fun h => (hx1' x h).mono eB2) fun h => (hx2 x h).mono (Ex.new np2)
    generalize upd A2 p2 (.lst (xs1 ++ xs2)) = H8 at eB2 hp2 hx2'
    clear eA2 np2 r2 hx2 hx1' hp1 A2
    have hw := vw_id H8
    have hl12 : (xs1 ++ xs2).length = 18 := by rw [List.length_append, hl1, hl2]; rfl
    refine q_catR (R := fun A v b => Tl K (id A) v b) (bs := [false, false, false, false]) (grow_tl (K := K) hw) (ev_var rfl) hp2 (ar_cons (b := false) (grow_tl (K := K) hw) (l_lst hw (ar_cons (b := false) (grow_tg (K := K) hw) (g_tup hw (ar_cons (b := true) (grow_pt (K := K) hw) (p_i ev_c (by decide)) (ar_cons (b := false) (grow_pt (K := K) hw) (p_s ev_c (fun _ => ty_non)) (ar_cons (b := true) (grow_pt (K := K) hw) (p_i ev_c (by decide)) ar_nil))) (by decide) (b := false) (by decide)) ar_nil) (by decide) (b := false) (by decide)) (ar_cons (b := false) (grow_tl (K := K) hw) (l_lst hw (ar_cons (b := false) (grow_tg (K := K) hw) (g_tup hw (ar_cons (b := true) (grow_pt (K := K) hw) (p_i ev_c (by decide)) (ar_cons (b := true) (grow_pt (K := K) hw) (p_i ev_c (by decide)) (ar_cons (b := false) (grow_pt (K := K) hw) (p_s ev_c (fun _ => ty_str)) ar_nil))) (by decide) (b := false) (by decide)) ar_nil) (by decide) (b := false) (by decide)) (ar_cons (b := false) (grow_tl (K := K) hw) (l_lst hw (ar_cons (b := true) (grow_tg (K := K) hw) (g_tup hw (ar_cons (b := true) (grow_pt (K := K) hw) (p_i ev_c (by decide)) (ar_cons (b := true) (grow_pt (K := K) hw) (p_i ev_c (by decide)) (ar_cons (b := true) (grow_pt (K := K) hw) (p_i ev_c (by decide)) ar_nil))) (by decide) (b := true) (by decide)) (ar_cons (b := false) (grow_tg (K := K) hw) (g_tup hw (ar_cons (b := true) (grow_pt (K := K) hw) (p_i ev_c (by decide)) (ar_cons (b := true) (grow_pt (K := K) hw) (p_i ev_c (by decide)) (ar_cons (b := false) (grow_pt (K := K) hw) (p_i (ev_op (ev_un ev_c ru_neg) (ev_var rfl) rv_I0) hneg) ar_nil))) (by decide) (b := false) (by decide)) ar_nil)) (by decide) (b := false) (by decide)) (ar_cons (b := false) (grow_tl (K := K) hw) (l_lst hw (ar_cons (b := false) (grow_tg (K := K) hw) (g_tup hw (ar_cons (b := false) (grow_pt (K := K) hw) (p_i (ev_op (ev_un ev_c ru_neg) (ev_var rfl) rv_I0) hneg) (ar_cons (b := true) (grow_pt (K := K) hw) (p_i ev_c (by decide)) (ar_cons (b := true) (grow_pt (K := K) hw) (p_i ev_c (by decide)) ar_nil))) (by decide) (b := false) (by decide)) (ar_cons (b := true) (grow_tg (K := K) hw) (g_tup hw (ar_cons (b := true) (grow_pt (K := K) hw) (p_i ev_c (by decide)) (ar_cons (b := true) (grow_pt (K := K) hw) (p_i ev_c (by decide)) (ar_cons (b := true) (grow_pt (K := K) hw) (p_i ev_c (by decide)) ar_nil))) (by decide) (b := true) (by decide)) ar_nil)) (by decide) (b := false) (by decide)) ar_nil)))) (by rw [hl12]; decide) fun p A3 xs3 eA3 np r3 => ?_
    have hx3 := all2_mem r3 (c := false) (by decide)
    have hl3 : (xs1 ++ xs2 ++ xs3).length = 22 := by rw [List.length_append, hl12, r3.len]; rfl
    have hx3' : ∀ x ∈ xs1 ++ xs2 ++ xs3, Tl K A3 x false := fun x hx => (List.mem_append.mp hx).elim (fun h => (hx2' x h).mono eA3) fun h => hx3 x h
    generalize xs1 ++ xs2 ++ xs3 = bd at hl3 hx3'
    have e6A := (eB1.trans eB2).trans eA3
    have hTA := hT6.mono e6A
    have hKA := hK6.mono e6A
    have hDA := hDu6.mono e6A
    clear hx3 r3 hx2' hp2 hl12 hl1 hl2 eA3 eB1 eB2 hw e6A
    -- some six places
    have hle : zs.length < 190 := by omega
    obtain ⟨cnt, hcnt, hrg⟩ := rgc6 hle
    refine q_forR3 (lo := 0) (hi := (zs.length : Int)) (c := 1 + (zs.length : Int) / 6) (n := cnt) (ea_cons ev_c (ea_cons (ev_var rfl) (ea_cons (ev_op ev_c (ev_op (ev_var rfl) ev_c (rv_I ⟨by decide, by decide⟩)) rv_I0) ea_nil))) hrg
      (fun i σ' H' => ∃ (v8 v9 : Option V) (xs : List V), σ' = [some (.ref a), some (.int far), some (.ref d), v3, some (.ref l), some (.ref kp), some (.int (zs.length : Int)), some (.ref p), v8, v9, none, none, none, none, none, none, none] ∧ Ex A3 H' ∧ H' p = some (.lst xs) ∧ (∀ x ∈ xs, Tl K (wo p H') x false) ∧ xs.length ≤ 22 + i)
      (fun H9 e9 => ⟨none, none, bd, rfl, (Ex.new np).trans e9, e9 _ _ upd_same, fun x hx => (hx3' x hx).mono (wo_into ((Ex.new np).trans e9) np), by omega⟩) ?_ ?_
    · rintro i σ' H' hi ⟨v8, v9, xs, rfl, e', hp, hx, hxl⟩
      have h0 : 0 ≤ (0 : Int) + (i : Int) * (1 + (zs.length : Int) / 6) := by
        have : 0 ≤ (i : Int) * (1 + (zs.length : Int) / 6) := Int.mul_nonneg (by omega) (by omega)
        omega
      obtain ⟨at_, hat⟩ : ∃ n : Nat, (0 : Int) + (i : Int) * (1 + (zs.length : Int) / 6) = (n : Int) := ⟨((0 : Int) + (i : Int) * (1 + (zs.length : Int) / 6)).toNat, by omega⟩
      rw [hat]
      have hw := vw_wo hp
      refine q_asgR (er_ixT (j := (at_ : Int) % 5) (R := fun A v b => Tg K (wo p A) v b) (bs := [false, false, false, false, false]) (grow_tg (K := K) hw) (ar_cons (b := false) (grow_tg (K := K) hw) (g_s ev_c (fun _ => ty_non)) (ar_cons (b := false) (grow_tg (K := K) hw) (g_tup hw (ar_cons (b := true) (grow_pt (K := K) hw) (p_i ev_c (by decide)) (ar_cons (b := true) (grow_pt (K := K) hw) (p_i ev_c (by decide)) ar_nil)) (by decide) (b := false) (by decide)) (ar_cons (b := false) (grow_tg (K := K) hw) (g_tup hw (ar_cons (b := true) (grow_pt (K := K) hw) (p_i ev_c (by decide)) (ar_cons (b := true) (grow_pt (K := K) hw) (p_i ev_c (by decide)) (ar_cons (b := false) (grow_pt (K := K) hw) (p_i (ev_op (ev_un ev_c ru_neg) (ev_var rfl) rv_I0) hneg) ar_nil))) (by decide) (b := false) (by decide)) (ar_cons (b := false) (grow_tg (K := K) hw) (g_lst hw (grow_pt (K := K) hw) (ar_cons (b := true) (grow_pt (K := K) hw) (p_i ev_c (by decide)) (ar_cons (b := true) (grow_pt (K := K) hw) (p_i ev_c (by decide)) (ar_cons (b := true) (grow_pt (K := K) hw) (p_i ev_c (by decide)) ar_nil))) (by decide)) (ar_cons (b := false) (grow_tg (K := K) hw) (g_tup hw (ar_cons (b := true) (grow_pt (K := K) hw) (p_i ev_c (by decide)) (ar_cons (b := false) (grow_pt (K := K) hw) (p_s ev_c (fun _ => ty_bool)) (ar_cons (b := true) (grow_pt (K := K) hw) (p_i ev_c (by decide)) ar_nil))) (by decide) (b := false) (by decide)) ar_nil))))) (by decide) (fun H1 e1 => ev_op (ev_var rfl) ev_c (rv_I (by decide))) (Int.emod_nonneg _ (by decide)) (by show (at_ : Int) % 5 < 5; exact Int.emod_lt_of_pos _ (by decide))) fun v A9 e9 ⟨c, hc, hv⟩ => ?_
      obtain rfl : c = false := by
        revert hc
        cases c with
        | false => exact fun _ => rfl
        | true => decide
      have hpA := e9 _ _ hp
      have hTl := hTA.mono (e'.trans e9)
      have hsl1 : ∀ {H1 : Hp}, Ex A9 H1 → SqL K H1 l (tv zs) := fun e => ex_l e hTl.ls
      refine s_appL (l := p) (ys := (tv (zs.take at_) ++ [v]) ++ tv (zs.drop (at_ + 1))) hpA (ev_var rfl) (el_cat (el_cat (fun H1 e1 Q q => el_sl (ev_var rfl) eo_none (eo_some (ev_var rfl)) (hsl1 e1) H1 (Ex.refl _) Q fun r H2 nr e2 hr => q r H2 nr e2 (by rw [hr, cut_take, tv_take])) (el_lst (ea_cons (ev_var rfl) ea_nil) (by show 1 ≤ 100000; decide)) (by rw [tv_len, List.length_take]; show _ + 1 ≤ _; omega))
        (fun H1 e1 Q q => el_sl (ev_var rfl) (eo_some (ev_op (ev_var rfl) ev_c rv_I0)) eo_none (hsl1 e1) H1 (Ex.refl _) Q fun r H2 nr e2 hr => q r H2 nr e2 (by rw [hr, show (at_ : Int) + 1 = ((at_ + 1 : Nat) : Int) by omega, cut_drop, tv_drop])) (by rw [List.length_append, tv_len, tv_len, List.length_take, List.length_drop]; show _ + 1 + _ ≤ _; omega)) (by omega) fun r H10 nr e10 hr => ⟨_, _, xs ++ [.ref r], rfl, Ex.mut ((e'.trans e9).trans e10) np, upd_same, ?_, ?_⟩
      · have hrp : r ≠ p := fun z => by rw [z, hpA] at nr; cases nr
        have ew : Ex (wo p H') (wo p (upd H10 p (.lst (xs ++ [.ref r])))) := by
          rw [wo_upd]
          exact wo_mono (e9.trans e10)
        have ew9 : Ex (wo p A9) (wo p (upd H10 p (.lst (xs ++ [.ref r])))) := by
          rw [wo_upd]
          exact wo_mono e10
        have hTw : Ths K (wo p (upd H10 p (.lst (xs ++ [.ref r])))) l zs := hTA.mono (by
          rw [wo_upd]
          exact wo_into ((e'.trans e9).trans e10) np)
        intro x hxx
        rcases List.mem_append.mp hxx with h | h
        · exact (hx x h).mono ew
        · obtain rfl := List.mem_singleton.mp h
          refine .inl ⟨r, _, ((zs.take at_).map fun _ => true) ++ [false] ++ ((zs.drop (at_ + 1)).map fun _ => true), rfl, sq_of (by rw [wo_upd, wo_ne hrp]; exact hr), ?_, ?_, ?_⟩
          · rw [List.length_append, List.length_append, tv_len, tv_len, List.length_take, List.length_drop]
            show _ + 1 + _ ≤ _
            omega
          · exact ((All2.map _ _ _ fun z hz => tg_thing (hTw.it z (List.mem_of_mem_take hz)) (hTw.nn z (List.mem_of_mem_take hz))).app (.cons (hv.mono ew9) .nil)).app (All2.map _ _ _ fun z hz => tg_thing (hTw.it z (List.mem_of_mem_drop hz)) (hTw.nn z (List.mem_of_mem_drop hz)))
          · rw [List.all_append, List.all_append, all_yes]
            rfl
      · rw [List.length_append]
        show xs.length + 1 ≤ _
        omega
    rintro σ' H10 ⟨v8, v9, xs, rfl, e10, hp, hxw, hxl⟩
    have hx : ∀ x ∈ xs, Tl K H10 x false := fun x h => (hxw x h).mono (wo_less p H10)
    have hT10 := hTA.mono e10
    have hK10 := hKA.mono e10
    have hD10 := hDA.mono e10
    clear hxw hx3' hl3 hTA hKA hDA e10 hrg
    -- the doors
    refine q_forR1 (n := 5) (ea_cons ev_c ea_nil) (by omega) (fun i σ' H' => ∃ v10 : Option V, σ' = [some (.ref a), some (.int far), some (.ref d), v3, some (.ref l), some (.ref kp), some (.int (zs.length : Int)), some (.ref p), v8, v9, v10, none, none, none, none, none, none] ∧ Ex H10 H') (fun H11 e11 => ⟨none, rfl, e11⟩) ?_ ?_
    · rintro i σ' H' hi ⟨v10, rfl, e'⟩
      obtain ⟨⟨dq, hdq, hdq2⟩, _, _⟩ := due_at (hD10.mono e')
      refine s_when (b := false) (et_is (et_not (et_B (b := true) (ev_cbL (el_lcL (a := p) (xs := xs) (fun _ => true) (fun _ => .bl true) (ev_var rfl) (sq_of (e' _ _ hp)) (by omega) (fun x => rfl) (fun j x H1 e1 hj => et_yes) fun j x H1 e1 hj _ => ?_) fun r H1 e1 hr => ?_))) rfl) (fun q => by cases q) fun _ H1 e1 => ⟨_, rfl, e'.trans e1⟩
      · refine ev_same (el_told ev_c (ev_var rfl) (ev_var rfl) S.kA S.bA S.GA S.nT fun Q' E' H2 e2 r => ⟨_, x, rfl, .inl ((hx x (List.mem_of_getElem? hj)).mono ((e'.trans e1).trans e2)), r⟩) (fun H2 e2 => ev_op (ev_var rfl) ev_c ?_) (e1 _ _ hdq2)
        exact fun H3 e3 => hdq H3 ((e1.trans e2).trans e3)
      · rw [given_true] at hr
        have := rc_all (K := K) (sq_of hr)
        rw [all_true] at this
        exact this
    rintro σ' H11 ⟨v10, rfl, e11⟩
    have hT11 := hT10.mono e11
    have hK11 := hK10.mono e11
    have hD11 := hD10.mono e11
    clear hT10 hK10 hD10 e11 hx hp
    -- the order
    refine ⟨.int (zs.length : Int), rfl, (zs.length : Int), rfl, RgOk.of_le (by omega) (by omega) (by omega) (by omega), fun o no => ?_⟩
    have hO : (upd H11 o (.lst (rgV 0 (zs.length : Int)))) o = some (.lst ((up zs.length).map V.int)) := by rw [upd_same, rg_ints]; rfl
    have e12 := Ex.new (o := .lst (rgV 0 (zs.length : Int))) no
    generalize upd H11 o (.lst (rgV 0 (zs.length : Int))) = H12 at hO e12
    have hT12 := hT11.mono e12
    have hK12 := hK11.mono e12
    have hD12 := hD11.mono e12
    clear hT11 hK11 hD11 e12 no
    -- wrong
    have hw := vw_id H12
    refine q_lstR (R := fun A v (n : Nat) => NoO K (id A) v n) (bs := [zs.length, zs.length, zs.length, zs.length, zs.length, zs.length, zs.length, zs.length, zs.length]) (ar_cons (b := zs.length) (grow_no (K := K) hw) (o_s ev_c (fun _ => ty_non)) (ar_cons (b := zs.length) (grow_no (K := K) hw) (o_tup (ev_var rfl) (sq_of hO)) (ar_cons (b := zs.length) (grow_no (K := K) hw) (o_s ev_c (fun _ => ty_str)) (ar_cons (b := zs.length) (grow_no (K := K) hw) (o_dic hw) (ar_cons (b := zs.length) (grow_no (K := K) hw) (o_s ev_c (fun _ => ty_int)) (ar_cons (b := zs.length) (grow_no (K := K) hw) (o_ints (is := up zs.length ++ [(zs.length : Int)]) (el_ownI (ev_var rfl) hO (ev_var rfl) (by rw [up_len]; omega)) (by rw [List.length_append, up_len]; show _ + 1 ≤ _; omega) (o_more _)) (ar_cons (b := zs.length) (grow_no (K := K) hw) (o_ints (is := up zs.length ++ [0]) (el_ownI (ev_var rfl) hO ev_c (by rw [up_len]; omega)) (by rw [List.length_append, up_len]; show _ + 1 ≤ _; omega) (o_more _)) (ar_cons (b := zs.length) (grow_no (K := K) hw) (o_none (k := zs.length + 1) (el_rep (n := zs.length + 1) (el_lst (ea_cons ev_c ea_nil) (by show 1 ≤ 100000; decide)) (fun H1 e1 => ev_is (ev_op (ev_var rfl) ev_c rv_I0) (by show V.int _ = V.int _; congr 1)) (by omega)) (by omega) (by omega)) (ar_cons (b := zs.length) (grow_no (K := K) hw) (o_ints (is := (up zs.length).drop 1 ++ [(zs.length : Int) + far]) (el_moreI (el_dropI (ev_var rfl) (sq_of hO)) (ev_op (ev_var rfl) (ev_var rfl) rv_I0) (by rw [List.length_drop, up_len]; omega)) (by rw [List.length_append, List.length_drop, up_len]; show _ + 1 ≤ _; omega) (o_far (by omega))) ar_nil))))))))) (by show 9 ≤ 100000; decide) fun pw A ws eA npw rw_ => ?_
    have hws := all2_mem rw_ (c := zs.length) (by intro b hb; simpa using hb)
    have hwl : ws.length = 9 := rw_.len
    have eB := eA.trans (Ex.new (o := .lst ws) npw)
    have hpw : (upd A pw (.lst ws)) pw = some (.lst ws) := upd_same
    have hws' : ∀ x ∈ ws, NoO K (upd A pw (.lst ws)) x zs.length := fun x hx => (hws x hx).mono (Ex.new npw)
    generalize upd A pw (.lst ws) = H13 at eB hpw hws'
    clear eA npw rw_ hws A hw
    refine q_cut (M := (fun σ2 H2 => ∃ (pw : Addr) (ws : List V), σ2 = [some (.ref a), some (.int far), some (.ref d), v3, some (.ref l), some (.ref kp), some (.int (zs.length : Int)), some (.ref p), v8, v9, v10, some (.ref o), some (.ref pw), none, none, none, none] ∧ Ex H12 H2 ∧ H2 pw = some (.lst ws) ∧ (∀ x ∈ ws, NoO K H2 x zs.length) ∧ ws.length ≤ 14)) ?_ ?_
    · refine s_when (et_test (ev_op (ev_var rfl) ev_c rv_I0)) (fun hb H1 e1 => ?_) (fun _ H1 e1 => ⟨pw, ws, rfl, eB.trans e1, e1 _ _ hpw, fun x hx => (hws' x hx).mono e1, by omega⟩)
      have hm : 0 < zs.length := by
        have := of_decide_eq_true hb
        omega
      have hw := vw_id H1
      have hO1 := e1 _ _ (eB _ _ hO)
      refine s_catR (R := fun A v (n : Nat) => NoO K (id A) v n) (bs := [zs.length, zs.length, zs.length, zs.length, zs.length]) (grow_no (K := K) hw) (ev_var rfl) (e1 _ _ hpw) (ar_cons (b := zs.length) (grow_no (K := K) hw) (o_ints (is := (up zs.length).drop 1) (el_dropI (ev_var rfl) (sq_of hO1)) (by rw [List.length_drop, up_len]; omega) (o_drop hm)) (ar_cons (b := zs.length) (grow_no (K := K) hw) (o_ints (is := (up zs.length).take ((up zs.length).length - 1)) (el_butI (ev_var rfl) (sq_of hO1)) (by rw [List.length_take, up_len]; omega) (by rw [up_len]; exact o_take hm)) (ar_cons (b := zs.length) (grow_no (K := K) hw) (o_ints (is := (up zs.length).drop 1 ++ [-1]) (el_moreI (el_dropI (ev_var rfl) (sq_of hO1)) (ev_un ev_c ru_neg) (by rw [List.length_drop, up_len]; omega)) (by rw [List.length_append, List.length_drop, up_len]; show _ + 1 ≤ _; omega) o_low) (ar_cons (b := zs.length) (grow_no (K := K) hw) (o_bad (is := (up zs.length).take ((up zs.length).length - 1)) (el_moreV (el_butI (ev_var rfl) (sq_of hO1)) ev_c (by rw [List.length_take, up_len]; omega)) (by rw [List.length_take, up_len]; omega) (fun _ => sc_n ty_str)) (ar_cons (b := zs.length) (grow_no (K := K) hw) (o_bad (is := (up zs.length).take ((up zs.length).length - 1)) (el_moreV (el_butI (ev_var rfl) (sq_of hO1)) ev_c (by rw [List.length_take, up_len]; omega)) (by rw [List.length_take, up_len]; omega) (fun _ => sc_n ty_non)) ar_nil))))) (by show ws.length + 5 ≤ _; omega) fun p2 A us eA np2 ru => ⟨p2, ws ++ us, rfl, ((eB.trans e1).trans eA).trans (Ex.new np2), upd_same, fun x hx => (List.mem_append.mp hx).elim (fun h => (hws' x h).mono ((e1.trans eA).trans (Ex.new np2))) fun h => (all2_mem ru (c := zs.length) (by intro b hb; simpa using hb) x h).mono (Ex.new np2), by rw [List.length_append]; have : us.length = 5 := ru.len; omega⟩
    clear hws' hpw hwl eB ws pw
    rintro σ' H14 ⟨pw, ws, rfl, e14, hpw, hws, hwl⟩
    refine q_cut (M := (fun σ2 H2 => ∃ (pw : Addr) (ws : List V), σ2 = [some (.ref a), some (.int far), some (.ref d), v3, some (.ref l), some (.ref kp), some (.int (zs.length : Int)), some (.ref p), v8, v9, v10, some (.ref o), some (.ref pw), none, none, none, none] ∧ Ex H14 H2 ∧ H2 pw = some (.lst ws) ∧ (∀ x ∈ ws, NoO K H2 x zs.length) ∧ ws.length ≤ 17)) ?_ ?_
    · refine s_when (et_test (ev_op (ev_var rfl) ev_c rv_I0)) (fun hb H1 e1 => ?_) (fun _ H1 e1 => ⟨pw, ws, rfl, e1, e1 _ _ hpw, fun x hx => (hws x hx).mono e1, by omega⟩)
      have hm : 1 < zs.length := by
        have := of_decide_eq_true hb
        omega
      have hw := vw_id H1
      have hO1 := e1 _ _ (e14 _ _ hO)
      refine s_catR (R := fun A v (n : Nat) => NoO K (id A) v n) (bs := [zs.length, zs.length, zs.length]) (grow_no (K := K) hw) (ev_var rfl) (e1 _ _ hpw) (ar_cons (b := zs.length) (grow_no (K := K) hw) (o_true (m := zs.length) (el_trueI (j := 8) (ev_var rfl) (sq_of hO1) (by omega) (fun x => rfl) (fun x => rfl)) hm (by omega)) (ar_cons (b := zs.length) (grow_no (K := K) hw) (o_ints (is := [0] ++ (up zs.length).take ((up zs.length).length - 1)) (el_headI (ev_op (ev_var rfl) ev_c (rv_ixL (sq_of hO1) (up_ix (j := 0) (by omega)))) (el_butI (ev_var rfl) (sq_of hO1)) (by rw [List.length_take, up_len]; omega)) (by rw [List.length_append, List.length_take, up_len]; show 1 + _ ≤ _; omega) (by rw [up_len]; exact o_head hm)) (ar_cons (b := zs.length) (grow_no (K := K) hw) (o_ints (is := (up zs.length).drop 1 ++ [1]) (el_moreI (el_dropI (ev_var rfl) (sq_of hO1)) (ev_op (ev_var rfl) ev_c (rv_ixL (sq_of hO1) (up_ix (j := 1) (by omega)))) (by rw [List.length_drop, up_len]; omega)) (by rw [List.length_append, List.length_drop, up_len]; show _ + 1 ≤ _; omega) (o_one hm)) ar_nil))) (by show ws.length + 3 ≤ _; omega) fun p2 A us eA np2 ru => ⟨p2, ws ++ us, rfl, (e1.trans eA).trans (Ex.new np2), upd_same, fun x hx => (List.mem_append.mp hx).elim (fun h => (hws x h).mono ((e1.trans eA).trans (Ex.new np2))) fun h => (all2_mem ru (c := zs.length) (by intro b hb; simpa using hb) x h).mono (Ex.new np2), by rw [List.length_append]; have : us.length = 3 := ru.len; omega⟩
    have hT14 := hT12.mono e14
    have hK14 := hK12.mono e14
    have hD14 := hD12.mono e14
    clear hws hpw hwl ws pw hT12 hK12 hD12 hO
    rintro σ' H15 ⟨pw, ws, rfl, e15, hpw, hws, hwl⟩
    have hT15 := hT14.mono e15
    have hK15 := hK14.mono e15
    have hD15 := hD14.mono e15
    clear hT14 hK14 hD14 e15 e14
    -- with orders
    refine q_forU (xs := [.ref fB, .ref fC]) (ea_cons ev_c (ea_cons ev_c ea_nil)) (by show 2 ≤ 100000; decide) (fun tp i σ' H' => ∃ v13 : Option V, σ' = [some (.ref a), some (.int far), some (.ref d), v3, some (.ref l), some (.ref kp), some (.int (zs.length : Int)), some (.ref p), v8, v9, v10, some (.ref o), some (.ref pw), v13, none, none, none] ∧ Ex H15 H' ∧ H' tp = some (.tup [.ref fB, .ref fC])) (fun tp H1 _ e1 h1 => ⟨none, rfl, e1, h1⟩) (fun tp i σ' H' ⟨_, _, _, h⟩ => st_of h) ?_ ?_
    · rintro tp i x σ' H' hi ⟨v13, rfl, e', htp⟩
      obtain ⟨fF, dF, spF, rfl, kF, bF, GF, hF⟩ : ∃ (fF : Addr) (dF : FuncData) (spF : Sp), x = .ref fF ∧ PySem.W.keepIn K (.ref fF) = true ∧ Binds K dF ["_law_things_here", "_law_order_here"] [] ∧ FnOk P w K mg base (L2.CX P w) 6 fF dF ["_law_things_here", "_law_order_here"] spF ∧ spF = spDoneX K CT CO := by
        match i, hi with
        | 0, hi => exact ⟨fB, dB, _, (Option.some.inj hi).symm, S.kB, S.bB, S.GB, rfl⟩
        | 1, hi => exact ⟨fC, dC, _, (Option.some.inj hi).symm, S.kC, S.bC, S.GC, rfl⟩
        | i + 2, hi => cases hi
      subst hF
      obtain ⟨_, ⟨dq, hdq, hdq2⟩, _⟩ := due_at (hD15.mono e')
      refine s_when (b := false) (et_is (et_not (et_B (b := true) (ev_cbL (el_lcL (a := pw) (xs := ws) (fun _ => true) (fun _ => .bl true) (ev_var rfl) (sq_of (e' _ _ hpw)) (by omega) (fun x => rfl) (fun j x H1 e1 hj => et_yes) fun j x H1 e1 hj _ => ?_) fun r H1 e1 hr => ?_))) rfl) (fun q => by cases q) fun _ H1 e1 => ⟨_, rfl, e'.trans e1, e1 _ _ htp⟩
      · refine ev_same (el_told (ev_var rfl) (ev_var rfl) (ev_var rfl) kF bF GF S.nO fun Q' E' H2 e2 r => ⟨.ref l, x, true, rfl, tl_ths (hT15.mono ((e'.trans e1).trans e2)), (fun h => by cases h), fun _ => ⟨l, tv zs, rfl, (hT15.mono ((e'.trans e1).trans e2)).ls, by rw [tv_len]; omega, by rw [tv_len]; exact (hws x (List.mem_of_getElem? hj)).mono ((e'.trans e1).trans e2), r⟩⟩) (fun H2 e2 => ev_op (ev_var rfl) ev_c ?_) (e1 _ _ hdq2)
        exact fun H3 e3 => hdq H3 ((e1.trans e2).trans e3)
      · rw [given_true] at hr
        have := rc_all (K := K) (sq_of hr)
        rw [all_true] at this
        exact this
    rintro tp σ' H16 ⟨v13, rfl, e16, _⟩
    have hT16 := hT15.mono e16
    have hK16 := hK15.mono e16
    have hD16 := hD15.mono e16
    clear hT15 hK15 hD15 e16 hws hpw hwl
    -- times
    refine q_forUR (R := fun A v (b : Bool) => Wh K A v b) (bs := [false, false, false, false, false, false]) grow_wh (ar_cons (b := false) grow_wh (w_s ev_c (fun _ => ty_non)) (ar_cons (b := false) grow_wh (w_s ev_c (fun _ => ty_str)) (ar_cons (b := false) grow_wh (w_s ev_c (fun _ => ty_bool)) (ar_cons (b := false) grow_wh (w_l (ea_cons ev_c ea_nil) (by show 1 ≤ 1000; decide)) (ar_cons (b := false) grow_wh (w_u (ea_cons ev_c ea_nil) (by show 1 ≤ 1000; decide)) (ar_cons (b := false) grow_wh w_d ar_nil)))))) (by show 6 ≤ 1000; decide) (fun tp xs i σ' H' => ∃ v14 : Option V, σ' = [some (.ref a), some (.int far), some (.ref d), v3, some (.ref l), some (.ref kp), some (.int (zs.length : Int)), some (.ref p), v8, v9, v10, some (.ref o), some (.ref pw), v13, v14, none, none] ∧ Ex H16 H' ∧ H' tp = some (.tup xs) ∧ ∀ x ∈ xs, Wh K H' x false)
      (fun tp xs A eA htp ra => ⟨none, rfl, eA, htp, all2_mem ra (by decide)⟩) (fun tp xs i σ' H' ⟨_, _, _, h, _⟩ => st_of h) ?_ ?_
    · rintro tp xs i x σ' H' hi ⟨v14, rfl, e', htp, hx⟩
      obtain ⟨_, _, ⟨dq, hdq, hdq2⟩⟩ := due_at (hD16.mono e')
      refine s_when (b := false) (et_test (ev_apart (el_told ev_c (ev_var rfl) (ev_var rfl) R.kW R.bW (R.okW.mono (by decide)) S.nM fun Q' E' H2 e2 r => ⟨.ref l, x, true, rfl, tl_ths (hT16.mono (e'.trans e2)), (fun h => by cases h), fun _ => ⟨(hx x (List.mem_of_getElem? hi)).mono e2, r⟩⟩) (fun H2 e2 => ev_op (ev_var rfl) ev_c (fun H3 e3 => hdq H3 (e2.trans e3))) hdq2)) (fun q => by cases q) fun _ H1 e1 => ⟨_, rfl, e'.trans e1, e1 _ _ htp, fun y hy => (hx y hy).mono e1⟩
    rintro tp xs σ' H17 ⟨v14, rfl, e17, _, _⟩
    have hT17 := hT16.mono e17
    have hK17 := hK16.mono e17
    have hD17 := hD16.mono e17
    clear hT16 hK16 hD16 e17
    -- lengths of more than sixty figures
    have nn1 : ∀ t ∈ ([(10 ^ 60, 0, 0)] : List Th), Nn t := by
      intro t ht
      obtain rfl := List.mem_singleton.mp ht
      exact ⟨by show (0 : Int) ≤ 10 ^ 60; decide, by show (0 : Int) ≤ 0; decide, by show (0 : Int) ≤ 0; decide⟩
    have nn2 : ∀ t ∈ ([(0, 10 ^ 60 + far, 0)] : List Th), Nn t := by
      intro t ht
      obtain rfl := List.mem_singleton.mp ht
      exact ⟨by show (0 : Int) ≤ 0; decide, by show (0 : Int) ≤ 10 ^ 60 + far; omega, by show (0 : Int) ≤ 0; decide⟩
    have nn3 : ∀ t ∈ ([(1, 2, 3), (0, 0, 10 ^ 60)] : List Th), Nn t := by
      intro t ht
      rcases List.mem_cons.mp ht with rfl | ht
      · exact ⟨by show (0 : Int) ≤ 1; decide, by show (0 : Int) ≤ 2; decide, by show (0 : Int) ≤ 3; decide⟩
      · obtain rfl := List.mem_singleton.mp ht
        exact ⟨by show (0 : Int) ≤ 0; decide, by show (0 : Int) ≤ 0; decide, by show (0 : Int) ≤ 10 ^ 60; decide⟩
    have sh1 : ([(10 ^ 60, 0, 0)] : List Th).all shB = false := by decide +kernel
    have sh2 : ([(0, 10 ^ 60 + far, 0)] : List Th).all shB = false := by
      have : decide ((10 : Int) ^ 60 + far < 10 ^ 60) = false := decide_eq_false (by omega)
      show ((decide ((0 : Int) < 10 ^ 60) && (decide ((10 : Int) ^ 60 + far < 10 ^ 60) && decide ((0 : Int) < 10 ^ 60))) && true) = false
      rw [this]
      simp
    have sh3 : ([(1, 2, 3), (0, 0, 10 ^ 60)] : List Th).all shB = false := by decide +kernel
    refine q_forUR (R := fun A v (_ : Unit) => Great K A v) (bs := [(), (), ()]) grow_great (ar_cons (b := ()) grow_great (er_great (ts := [(10 ^ 60, 0, 0)]) (ar_cons grow_th (er_three (ev_op ev_c ev_c (rv_I ⟨by decide, by decide, by decide⟩)) ev_c ev_c) ar_nil) (by show 1 ≤ 1000; decide) nn1 sh1) (ar_cons (b := ()) grow_great (er_great (ts := [(0, 10 ^ 60 + far, 0)]) (ar_cons grow_th (er_three ev_c (ev_op (ev_op ev_c ev_c (rv_I ⟨by decide, by decide, by decide⟩)) (ev_var rfl) rv_I0) ev_c) ar_nil) (by show 1 ≤ 1000; decide) nn2 sh2) (ar_cons (b := ()) grow_great (er_great (ts := [(1, 2, 3), (0, 0, 10 ^ 60)]) (ar_cons grow_th (er_three ev_c ev_c ev_c) (ar_cons grow_th (er_three ev_c ev_c (ev_op ev_c ev_c (rv_I ⟨by decide, by decide, by decide⟩))) ar_nil)) (by show 2 ≤ 1000; decide) nn3 sh3) ar_nil))) (by show 3 ≤ 1000; decide) (fun tp xs i σ' H' => ∃ v15 : Option V, σ' = [some (.ref a), some (.int far), some (.ref d), v3, some (.ref l), some (.ref kp), some (.int (zs.length : Int)), some (.ref p), v8, v9, v10, some (.ref o), some (.ref pw), v13, v14, v15, none] ∧ Ex H17 H' ∧ H' tp = some (.tup xs) ∧ ∀ x ∈ xs, Great K H' x)
      (fun tp xs A eA htp ra => ⟨none, rfl, eA, htp, all2_mem ra (c := ()) (fun _ _ => rfl)⟩) (fun tp xs i σ' H' ⟨_, _, _, h, _⟩ => st_of h) ?_ ?_
    · rintro tp xs i x σ' H' hi ⟨v15, rfl, e', htp, hx⟩
      obtain ⟨⟨dq, hdq, hdq2⟩, _, _⟩ := due_at (hD17.mono e')
      obtain ⟨l2, z2, rfl, hT2, hs2⟩ := hx x (List.mem_of_getElem? hi)
      refine s_when (b := false) (et_test (ev_apart (el_told ev_c ev_c (ev_var rfl) S.kA S.bA S.GA S.nT fun Q' E' H2 e2 r => ⟨4, .ref l2, rfl, .inr ⟨rfl, l2, z2, rfl, hT2.mono e2, hs2⟩, r⟩) (fun H2 e2 => ev_op (ev_var rfl) ev_c (fun H3 e3 => hdq H3 (e2.trans e3))) hdq2)) (fun q => by cases q) fun _ H1 e1 => ⟨_, rfl, e'.trans e1, e1 _ _ htp, fun y hy => (hx y hy).mono e1⟩
    rintro tp xs σ' H18 ⟨v15, rfl, e18, _, _⟩
    have hT18 := hT17.mono e18
    have hK18 := hK17.mono e18
    have hsh := sh_map canT depT (ths zs)
    refine s_ret (v := .bl (true && true)) (ev_andV (ev_op (ev_var rfl) (ev_var rfl) (rv_eqD (dpx_ths hT18) (dpx_ths hK18) hsh)) fun _ => ?_) fun H1 _ => q H1
    exact ev_is (ev_op (ev_just (vw_id H18)) (ev_op (ev_op ev_c (ev_op ev_c ev_c rv_nines) (rv_addS (by decide +kernel))) ev_c (rv_addS (by decide +kernel))) (rv_eq rfl)) just_so
end
end Bp
namespace Bp
open PySem L2 Evl
/-! ### what the top has written -/
set_option maxHeartbeats 4000000 in
theorem all_mk {l : PySem.W.OpenLaw} {t_N : Tok} {w : World} {K : PySem.W.Frag} {h : Heap} {mg : Str → Option Value} {fa f_whole f_len f_thing f_order f_ckT f_ckO f_ckTime f_short f_ckS f_done f_starts f_soonest f_within f_written f_cell f_draw f_things f_kinds f_withT f_withO f_withS f_told f_law C_B C_T C_O C_M C_X : Addr} (X : K.In h) (G : h.Ns mainGlobals mg) (hfa : mg "law" = some (.ref fa))
    {od_whole an_whole od_len an_len od_thing an_thing od_order an_order od_ckT an_ckT od_ckO an_ckO od_ckTime an_ckTime od_short an_short od_ckS an_ckS od_done an_done od_starts an_starts od_soonest an_soonest od_within an_within od_written an_written od_cell an_cell od_draw an_draw od_things an_things od_kinds an_kinds od_withT an_withT od_withO an_withO od_withS an_withS od_told an_told od_law an_law : Option Addr} {sl_whole sl_len sl_thing sl_order sl_ckT sl_ckO sl_ckTime sl_short sl_ckS sl_done sl_starts sl_soonest sl_within sl_written sl_cell sl_draw sl_things sl_kinds sl_withT sl_withO sl_withS sl_told sl_law : Array (Option Value)} {oc_whole kV_whole dc_whole pm_whole cd_whole ct_whole oc_len kV_len dc_len pm_len cd_len ct_len oc_thing kV_thing dc_thing pm_thing cd_thing ct_thing oc_order kV_order dc_order pm_order cd_order ct_order oc_ckT kV_ckT dc_ckT pm_ckT cd_ckT ct_ckT oc_ckO kV_ckO dc_ckO pm_ckO cd_ckO ct_ckO oc_ckTime kV_ckTime dc_ckTime pm_ckTime cd_ckTime ct_ckTime oc_short kV_short dc_short pm_short cd_short ct_short oc_ckS kV_ckS dc_ckS pm_ckS cd_ckS ct_ckS oc_done kV_done dc_done pm_done cd_done ct_done oc_starts kV_starts dc_starts pm_starts cd_starts ct_starts oc_soonest kV_soonest dc_soonest pm_soonest cd_soonest ct_soonest oc_within kV_within dc_within pm_within cd_within ct_within oc_written kV_written dc_written pm_written cd_written ct_written oc_cell kV_cell dc_cell pm_cell cd_cell ct_cell oc_draw kV_draw dc_draw pm_draw cd_draw ct_draw oc_things kV_things dc_things pm_things cd_things ct_things oc_kinds kV_kinds dc_kinds pm_kinds cd_kinds ct_kinds oc_withT kV_withT dc_withT pm_withT cd_withT ct_withT oc_withO kV_withO dc_withO pm_withO cd_withO ct_withO oc_withS kV_withS dc_withS pm_withS cd_withS ct_withS oc_told kV_told dc_told pm_told cd_told ct_told oc_law kV_law dc_law pm_law cd_law ct_law : Value}
    (a_whole : PySem.W.nsIn K mainGlobals "is_whole" = some (some (.ref f_whole))) (l_whole : K.lookup f_whole = some ⟨oc_whole, od_whole, .func (PySem.W.fnOf "is_whole" "is_whole" (defArgs sWhole) (defBody sWhole) (defScope sWhole) .none kV_whole dc_whole pm_whole an_whole cd_whole ct_whole), sl_whole⟩) (c_whole : PySem.W.codeIn K cd_whole "is_whole" = true) (k_whole : PySem.W.keepIn K (.ref f_whole) = true)
    (a_len : PySem.W.nsIn K mainGlobals "is_length" = some (some (.ref f_len))) (l_len : K.lookup f_len = some ⟨oc_len, od_len, .func (PySem.W.fnOf "is_length" "is_length" (defArgs sLen) (defBody sLen) (defScope sLen) .none kV_len dc_len pm_len an_len cd_len ct_len), sl_len⟩) (c_len : PySem.W.codeIn K cd_len "is_length" = true) (k_len : PySem.W.keepIn K (.ref f_len) = true)
    (a_thing : PySem.W.nsIn K mainGlobals "is_thing" = some (some (.ref f_thing))) (l_thing : K.lookup f_thing = some ⟨oc_thing, od_thing, .func (PySem.W.fnOf "is_thing" "is_thing" (defArgs sThing) (defBody sThing) (defScope sThing) .none kV_thing dc_thing pm_thing an_thing cd_thing ct_thing), sl_thing⟩) (c_thing : PySem.W.codeIn K cd_thing "is_thing" = true) (k_thing : PySem.W.keepIn K (.ref f_thing) = true)
    (a_order : PySem.W.nsIn K mainGlobals "is_order" = some (some (.ref f_order))) (l_order : K.lookup f_order = some ⟨oc_order, od_order, .func (PySem.W.fnOf "is_order" "is_order" (defArgs sOrder) (defBody sOrder) (defScope sOrder) .none kV_order dc_order pm_order an_order cd_order ct_order), sl_order⟩) (c_order : PySem.W.codeIn K cd_order "is_order" = true) (k_order : PySem.W.keepIn K (.ref f_order) = true)
    (a_ckT : PySem.W.nsIn K mainGlobals "check_things" = some (some (.ref f_ckT))) (l_ckT : K.lookup f_ckT = some ⟨oc_ckT, od_ckT, .func (PySem.W.fnOf "check_things" "check_things" (defArgs sCkT) (defBody sCkT) (defScope sCkT) .none kV_ckT dc_ckT pm_ckT an_ckT cd_ckT ct_ckT), sl_ckT⟩) (c_ckT : PySem.W.codeIn K cd_ckT "check_things" = true) (k_ckT : PySem.W.keepIn K (.ref f_ckT) = true)
    (a_ckO : PySem.W.nsIn K mainGlobals "check_order" = some (some (.ref f_ckO))) (l_ckO : K.lookup f_ckO = some ⟨oc_ckO, od_ckO, .func (PySem.W.fnOf "check_order" "check_order" (defArgs sCkO) (defBody sCkO) (defScope sCkO) .none kV_ckO dc_ckO pm_ckO an_ckO cd_ckO ct_ckO), sl_ckO⟩) (c_ckO : PySem.W.codeIn K cd_ckO "check_order" = true) (k_ckO : PySem.W.keepIn K (.ref f_ckO) = true)
    (a_ckTime : PySem.W.nsIn K mainGlobals "check_time" = some (some (.ref f_ckTime))) (l_ckTime : K.lookup f_ckTime = some ⟨oc_ckTime, od_ckTime, .func (PySem.W.fnOf "check_time" "check_time" (defArgs sCkTime) (defBody sCkTime) (defScope sCkTime) .none kV_ckTime dc_ckTime pm_ckTime an_ckTime cd_ckTime ct_ckTime), sl_ckTime⟩) (c_ckTime : PySem.W.codeIn K cd_ckTime "check_time" = true) (k_ckTime : PySem.W.keepIn K (.ref f_ckTime) = true)
    (a_short : PySem.W.nsIn K mainGlobals "is_short" = some (some (.ref f_short))) (l_short : K.lookup f_short = some ⟨oc_short, od_short, .func (PySem.W.fnOf "is_short" "is_short" (defArgs sShort) (defBody sShort) (defScope sShort) .none kV_short dc_short pm_short an_short cd_short ct_short), sl_short⟩) (c_short : PySem.W.codeIn K cd_short "is_short" = true) (k_short : PySem.W.keepIn K (.ref f_short) = true)
    (a_ckS : PySem.W.nsIn K mainGlobals "check_short" = some (some (.ref f_ckS))) (l_ckS : K.lookup f_ckS = some ⟨oc_ckS, od_ckS, .func (PySem.W.fnOf "check_short" "check_short" (defArgs sCkS) (defBody sCkS) (defScope sCkS) .none kV_ckS dc_ckS pm_ckS an_ckS cd_ckS ct_ckS), sl_ckS⟩) (c_ckS : PySem.W.codeIn K cd_ckS "check_short" = true) (k_ckS : PySem.W.keepIn K (.ref f_ckS) = true)
    (a_done : PySem.W.nsIn K mainGlobals "done" = some (some (.ref f_done))) (l_done : K.lookup f_done = some ⟨oc_done, od_done, .func (PySem.W.fnOf "done" "done" (defArgs sDone) (defBody sDone) (defScope sDone) .none kV_done dc_done pm_done an_done cd_done ct_done), sl_done⟩) (c_done : PySem.W.codeIn K cd_done "done" = true) (k_done : PySem.W.keepIn K (.ref f_done) = true)
    (a_starts : PySem.W.nsIn K mainGlobals "starts" = some (some (.ref f_starts))) (l_starts : K.lookup f_starts = some ⟨oc_starts, od_starts, .func (PySem.W.fnOf "starts" "starts" (defArgs sStarts) (defBody sStarts) (defScope sStarts) .none kV_starts dc_starts pm_starts an_starts cd_starts ct_starts), sl_starts⟩) (c_starts : PySem.W.codeIn K cd_starts "starts" = true) (k_starts : PySem.W.keepIn K (.ref f_starts) = true)
    (a_soonest : PySem.W.nsIn K mainGlobals "soonest" = some (some (.ref f_soonest))) (l_soonest : K.lookup f_soonest = some ⟨oc_soonest, od_soonest, .func (PySem.W.fnOf "soonest" "soonest" (defArgs sSoonest) (defBody sSoonest) (defScope sSoonest) .none kV_soonest dc_soonest pm_soonest an_soonest cd_soonest ct_soonest), sl_soonest⟩) (c_soonest : PySem.W.codeIn K cd_soonest "soonest" = true) (k_soonest : PySem.W.keepIn K (.ref f_soonest) = true)
    (a_within : PySem.W.nsIn K mainGlobals "within" = some (some (.ref f_within))) (l_within : K.lookup f_within = some ⟨oc_within, od_within, .func (PySem.W.fnOf "within" "within" (defArgs sWithin) (defBody sWithin) (defScope sWithin) .none kV_within dc_within pm_within an_within cd_within ct_within), sl_within⟩) (c_within : PySem.W.codeIn K cd_within "within" = true) (k_within : PySem.W.keepIn K (.ref f_within) = true)
    (a_written : PySem.W.nsIn K mainGlobals "written" = some (some (.ref f_written))) (l_written : K.lookup f_written = some ⟨oc_written, od_written, .func (PySem.W.fnOf "written" "written" (defArgs sWritten) (defBody sWritten) (defScope sWritten) .none kV_written dc_written pm_written an_written cd_written ct_written), sl_written⟩) (c_written : PySem.W.codeIn K cd_written "written" = true) (k_written : PySem.W.keepIn K (.ref f_written) = true)
    (a_cell : PySem.W.nsIn K mainGlobals "_law_cell_at" = some (some (.ref f_cell))) (l_cell : K.lookup f_cell = some ⟨oc_cell, od_cell, .func (PySem.W.fnOf "_law_cell_at" "_law_cell_at" (defArgs sCell) (defBody sCell) (defScope sCell) .none kV_cell dc_cell pm_cell an_cell cd_cell ct_cell), sl_cell⟩) (c_cell : PySem.W.codeIn K cd_cell "_law_cell_at" = true) (k_cell : PySem.W.keepIn K (.ref f_cell) = true)
    (a_draw : PySem.W.nsIn K mainGlobals "_law_draw" = some (some (.ref f_draw))) (l_draw : K.lookup f_draw = some ⟨oc_draw, od_draw, .func (PySem.W.fnOf "_law_draw" "_law_draw" (defArgs sDraw) (defBody sDraw) (defScope sDraw) .none kV_draw dc_draw pm_draw an_draw cd_draw ct_draw), sl_draw⟩) (c_draw : PySem.W.codeIn K cd_draw "_law_draw" = true) (k_draw : PySem.W.keepIn K (.ref f_draw) = true)
    (a_things : PySem.W.nsIn K mainGlobals "_law_things" = some (some (.ref f_things))) (l_things : K.lookup f_things = some ⟨oc_things, od_things, .func (PySem.W.fnOf "_law_things" "_law_things" (defArgs sThings) (defBody sThings) (defScope sThings) .none kV_things dc_things pm_things an_things cd_things ct_things), sl_things⟩) (c_things : PySem.W.codeIn K cd_things "_law_things" = true) (k_things : PySem.W.keepIn K (.ref f_things) = true)
    (a_kinds : PySem.W.nsIn K mainGlobals "_law_kinds" = some (some (.ref f_kinds))) (l_kinds : K.lookup f_kinds = some ⟨oc_kinds, od_kinds, .func (PySem.W.fnOf "_law_kinds" "_law_kinds" (defArgs sKinds) (defBody sKinds) (defScope sKinds) .none kV_kinds dc_kinds pm_kinds an_kinds cd_kinds ct_kinds), sl_kinds⟩) (c_kinds : PySem.W.codeIn K cd_kinds "_law_kinds" = true) (k_kinds : PySem.W.keepIn K (.ref f_kinds) = true)
    (a_withT : PySem.W.nsIn K mainGlobals "_law_with_things" = some (some (.ref f_withT))) (l_withT : K.lookup f_withT = some ⟨oc_withT, od_withT, .func (PySem.W.fnOf "_law_with_things" "_law_with_things" (defArgs sWithT) (defBody sWithT) (defScope sWithT) .none kV_withT dc_withT pm_withT an_withT cd_withT ct_withT), sl_withT⟩) (c_withT : PySem.W.codeIn K cd_withT "_law_with_things" = true) (k_withT : PySem.W.keepIn K (.ref f_withT) = true)
    (a_withO : PySem.W.nsIn K mainGlobals "_law_with_order" = some (some (.ref f_withO))) (l_withO : K.lookup f_withO = some ⟨oc_withO, od_withO, .func (PySem.W.fnOf "_law_with_order" "_law_with_order" (defArgs sWithO) (defBody sWithO) (defScope sWithO) .none kV_withO dc_withO pm_withO an_withO cd_withO ct_withO), sl_withO⟩) (c_withO : PySem.W.codeIn K cd_withO "_law_with_order" = true) (k_withO : PySem.W.keepIn K (.ref f_withO) = true)
    (a_withS : PySem.W.nsIn K mainGlobals "_law_with_starts" = some (some (.ref f_withS))) (l_withS : K.lookup f_withS = some ⟨oc_withS, od_withS, .func (PySem.W.fnOf "_law_with_starts" "_law_with_starts" (defArgs sWithS) (defBody sWithS) (defScope sWithS) .none kV_withS dc_withS pm_withS an_withS cd_withS ct_withS), sl_withS⟩) (c_withS : PySem.W.codeIn K cd_withS "_law_with_starts" = true) (k_withS : PySem.W.keepIn K (.ref f_withS) = true)
    (a_told : PySem.W.nsIn K mainGlobals "_law_told" = some (some (.ref f_told))) (l_told : K.lookup f_told = some ⟨oc_told, od_told, .func (PySem.W.fnOf "_law_told" "_law_told" (defArgs sTold) (defBody sTold) (defScope sTold) .none kV_told dc_told pm_told an_told cd_told ct_told), sl_told⟩) (c_told : PySem.W.codeIn K cd_told "_law_told" = true) (k_told : PySem.W.keepIn K (.ref f_told) = true)
    (a_law : PySem.W.nsIn K mainGlobals "law" = some (some (.ref f_law))) (l_law : K.lookup f_law = some ⟨oc_law, od_law, .func (PySem.W.fnOf "law" "law" (defArgs sLaw) (defBody sLaw) (defScope sLaw) .none kV_law dc_law pm_law an_law cd_law ct_law), sl_law⟩) (c_law : PySem.W.codeIn K cd_law "law" = true) (k_law : PySem.W.keepIn K (.ref f_law) = true)
    (g_B : PySem.W.nsIn K mainGlobals "BenchError" = some (some (.ref C_B)))
    (g_T : PySem.W.nsIn K mainGlobals "BadThings" = some (some (.ref C_T)))
    (g_O : PySem.W.nsIn K mainGlobals "BadOrder" = some (some (.ref C_O)))
    (g_M : PySem.W.nsIn K mainGlobals "BadTime" = some (some (.ref C_M)))
    (g_X : PySem.W.nsIn K mainGlobals "BadText" = some (some (.ref C_X)))
    (xq_T : PySem.W.excIn K C_T [.type "ValueError", .type "Exception", .type "BaseException", .type "object"] "ValueError.__new__" = true)
    (kp_T : PySem.W.keepIn K (.ref C_T) = true)
    (ga_T : PySem.W.findIn K (.ref C_T) "__getattribute__" = some (some (.builtin "BaseException.__getattribute__")))
    (gg_T : PySem.W.findIn K (.ref C_T) "__getattr__" = some none)
    (ha_T : PySem.W.findIn K (.ref C_T) "__class__" = some (some (.builtin "object.__class__")))
    (hm_T : PySem.W.mroIn K C_T (.type "object") = some true)
    (sv_T : PySem.W.subIn K (.ref C_T) (.type "ValueError") = some true)
    (sb_T_B : PySem.W.subIn K (.ref C_T) (.ref C_B) = some true)
    (xq_O : PySem.W.excIn K C_O [.type "ValueError", .type "Exception", .type "BaseException", .type "object"] "ValueError.__new__" = true)
    (kp_O : PySem.W.keepIn K (.ref C_O) = true)
    (ga_O : PySem.W.findIn K (.ref C_O) "__getattribute__" = some (some (.builtin "BaseException.__getattribute__")))
    (gg_O : PySem.W.findIn K (.ref C_O) "__getattr__" = some none)
    (ha_O : PySem.W.findIn K (.ref C_O) "__class__" = some (some (.builtin "object.__class__")))
    (hm_O : PySem.W.mroIn K C_O (.type "object") = some true)
    (sv_O : PySem.W.subIn K (.ref C_O) (.type "ValueError") = some true)
    (sb_O_B : PySem.W.subIn K (.ref C_O) (.ref C_B) = some true)
    (xq_M : PySem.W.excIn K C_M [.type "ValueError", .type "Exception", .type "BaseException", .type "object"] "ValueError.__new__" = true)
    (kp_M : PySem.W.keepIn K (.ref C_M) = true)
    (ga_M : PySem.W.findIn K (.ref C_M) "__getattribute__" = some (some (.builtin "BaseException.__getattribute__")))
    (gg_M : PySem.W.findIn K (.ref C_M) "__getattr__" = some none)
    (ha_M : PySem.W.findIn K (.ref C_M) "__class__" = some (some (.builtin "object.__class__")))
    (hm_M : PySem.W.mroIn K C_M (.type "object") = some true)
    (sv_M : PySem.W.subIn K (.ref C_M) (.type "ValueError") = some true)
    (sb_M_B : PySem.W.subIn K (.ref C_M) (.ref C_B) = some true)
    (bx_T : PySem.W.subIn K (.ref C_T) (.type "BaseException") = some true)
    (hd_T : PySem.W.hasDictIn K C_T = true)
    (ty_T : PySem.W.typeIn K (.ref C_T) = some (.type "type"))
    (bx_O : PySem.W.subIn K (.ref C_O) (.type "BaseException") = some true)
    (hd_O : PySem.W.hasDictIn K C_O = true)
    (ty_O : PySem.W.typeIn K (.ref C_O) = some (.type "type"))
    (bx_M : PySem.W.subIn K (.ref C_M) (.type "BaseException") = some true)
    (hd_M : PySem.W.hasDictIn K C_M = true)
    (ty_M : PySem.W.typeIn K (.ref C_M) = some (.type "type"))
    (bx_B : PySem.W.subIn K (.ref C_B) (.type "BaseException") = some true)
    (hd_B : PySem.W.hasDictIn K C_B = true)
    (ty_B : PySem.W.typeIn K (.ref C_B) = some (.type "type"))
    (sb_T_T : PySem.W.subIn K (.ref C_T) (.ref C_T) = some true)
    (ic_T : PySem.W.isClsIn K C_T = true)
    (sb_T_O : PySem.W.subIn K (.ref C_T) (.ref C_O) = some false)
    (ic_O : PySem.W.isClsIn K C_O = true)
    (sb_T_M : PySem.W.subIn K (.ref C_T) (.ref C_M) = some false)
    (ic_M : PySem.W.isClsIn K C_M = true)
    (sb_T_X : PySem.W.subIn K (.ref C_T) (.ref C_X) = some false)
    (ic_X : PySem.W.isClsIn K C_X = true)
    (ty_X : PySem.W.typeIn K (.ref C_X) = some (.type "type"))
    (sb_O_T : PySem.W.subIn K (.ref C_O) (.ref C_T) = some false)
    (sb_O_O : PySem.W.subIn K (.ref C_O) (.ref C_O) = some true)
    (sb_O_M : PySem.W.subIn K (.ref C_O) (.ref C_M) = some false)
    (sb_O_X : PySem.W.subIn K (.ref C_O) (.ref C_X) = some false)
    (sb_M_T : PySem.W.subIn K (.ref C_M) (.ref C_T) = some false)
    (sb_M_M : PySem.W.subIn K (.ref C_M) (.ref C_M) = some true)
    (sb_M_O : PySem.W.subIn K (.ref C_M) (.ref C_O) = some false)
    (sb_M_X : PySem.W.subIn K (.ref C_M) (.ref C_X) = some false)
    (hn : PySem.W.specialIn K (.builtin "object.__class__") "__get__" = some (some (.builtin "getset_descriptor.__get__")))
    (htk : PySem.W.takesIn K (.builtin "object.__class__") = some true)
    (a_N : PySem.W.nsIn K mainGlobals "NOTHING" = some (some (.str "-" t_N)))
    (z_isi : PySem.W.nsIn K mainGlobals "isinstance" = some none)
    (z_int : PySem.W.nsIn K mainGlobals "int" = some none)
    (z_bool : PySem.W.nsIn K mainGlobals "bool" = some none)
    (z_tuple : PySem.W.nsIn K mainGlobals "tuple" = some none)
    (z_len : PySem.W.nsIn K mainGlobals "len" = some none)
    (z_all : PySem.W.nsIn K mainGlobals "all" = some none)
    (z_list : PySem.W.nsIn K mainGlobals "list" = some none)
    (z_enum : PySem.W.nsIn K mainGlobals "enumerate" = some none)
    (z_range : PySem.W.nsIn K mainGlobals "range" = some none)
    (z_str : PySem.W.nsIn K mainGlobals "str" = some none)
    (z_verr : PySem.W.nsIn K mainGlobals "ValueError" = some none)
    : ∃ fd : FuncData, (∀ (s : Shared) (v : Value), BindsTo s fd ⟨[v], []⟩ [("_law_script", v)]) ∧ ∀ base : Heap, K.In base → base.Ns mainGlobals mg → FnOk l.prog w K mg base CX0 8 fa fd ["_law_script"] (spLaw K) := by
  have e := hfa.symm.trans (PySem.W.mg_of X G a_law)
  cases e
  have F_whole := fun_mk (st := sWhole) l_whole c_whole k_whole
  have b_whole := F_whole.binds (ps := ["value"]) fun _ _ _ _ _ _ us hl => match us, hl with | [_], _ => rfl
  have m_whole := PySem.W.mg_of X G a_whole
  have F_len := fun_mk (st := sLen) l_len c_len k_len
  have b_len := F_len.binds (ps := ["value"]) fun _ _ _ _ _ _ us hl => match us, hl with | [_], _ => rfl
  have m_len := PySem.W.mg_of X G a_len
  have F_thing := fun_mk (st := sThing) l_thing c_thing k_thing
  have b_thing := F_thing.binds (ps := ["value"]) fun _ _ _ _ _ _ us hl => match us, hl with | [_], _ => rfl
  have m_thing := PySem.W.mg_of X G a_thing
  have F_order := fun_mk (st := sOrder) l_order c_order k_order
  have b_order := F_order.binds (ps := ["value", "many"]) fun _ _ _ _ _ _ us hl => match us, hl with | [_, _], _ => rfl
  have m_order := PySem.W.mg_of X G a_order
  have F_ckT := fun_mk (st := sCkT) l_ckT c_ckT k_ckT
  have b_ckT := F_ckT.binds (ps := ["things"]) fun _ _ _ _ _ _ us hl => match us, hl with | [_], _ => rfl
  have m_ckT := PySem.W.mg_of X G a_ckT
  have F_ckO := fun_mk (st := sCkO) l_ckO c_ckO k_ckO
  have b_ckO := F_ckO.binds (ps := ["order", "many"]) fun _ _ _ _ _ _ us hl => match us, hl with | [_, _], _ => rfl
  have m_ckO := PySem.W.mg_of X G a_ckO
  have F_ckTime := fun_mk (st := sCkTime) l_ckTime c_ckTime k_ckTime
  have b_ckTime := F_ckTime.binds (ps := ["time"]) fun _ _ _ _ _ _ us hl => match us, hl with | [_], _ => rfl
  have m_ckTime := PySem.W.mg_of X G a_ckTime
  have F_short := fun_mk (st := sShort) l_short c_short k_short
  have b_short := F_short.binds (ps := ["length"]) fun _ _ _ _ _ _ us hl => match us, hl with | [_], _ => rfl
  have m_short := PySem.W.mg_of X G a_short
  have F_ckS := fun_mk (st := sCkS) l_ckS c_ckS k_ckS
  have b_ckS := F_ckS.binds (ps := ["things"]) fun _ _ _ _ _ _ us hl => match us, hl with | [_], _ => rfl
  have m_ckS := PySem.W.mg_of X G a_ckS
  have F_done := fun_mk (st := sDone) l_done c_done k_done
  have b_done := F_done.binds (ps := ["things", "order"]) fun _ _ _ _ _ _ us hl => match us, hl with | [_, _], _ => rfl
  have m_done := PySem.W.mg_of X G a_done
  have F_starts := fun_mk (st := sStarts) l_starts c_starts k_starts
  have b_starts := F_starts.binds (ps := ["things", "order"]) fun _ _ _ _ _ _ us hl => match us, hl with | [_, _], _ => rfl
  have m_starts := PySem.W.mg_of X G a_starts
  have F_soonest := fun_mk (st := sSoonest) l_soonest c_soonest k_soonest
  have b_soonest := F_soonest.binds (ps := ["things"]) fun _ _ _ _ _ _ us hl => match us, hl with | [_], _ => rfl
  have m_soonest := PySem.W.mg_of X G a_soonest
  have F_within := fun_mk (st := sWithin) l_within c_within k_within
  have b_within := F_within.binds (ps := ["things", "time"]) fun _ _ _ _ _ _ us hl => match us, hl with | [_, _], _ => rfl
  have m_within := PySem.W.mg_of X G a_within
  have F_written := fun_mk (st := sWritten) l_written c_written k_written
  have b_written := F_written.binds (ps := ["things"]) fun _ _ _ _ _ _ us hl => match us, hl with | [_], _ => rfl
  have m_written := PySem.W.mg_of X G a_written
  have F_cell := fun_mk (st := sCell) l_cell c_cell k_cell
  have b_cell := F_cell.binds (ps := ["_law_script", "_law_k"]) fun _ _ _ _ _ _ us hl => match us, hl with | [_, _], _ => rfl
  have m_cell := PySem.W.mg_of X G a_cell
  have F_draw := fun_mk (st := sDraw) l_draw c_draw k_draw
  have b_draw := F_draw.binds (ps := ["_law_cell", "_law_k", "_law_many"]) fun _ _ _ _ _ _ us hl => match us, hl with | [_, _, _], _ => rfl
  have m_draw := PySem.W.mg_of X G a_draw
  have F_things := fun_mk (st := sThings) l_things c_things k_things
  have b_things := F_things.binds (ps := ["_law_script"]) fun _ _ _ _ _ _ us hl => match us, hl with | [_], _ => rfl
  have m_things := PySem.W.mg_of X G a_things
  have F_kinds := fun_mk (st := sKinds) l_kinds c_kinds k_kinds
  have b_kinds := F_kinds.binds (ps := ["_law_error"]) fun _ _ _ _ _ _ us hl => match us, hl with | [_], _ => rfl
  have m_kinds := PySem.W.mg_of X G a_kinds
  have F_withT := fun_mk (st := sWithT) l_withT c_withT k_withT
  have b_withT := F_withT.binds (ps := ["_law_door", "_law_things_here"]) fun _ _ _ _ _ _ us hl => match us, hl with | [_, _], _ => rfl
  have m_withT := PySem.W.mg_of X G a_withT
  have F_withO := fun_mk (st := sWithO) l_withO c_withO k_withO
  have b_withO := F_withO.binds (ps := ["_law_things_here", "_law_order_here"]) fun _ _ _ _ _ _ us hl => match us, hl with | [_, _], _ => rfl
  have m_withO := PySem.W.mg_of X G a_withO
  have F_withS := fun_mk (st := sWithS) l_withS c_withS k_withS
  have b_withS := F_withS.binds (ps := ["_law_things_here", "_law_order_here"]) fun _ _ _ _ _ _ us hl => match us, hl with | [_, _], _ => rfl
  have m_withS := PySem.W.mg_of X G a_withS
  have F_told := fun_mk (st := sTold) l_told c_told k_told
  have b_told := F_told.binds (ps := ["_law_ask", "_law_one", "_law_other"]) fun _ _ _ _ _ _ us hl => match us, hl with | [_, _, _], _ => rfl
  have m_told := PySem.W.mg_of X G a_told
  have F_law := fun_mk (st := sLaw) l_law c_law k_law
  have m_law := PySem.W.mg_of X G a_law
  have mg_B := PySem.W.mg_of X G g_B
  have mg_T := PySem.W.mg_of X G g_T
  have mg_O := PySem.W.mg_of X G g_O
  have mg_M := PySem.W.mg_of X G g_M
  have mg_X := PySem.W.mg_of X G g_X
  have Z_isi := PySem.W.mg_none_of X G z_isi
  have Z_int := PySem.W.mg_none_of X G z_int
  have Z_bool := PySem.W.mg_none_of X G z_bool
  have Z_tuple := PySem.W.mg_none_of X G z_tuple
  have Z_len := PySem.W.mg_none_of X G z_len
  have Z_all := PySem.W.mg_none_of X G z_all
  have Z_list := PySem.W.mg_none_of X G z_list
  have Z_enum := PySem.W.mg_none_of X G z_enum
  have Z_range := PySem.W.mg_none_of X G z_range
  have Z_str := PySem.W.mg_none_of X G z_str
  have Z_verr := PySem.W.mg_none_of X G z_verr
  have T : Bn mg := ⟨Z_isi, Z_int, Z_bool, Z_tuple, Z_len, Z_all, Z_list, Z_enum, Z_range, Z_str, Z_verr⟩
  refine ⟨PySem.W.fnOf "law" "law" (defArgs sLaw) (defBody sLaw) (defScope sLaw) .none kV_law dc_law pm_law an_law cd_law ct_law, fun s v => .of_eq rfl, fun base _ _ => ?_⟩
  have X_T : XC K mg "BadThings" C_T := ⟨mg_T, xq_T, kp_T, bx_T, ty_T⟩
  have X_O : XC K mg "BadOrder" C_O := ⟨mg_O, xq_O, kp_O, bx_O, ty_O⟩
  have X_M : XC K mg "BadTime" C_M := ⟨mg_M, xq_M, kp_M, bx_M, ty_M⟩
  have G_whole : FnOk l.prog w K mg base CX0 1 _ _ _ _ := ok_whole F_whole T
  have G_len : FnOk l.prog w K mg base CX0 2 _ _ _ _ := ok_len F_len T m_whole F_whole b_whole
  have G_thing : FnOk l.prog w K mg base CX0 3 _ _ _ _ := ok_thing F_thing T m_len F_len b_len G_len
  have G_order : FnOk l.prog w K mg base CX0 2 _ _ _ _ := ok_order F_order T m_whole F_whole b_whole G_whole
  have G_ckT : FnOk l.prog w K mg base (L2.CX l.prog w) 4 _ _ _ _ := ok_ckT F_ckT T X_T m_thing F_thing b_thing G_thing
  have G_ckO : FnOk l.prog w K mg base (L2.CX l.prog w) 3 _ _ _ _ := ok_ckO F_ckO X_O m_order F_order b_order G_order
  have G_ckTime : FnOk l.prog w K mg base (L2.CX l.prog w) 2 _ _ _ _ := ok_ckTime F_ckTime X_M m_whole F_whole b_whole G_whole
  have G_ckS : FnOk l.prog w K mg base (L2.CX l.prog w) 2 _ _ _ _ := ok_ckS F_ckS T X_T m_short F_short b_short
  have Kk : Chk l.prog w K mg base _ _ _ _ C_T C_O C_M _ _ _ _ := ⟨m_ckT, k_ckT, b_ckT, G_ckT, m_ckO, k_ckO, b_ckO, G_ckO, m_ckTime, k_ckTime, b_ckTime, G_ckTime, m_ckS, k_ckS, b_ckS, G_ckS⟩
  have G_done : FnOk l.prog w K mg base (L2.CX l.prog w) 5 _ _ _ _ := ok_done F_done T Kk
  have G_starts : FnOk l.prog w K mg base (L2.CX l.prog w) 5 _ _ _ _ := ok_starts F_starts T Kk
  have G_soonest : FnOk l.prog w K mg base (L2.CX l.prog w) 5 _ _ _ _ := ok_soonest F_soonest Kk
  have G_within : FnOk l.prog w K mg base (L2.CX l.prog w) 5 _ _ _ _ := ok_within F_within Kk
  have G_written : FnOk l.prog w K mg base (L2.CX l.prog w) 5 _ _ _ _ := ok_written F_written T (PySem.W.mg_of X G a_N) ⟨_, rfl⟩ Kk
  have R : Drs l.prog w K mg base _ _ _ _ _ C_T C_O C_M _ _ _ _ _ := ⟨m_done, k_done, b_done, G_done, m_starts, k_starts, b_starts, G_starts, m_soonest, k_soonest, b_soonest, G_soonest, m_within, k_within, b_within, G_within, m_written, k_written, b_written, G_written⟩
  have N_T : Knd K C_T C_O C_M C_X C_B C_T true false false := ⟨⟨ga_T, gg_T, bx_T, hd_T, ha_T, hn, htk, hm_T⟩, kit_one sb_T_T ic_T ty_T sb_T_T, kit_one sb_T_O ic_O ty_O sb_T_T, kit_one sb_T_M ic_M ty_M sb_T_T, kit_one sb_T_X ic_X ty_X sb_T_T, kit_val sv_T, PySem.W.exm_ref bx_B hd_B ty_B sb_T_B⟩
  have N_O : Knd K C_T C_O C_M C_X C_B C_O false true false := ⟨⟨ga_O, gg_O, bx_O, hd_O, ha_O, hn, htk, hm_O⟩, kit_one sb_O_T ic_T ty_T sb_O_O, kit_one sb_O_O ic_O ty_O sb_O_O, kit_one sb_O_M ic_M ty_M sb_O_O, kit_one sb_O_X ic_X ty_X sb_O_O, kit_val sv_O, PySem.W.exm_ref bx_B hd_B ty_B sb_O_B⟩
  have N_M : Knd K C_T C_O C_M C_X C_B C_M false false true := ⟨⟨ga_M, gg_M, bx_M, hd_M, ha_M, hn, htk, hm_M⟩, kit_one sb_M_T ic_T ty_T sb_M_M, kit_one sb_M_O ic_O ty_O sb_M_M, kit_one sb_M_M ic_M ty_M sb_M_M, kit_one sb_M_X ic_X ty_X sb_M_M, kit_val sv_M, PySem.W.exm_ref bx_B hd_B ty_B sb_M_B⟩
  have G_cell : FnOk l.prog w K mg base CX0 1 _ _ _ _ := ok_cell F_cell T
  have G_draw : FnOk l.prog w K mg base CX0 1 _ _ _ _ := ok_draw F_draw
  have G_things : FnOk l.prog w K mg base CX0 2 _ _ _ _ := ok_things F_things T m_cell F_cell b_cell G_cell m_draw F_draw b_draw G_draw
  have G_kinds : FnP l.prog w K mg base CX0 1 _ _ _ (spHeld (spKinds K C_T C_O C_M C_X C_B)) := ok_kinds F_kinds T mg_T mg_O mg_M mg_X
  have G_withT : FnOk l.prog w K mg base (L2.CX l.prog w) 6 _ _ _ _ := ok_withT F_withT R
  have G_withO : FnOk l.prog w K mg base (L2.CX l.prog w) 6 _ _ _ _ := ok_withO F_withO R
  have G_withS : FnOk l.prog w K mg base (L2.CX l.prog w) 6 _ _ _ _ := ok_withS F_withS R
  have G_told : FnOk l.prog w K mg base CX0 7 _ _ _ _ := ok_told F_told mg_B m_kinds k_kinds b_kinds G_kinds
  exact ok_law6 F_law T R ⟨m_cell, k_cell, b_cell, G_cell, m_things, k_things, b_things, G_things, m_told, k_told, b_told, G_told, m_withT, k_withT, b_withT, G_withT, m_withO, k_withO, b_withO, G_withO, m_withS, k_withS, b_withS, G_withS, N_T, N_O, N_M⟩
end Bp
open PySem PySem.W PyProof.Rows
set_option maxRecDepth 100000 in
set_option maxHeartbeats 0 in
theorem PySem.Challenge.cw_benchpair_k06_refused_holds : PySem.Challenge.rw_benchpair_k06_refused.Holds := by
  w_on; o_law; k_head; (case hw => w_witness2)
  k_fill
  refine L2.walk_of (l := PySem.Challenge.rw_benchpair_k06_refused) (n := 63) (k := 8) (x := "_law_script") (CX := fun w => L2.CX0) (sp := fun w => Bp.spLaw _) rfl (by decide) rfl ⟨rfl, by decide, by decide⟩ (fun w h Y => PySem.W.kIn_of Y) ?F (fun _ _ a ns hl _ hS => ⟨a, ns, rfl, hS, hl, fun _ => rfl⟩) (fun _ _ _ _ _ h => h)
  case F =>
    intro w mg fa h KX G hmg
    refine' Bp.all_mk KX G hmg ?a_whole ?l_whole ?c_whole ?k_whole ?a_len ?l_len ?c_len ?k_len ?a_thing ?l_thing ?c_thing ?k_thing ?a_order ?l_order ?c_order ?k_order ?a_ckT ?l_ckT ?c_ckT ?k_ckT ?a_ckO ?l_ckO ?c_ckO ?k_ckO ?a_ckTime ?l_ckTime ?c_ckTime ?k_ckTime ?a_short ?l_short ?c_short ?k_short ?a_ckS ?l_ckS ?c_ckS ?k_ckS ?a_done ?l_done ?c_done ?k_done ?a_starts ?l_starts ?c_starts ?k_starts ?a_soonest ?l_soonest ?c_soonest ?k_soonest ?a_within ?l_within ?c_within ?k_within ?a_written ?l_written ?c_written ?k_written ?a_cell ?l_cell ?c_cell ?k_cell ?a_draw ?l_draw ?c_draw ?k_draw ?a_things ?l_things ?c_things ?k_things ?a_kinds ?l_kinds ?c_kinds ?k_kinds ?a_withT ?l_withT ?c_withT ?k_withT ?a_withO ?l_withO ?c_withO ?k_withO ?a_withS ?l_withS ?c_withS ?k_withS ?a_told ?l_told ?c_told ?k_told ?a_law ?l_law ?c_law ?k_law ?g_B ?g_T ?g_O ?g_M ?g_X ?xq_T ?kp_T ?ga_T ?gg_T ?ha_T ?hm_T ?sv_T ?sb_T_B ?xq_O ?kp_O ?ga_O ?gg_O ?ha_O ?hm_O ?sv_O ?sb_O_B ?xq_M ?kp_M ?ga_M ?gg_M ?ha_M ?hm_M ?sv_M ?sb_M_B ?bx_T ?hd_T ?ty_T ?bx_O ?hd_O ?ty_O ?bx_M ?hd_M ?ty_M ?bx_B ?hd_B ?ty_B ?sb_T_T ?ic_T ?sb_T_O ?ic_O ?sb_T_M ?ic_M ?sb_T_X ?ic_X ?ty_X ?sb_O_T ?sb_O_O ?sb_O_M ?sb_O_X ?sb_M_T ?sb_M_M ?sb_M_O ?sb_M_X ?hn ?htk ?a_N ?z_isi ?z_int ?z_bool ?z_tuple ?z_len ?z_all ?z_list ?z_enum ?z_range ?z_str ?z_verr
    (case a_whole => k_is)
    (case l_whole => k_is)
    (case c_whole => k_is)
    (case k_whole => k_is)
    (case a_len => k_is)
    (case l_len => k_is)
    (case c_len => k_is)
    (case k_len => k_is)
    (case a_thing => k_is)
    (case l_thing => k_is)
    (case c_thing => k_is)
    (case k_thing => k_is)
    (case a_order => k_is)
    (case l_order => k_is)
    (case c_order => k_is)
    (case k_order => k_is)
    (case a_ckT => k_is)
    (case l_ckT => k_is)
    (case c_ckT => k_is)
    (case k_ckT => k_is)
    (case a_ckO => k_is)
    (case l_ckO => k_is)
    (case c_ckO => k_is)
    (case k_ckO => k_is)
    (case a_ckTime => k_is)
    (case l_ckTime => k_is)
    (case c_ckTime => k_is)
    (case k_ckTime => k_is)
    (case a_short => k_is)
    (case l_short => k_is)
    (case c_short => k_is)
    (case k_short => k_is)
    (case a_ckS => k_is)
    (case l_ckS => k_is)
    (case c_ckS => k_is)
    (case k_ckS => k_is)
    (case a_done => k_is)
    (case l_done => k_is)
    (case c_done => k_is)
    (case k_done => k_is)
    (case a_starts => k_is)
    (case l_starts => k_is)
    (case c_starts => k_is)
    (case k_starts => k_is)
    (case a_soonest => k_is)
    (case l_soonest => k_is)
    (case c_soonest => k_is)
    (case k_soonest => k_is)
    (case a_within => k_is)
    (case l_within => k_is)
    (case c_within => k_is)
    (case k_within => k_is)
    (case a_written => k_is)
    (case l_written => k_is)
    (case c_written => k_is)
    (case k_written => k_is)
    (case a_cell => k_is)
    (case l_cell => k_is)
    (case c_cell => k_is)
    (case k_cell => k_is)
    (case a_draw => k_is)
    (case l_draw => k_is)
    (case c_draw => k_is)
    (case k_draw => k_is)
    (case a_things => k_is)
    (case l_things => k_is)
    (case c_things => k_is)
    (case k_things => k_is)
    (case a_kinds => k_is)
    (case l_kinds => k_is)
    (case c_kinds => k_is)
    (case k_kinds => k_is)
    (case a_withT => k_is)
    (case l_withT => k_is)
    (case c_withT => k_is)
    (case k_withT => k_is)
    (case a_withO => k_is)
    (case l_withO => k_is)
    (case c_withO => k_is)
    (case k_withO => k_is)
    (case a_withS => k_is)
    (case l_withS => k_is)
    (case c_withS => k_is)
    (case k_withS => k_is)
    (case a_told => k_is)
    (case l_told => k_is)
    (case c_told => k_is)
    (case k_told => k_is)
    (case a_law => k_is)
    (case l_law => k_is)
    (case c_law => k_is)
    (case k_law => k_is)
    (case g_B => k_is)
    (case g_T => k_is)
    (case g_O => k_is)
    (case g_M => k_is)
    (case g_X => k_is)
    (case xq_T => k_exc)
    (case kp_T => k_is)
    (case ga_T => k_is)
    (case gg_T => k_is)
    (case ha_T => k_is)
    (case hm_T => k_is)
    (case sv_T => k_is)
    (case sb_T_B => k_is)
    (case xq_O => k_exc)
    (case kp_O => k_is)
    (case ga_O => k_is)
    (case gg_O => k_is)
    (case ha_O => k_is)
    (case hm_O => k_is)
    (case sv_O => k_is)
    (case sb_O_B => k_is)
    (case xq_M => k_exc)
    (case kp_M => k_is)
    (case ga_M => k_is)
    (case gg_M => k_is)
    (case ha_M => k_is)
    (case hm_M => k_is)
    (case sv_M => k_is)
    (case sb_M_B => k_is)
    (case bx_T => k_is)
    (case hd_T => k_is)
    (case ty_T => k_is)
    (case bx_O => k_is)
    (case hd_O => k_is)
    (case ty_O => k_is)
    (case bx_M => k_is)
    (case hd_M => k_is)
    (case ty_M => k_is)
    (case bx_B => k_is)
    (case hd_B => k_is)
    (case ty_B => k_is)
    (case sb_T_T => k_is)
    (case ic_T => k_is)
    (case sb_T_O => k_is)
    (case ic_O => k_is)
    (case sb_T_M => k_is)
    (case ic_M => k_is)
    (case sb_T_X => k_is)
    (case ic_X => k_is)
    (case ty_X => k_is)
    (case sb_O_T => k_is)
    (case sb_O_O => k_is)
    (case sb_O_M => k_is)
    (case sb_O_X => k_is)
    (case sb_M_T => k_is)
    (case sb_M_M => k_is)
    (case sb_M_O => k_is)
    (case sb_M_X => k_is)
    (case hn => k_is)
    (case htk => k_is)
    (case a_N => k_is)
    (case z_isi => k_is)
    (case z_int => k_is)
    (case z_bool => k_is)
    (case z_tuple => k_is)
    (case z_len => k_is)
    (case z_all => k_is)
    (case z_list => k_is)
    (case z_enum => k_is)
    (case z_range => k_is)
    (case z_str => k_is)
    (case z_verr => k_is)
