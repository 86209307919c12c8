import PyProof.Rows.All
import Wide.All
import OpenK.AllK
import Wide.FinOn
import HandS.Base
import HandS.Call
import HandS.List
import HandS.Ends
import HandS.Words
import HandS.WordsList
import HandS.Set
import HandS.SetFor
import HandS.Strs
import HandS.SortOrd
import HandS.SortInts
import HandS.Evl
import HandS.Comp
import HandS.Dict
import HandS.Iter
import HandS.Text
import HandS.IsInst
import HandS.Conv
import HandS.Style
import HandS.Wide
import HandS.More
import HandS.Walk
import HandS.Zip
import HandS.Rev
import HandS.SortRule
import HandS.TupLe
import HandS.Codes
import HandS.RevRange
import HandS.Exc
import HandS.ExcOwn
import HandS.ExcIs
import HandS.TryOnly
import HandS.CallLocal
import HandS.WordsExc
import HandS.RaiseMore
import HandS.FStr
import HandS.HotCalls
import PyProof.StrBlock2
import HandS.StrMore
import PyProof.StrLawsChain
import HandS.ExcCtx
import HandS.Hot
import PySem.Challenge.RW_benchpair_k05_written
set_option Elab.async false
set_option linter.all false
set_option maxRecDepth 100000
namespace Bp
/-- a thing: on bench 1, drying, on bench 2 -/
abbrev Th := Int × Int × Int
def Nn (t : Th) : Prop := 0 ≤ t.1 ∧ 0 ≤ t.2.1 ∧ 0 ≤ t.2.2
def th0 : Th := (0, 0, 0)
def turn (t : Th) : Th := (t.2.2, t.2.1, t.1)
def path (ts : List Th) (o : List Nat) : List Th := o.map fun c => ts.getD c th0
def A : List Th → Int
  | [] => 0
  | t :: r => t.1 + A r
def B : List Th → Int
  | [] => 0
  | t :: r => t.2.2 + B r
/-- the longest of all ways -/
def W : List Th → Int
  | [] => 0
  | t :: r => max (t.1 + t.2.1 + t.2.2 + B r) (t.1 + W r)
def mk2 : List Th → Int → Int → Int
  | [], _, g => g
  | t :: r, f, g => mk2 r (f + t.1) (max (f + t.1 + t.2.1) g + t.2.2)
theorem Nn.of_cons {t : Th} {r : List Th} (h : ∀ x ∈ t :: r, Nn x) : Nn t ∧ ∀ x ∈ r, Nn x :=
  ⟨h t List.mem_cons_self, fun x hx => h x (List.mem_cons_of_mem _ hx)⟩
theorem W_nn : ∀ {l : List Th}, (∀ x ∈ l, Nn x) → 0 ≤ B l ∧ 0 ≤ A l ∧ 0 ≤ W l ∧ B l ≤ W l
  | [], _ => ⟨Int.le_refl _, Int.le_refl _, Int.le_refl _, Int.le_refl _⟩
  | t :: r, h => by
    obtain ⟨⟨h1, h2, h3⟩, hr⟩ := Nn.of_cons h
    obtain ⟨i1, i2, i3, i4⟩ := W_nn hr
    show 0 ≤ t.2.2 + B r ∧ 0 ≤ t.1 + A r ∧ 0 ≤ max (t.1 + t.2.1 + t.2.2 + B r) (t.1 + W r) ∧ t.2.2 + B r ≤ max (t.1 + t.2.1 + t.2.2 + B r) (t.1 + W r)
    omega
theorem mk2_eq : ∀ (l : List Th) (f g : Int), (∀ x ∈ l, Nn x) → f ≤ g → mk2 l f g = max (g + B l) (f + W l)
  | [], f, g, _, hfg => by
    show g = max (g + 0) (f + 0)
    omega
  | t :: r, f, g, h, hfg => by
    obtain ⟨⟨h1, h2, h3⟩, hr⟩ := Nn.of_cons h
    have ih := mk2_eq r (f + t.1) (max (f + t.1 + t.2.1) g + t.2.2) hr (by omega)
    show mk2 r (f + t.1) (max (f + t.1 + t.2.1) g + t.2.2) = max (g + (t.2.2 + B r)) (f + max (t.1 + t.2.1 + t.2.2 + B r) (t.1 + W r))
    rw [ih]
    omega
theorem mk2_W {l : List Th} (h : ∀ x ∈ l, Nn x) : mk2 l 0 0 = W l := by
  rw [mk2_eq l 0 0 h (Int.le_refl _)]
  have := W_nn h
  omega
/-- the law's own reckoning -/
def ldS (s : Int × Int × Int) (t : Th) : Int × Int × Int := (s.1 + t.1, s.2.1 - t.2.2, max s.2.2 (s.1 + t.1 + t.2.1 + s.2.1))
theorem ld_eq : ∀ (l : List Th) (ah fo : Int), (∀ x ∈ l, Nn x) → ah ≤ fo → (l.foldl ldS (ah, B l, fo)).2.2 = max fo (ah + W l)
  | [], ah, fo, _, hfg => by
    show fo = max fo (ah + 0)
    omega
  | t :: r, ah, fo, h, hfg => by
    obtain ⟨⟨h1, h2, h3⟩, hr⟩ := Nn.of_cons h
    have hn := W_nn hr
    have ih := ld_eq r (ah + t.1) (max fo (ah + t.1 + t.2.1 + (t.2.2 + B r))) hr (by omega)
    show (r.foldl ldS (ah + t.1, t.2.2 + B r - t.2.2, max fo (ah + t.1 + t.2.1 + (t.2.2 + B r)))).2.2 = max fo (ah + max (t.1 + t.2.1 + t.2.2 + B r) (t.1 + W r))
    rw [show t.2.2 + B r - t.2.2 = B r by omega, ih]
    omega
theorem ld_W {l : List Th} (h : ∀ x ∈ l, Nn x) : (l.foldl ldS (0, B l, 0)).2.2 = W l := by
  rw [ld_eq l 0 0 h (Int.le_refl _)]
  have := W_nn h
  omega
theorem B_append (l m : List Th) : B (l ++ m) = B l + B m := by
  induction l with
  | nil => show B m = 0 + B m; omega
  | cons t r ih => show t.2.2 + B (r ++ m) = t.2.2 + B r + B m; rw [ih]; omega
theorem A_append (l m : List Th) : A (l ++ m) = A l + A m := by
  induction l with
  | nil => show A m = 0 + A m; omega
  | cons t r ih => show t.1 + A (r ++ m) = t.1 + A r + A m; rw [ih]; omega
theorem B_sum (l : List Th) : B l = (l.map fun t => t.2.2).sum := by
  induction l with
  | nil => rfl
  | cons t r ih => rw [List.map_cons, List.sum_cons, ← ih]; rfl
theorem W_snoc : ∀ (l : List Th) (t : Th), (∀ x ∈ l, Nn x) → Nn t → W (l ++ [t]) = max (W l + t.2.2) (A l + t.1 + t.2.1 + t.2.2)
  | [], t, _, ⟨h1, h2, h3⟩ => by
    show max (t.1 + t.2.1 + t.2.2 + 0) (t.1 + 0) = max (0 + t.2.2) (0 + t.1 + t.2.1 + t.2.2)
    omega
  | s :: r, t, h, ht => by
    obtain ⟨⟨h1, h2, h3⟩, hr⟩ := Nn.of_cons h
    have ih := W_snoc r t hr ht
    show max (s.1 + s.2.1 + s.2.2 + B (r ++ [t])) (s.1 + W (r ++ [t])) = max (max (s.1 + s.2.1 + s.2.2 + B r) (s.1 + W r) + t.2.2) (s.1 + A r + t.1 + t.2.1 + t.2.2)
    rw [ih, B_append, show B [t] = t.2.2 + 0 from rfl]
    omega
theorem Nn.turn {t : Th} (h : Nn t) : Nn (Bp.turn t) := ⟨h.2.2, h.2.1, h.1⟩
theorem A_turn_rev (l : List Th) : A (l.map turn).reverse = B l := by
  induction l with
  | nil => rfl
  | cons t r ih =>
    rw [List.map_cons, List.reverse_cons, A_append, ih]
    show B r + (t.2.2 + 0) = t.2.2 + B r
    omega
theorem W_turn : ∀ (l : List Th), (∀ x ∈ l, Nn x) → W (l.map turn).reverse = W l
  | [], _ => rfl
  | t :: r, h => by
    obtain ⟨ht, hr⟩ := Nn.of_cons h
    rw [List.map_cons, List.reverse_cons, W_snoc _ _ (fun x hx => by
      obtain ⟨y, hy, rfl⟩ := List.mem_map.mp (List.mem_reverse.mp hx)
      exact (hr y hy).turn) ht.turn, W_turn r hr, A_turn_rev]
    show max (W r + t.1) (B r + t.2.2 + t.2.1 + t.1) = max (t.1 + t.2.1 + t.2.2 + B r) (t.1 + W r)
    omega
theorem W_sub {l m : List Th} (s : l.Sublist m) : (∀ x ∈ m, Nn x) → W l ≤ W m ∧ B l ≤ B m := by
  induction s with
  | slnil => intro _; exact ⟨Int.le_refl _, Int.le_refl _⟩
  | @cons l m t s ih =>
    intro h
    obtain ⟨⟨h1, h2, h3⟩, hr⟩ := Nn.of_cons h
    obtain ⟨i1, i2⟩ := ih hr
    show W l ≤ max (t.1 + t.2.1 + t.2.2 + B m) (t.1 + W m) ∧ B l ≤ t.2.2 + B m
    omega
  | @cons_cons l m t s ih =>
    intro h
    obtain ⟨⟨h1, h2, h3⟩, hr⟩ := Nn.of_cons h
    obtain ⟨i1, i2⟩ := ih hr
    show max (t.1 + t.2.1 + t.2.2 + B l) (t.1 + W l) ≤ max (t.1 + t.2.1 + t.2.2 + B m) (t.1 + W m) ∧ t.2.2 + B l ≤ t.2.2 + B m
    omega
end Bp
namespace Bp
/-- a fold over the first i -/
theorem fold_more {α β : Type} {f : β → α → β} {b : β} {l : List α} {i : Nat} {x : α} (h : l[i]? = some x) : (l.take (i + 1)).foldl f b = f ((l.take i).foldl f b) x := by
  rw [List.take_add_one, h, List.foldl_append]
  rfl
/-- an order of n things -/
def Ord (n : Nat) (o : List Nat) : Prop := o.Perm (List.range n)
theorem Ord.len {n : Nat} {o : List Nat} (h : Ord n o) : o.length = n := by
  have := h.length_eq
  rwa [List.length_range] at this
theorem Ord.nd {n : Nat} {o : List Nat} (h : Ord n o) : o.Nodup := h.nodup_iff.mpr List.nodup_range
theorem Ord.lt {n : Nat} {o : List Nat} (h : Ord n o) {c : Nat} (hc : c ∈ o) : c < n := List.mem_range.mp (h.mem_iff.mp hc)
theorem Ord.mem {n : Nat} {o : List Nat} (h : Ord n o) {c : Nat} (hc : c < n) : c ∈ o := h.mem_iff.mpr (List.mem_range.mpr hc)
theorem Ord.range (n : Nat) : Ord n (List.range n) := List.Perm.refl _
theorem Ord.rev {n : Nat} {o : List Nat} (h : Ord n o) : Ord n o.reverse := (List.reverse_perm o).trans h
theorem Ord.ins {n : Nat} {o : List Nat} (h : Ord n o) {i : Nat} (hi : i ≤ o.length) : Ord (n + 1) (o.insertIdx i n) := by
  refine (List.perm_insertIdx n o hi).trans ?_
  refine (h.cons n).trans ?_
  rw [List.range_succ]
  exact (List.perm_append_singleton n (List.range n)).symm
/-- the counts above k one less -/
def shift (k c : Nat) : Nat := if k < c then c - 1 else c
def less (k : Nat) (o : List Nat) : List Nat := (o.filter fun c => c != k).map (shift k)
theorem less_range (n k : Nat) (hk : k < n + 1) : less k (List.range (n + 1)) = List.range n := by
  induction n with
  | zero =>
    obtain rfl : k = 0 := by omega
    rfl
  | succ n ih =>
    rw [List.range_succ]
    unfold less
    rw [List.filter_append, List.map_append]
    by_cases e : k = n + 1
    · subst e
      have h1 : (List.range (n + 1)).filter (fun c => c != n + 1) = List.range (n + 1) := by
        rw [List.filter_eq_self]
        intro a ha
        have := List.mem_range.mp ha
        simp; omega
      rw [h1]
      have h2 : List.filter (fun c => c != n + 1) [n + 1] = [] := by simp
      rw [h2, List.map_nil, List.append_nil]
      have : List.map (shift (n + 1)) (List.range (n + 1)) = List.map id (List.range (n + 1)) := List.map_congr_left fun a ha => by
        have := List.mem_range.mp ha
        unfold shift
        rw [if_neg (by omega)]
        rfl
      rw [this, List.map_id]
    · have ih' := ih (by omega)
      unfold less at ih'
      rw [ih', List.range_succ]
      have h2 : List.filter (fun c => c != k) [n + 1] = [n + 1] := by
        simp; omega
      rw [h2]
      have : List.map (shift k) [n + 1] = [n] := by
        show [shift k (n + 1)] = [n]
        unfold shift
        rw [if_pos (by omega)]
        rfl
      rw [this]
theorem Ord.less {n k : Nat} {o : List Nat} (h : Ord (n + 1) o) (hk : k < n + 1) : Ord n (Bp.less k o) := by
  have := (List.Perm.filter (fun c => c != k) h).map (shift k)
  unfold Ord
  rw [← less_range n k hk]
  exact this
theorem path_less (ts : List Th) (k : Nat) (o : List Nat) (hk : k < ts.length) : path (ts.take k ++ ts.drop (k + 1)) (Bp.less k o) = path ts (o.filter fun c => c != k) := by
  unfold path Bp.less
  rw [List.map_map]
  refine List.map_congr_left fun c hc => ?_
  have hck : c ≠ k := by
    have := (List.mem_filter.mp hc).2
    simpa using this
  show (ts.take k ++ ts.drop (k + 1)).getD (shift k c) th0 = ts.getD c th0
  unfold shift
  have hl : (ts.take k).length = k := by rw [List.length_take]; omega
  by_cases h : k < c
  · rw [if_pos h, List.getD_eq_getElem?_getD, List.getElem?_append_right (by omega), hl, List.getElem?_drop, List.getD_eq_getElem?_getD]
    rw [show k + 1 + (c - 1 - k) = c by omega]
  · rw [if_neg h, List.getD_eq_getElem?_getD, List.getElem?_append_left (by omega), List.getElem?_take_of_lt (by omega), List.getD_eq_getElem?_getD]
theorem path_sub (ts : List Th) {o p : List Nat} (s : o.Sublist p) : (path ts o).Sublist (path ts p) := s.map _
theorem path_turn (ts : List Th) (o : List Nat) (n : Nat) (hn : n = ts.length) (h : ∀ c ∈ o, c < n) : path (ts.map turn) o.reverse = ((path ts o).map turn).reverse := by
  unfold path
  rw [List.map_reverse, List.map_map]
  refine congrArg _ (List.map_congr_left fun c hc => ?_)
  have hl : c < ts.length := hn ▸ h c hc
  show (ts.map turn).getD c th0 = turn (ts.getD c th0)
  rw [List.getD_eq_getElem?_getD, List.getD_eq_getElem?_getD, List.getElem?_map, List.getElem?_eq_getElem hl]
  rfl
theorem path_nn {ts : List Th} (h : ∀ t ∈ ts, Nn t) (o : List Nat) : ∀ t ∈ path ts o, Nn t := by
  intro t ht
  obtain ⟨c, _, rfl⟩ := List.mem_map.mp ht
  show Nn (ts.getD c th0)
  rw [List.getD_eq_getElem?_getD]
  cases e : ts[c]? with
  | none => exact ⟨Int.le_refl _, Int.le_refl _, Int.le_refl _⟩
  | some t => exact h t (List.mem_of_getElem? e)
/-- going along: when each begins on either bench, bench 1 free, bench 2 free -/
abbrev Sg := List (Int × Int) × Int × Int
def stp (ts : List Th) (s : Sg) (c : Nat) : Sg :=
  let t := ts.getD c th0
  let h := max (s.2.1 + t.1 + t.2.1) s.2.2
  (s.1.set c (s.2.1, h), s.2.1 + t.1, h + t.2.2)
def sg0 (n : Nat) : Sg := (List.replicate n (0, 0), 0, 0)
def going (ts : List Th) (o : List Nat) : Sg := o.foldl (stp ts) (sg0 ts.length)
theorem stp_len (ts : List Th) : ∀ (o : List Nat) (s : Sg), (o.foldl (stp ts) s).1.length = s.1.length
  | [], _ => rfl
  | c :: r, s => by
    rw [List.foldl_cons, stp_len ts r]
    show (s.1.set c _).length = s.1.length
    exact List.length_set
theorem going_len (ts : List Th) (o : List Nat) : (going ts o).1.length = ts.length := by
  unfold going
  rw [stp_len]
  exact List.length_replicate
theorem stp_mk2 (ts : List Th) : ∀ (o : List Nat) (s : Sg), (o.foldl (stp ts) s).2.2 = mk2 (path ts o) s.2.1 s.2.2
  | [], _ => rfl
  | c :: r, s => stp_mk2 ts r (stp ts s c)
theorem going_W {ts : List Th} (h : ∀ t ∈ ts, Nn t) (o : List Nat) : (going ts o).2.2 = W (path ts o) := by
  unfold going
  rw [stp_mk2]
  exact mk2_W (path_nn h o)
/-- done, turned about -/
theorem W_turned {ts : List Th} (h : ∀ t ∈ ts, Nn t) {o : List Nat} (ho : Ord ts.length o) : W (path (ts.map turn) o.reverse) = W (path ts o) := by
  rw [path_turn ts o _ rfl (fun c hc => ho.lt hc)]
  exact W_turn _ (path_nn h o)
theorem W_less {ts : List Th} (h : ∀ t ∈ ts, Nn t) {o : List Nat} {k : Nat} (hk : k < ts.length) : W (path (ts.take k ++ ts.drop (k + 1)) (Bp.less k o)) ≤ W (path ts o) := by
  rw [path_less ts k o hk]
  exact (W_sub (path_sub ts (List.filter_sublist)) (path_nn h o)).1
/-- the marks of is_order -/
def mrk (m : List Bool) (o : List Nat) : List Bool := o.foldl (fun m c => m.set c true) m
theorem mrk_get : ∀ (o : List Nat) (m : List Bool) (c : Nat), c ∉ o → (mrk m o)[c]? = m[c]?
  | [], _, _, _ => rfl
  | d :: r, m, c, h => by
    have h1 : c ≠ d := fun e => h (e ▸ List.mem_cons_self)
    have h2 : c ∉ r := fun e => h (List.mem_cons_of_mem _ e)
    show (mrk (m.set d true) r)[c]? = m[c]?
    rw [mrk_get r _ c h2, List.getElem?_set_ne (Ne.symm h1)]
theorem mrk_len : ∀ (o : List Nat) (m : List Bool), (mrk m o).length = m.length
  | [], _ => rfl
  | d :: r, m => by
    show (mrk (m.set d true) r).length = m.length
    rw [mrk_len r, List.length_set]
theorem nd_take {o : List Nat} (h : o.Nodup) {i c : Nat} (hc : o[i]? = some c) : c ∉ o.take i := by
  intro hm
  obtain ⟨j, hj, e⟩ := List.mem_iff_getElem.mp hm
  have hj' : j < i ∧ j < o.length := by
    rw [List.length_take] at hj
    omega
  rw [List.getElem_take] at e
  obtain ⟨hi, ei⟩ := List.getElem?_eq_some_iff.mp hc
  exact (List.pairwise_iff_getElem.mp h) j i hj'.2 hi hj'.1 (e.trans ei.symm)
theorem mrk_no {n : Nat} {o : List Nat} (h : Ord n o) {i c : Nat} (hc : o[i]? = some c) : (mrk (List.replicate n false) (o.take i))[c]? = some false := by
  rw [mrk_get _ _ _ (nd_take h.nd hc), List.getElem?_replicate, if_pos (h.lt (List.mem_of_getElem? hc))]
end Bp
namespace Bp
/-! ### bars: no order is done sooner than a bar's worth -/
/-- here and there: the lengths on the bar's bench and on the other one -/
def hereOf (bench : Int) (t : Th) : Int := if bench = 1 then t.1 else t.2.2
def thereOf (bench : Int) (t : Th) : Int := if bench = 1 then t.2.2 else t.1
/-- what the marked are long here, all others there -/
def Wsum : List (Bool × Th) → Int
  | [] => 0
  | x :: r => (if x.1 then x.2.1 else x.2.2.2) + Wsum r
theorem weak1 {L : Int} (hL : 0 ≤ L) : ∀ m : List (Bool × Th), (∀ x ∈ m, Nn x.2) → (∀ x ∈ m, x.1 = true → x.2.1 ≤ x.2.2.2) → (∀ x ∈ m, x.1 = false → x.2.1 + x.2.2.1 < L → x.2.2.2 ≤ x.2.1) →
    ((∃ x ∈ m, x.1 = false ∧ L ≤ x.2.1 + x.2.2.1) ∨ L = 0) → L + Wsum m ≤ W (m.map fun x => x.2)
  | [], _, _, _, h => by
    rcases h with ⟨x, hx, _⟩ | h
    · cases hx
    · show L + 0 ≤ 0
      omega
  | x :: r, hn, h1, h2, h3 => by
    have hr : ∀ y ∈ r, Nn y.2 := fun y hy => hn y (List.mem_cons_of_mem _ hy)
    have g1 : ∀ y ∈ r, y.1 = true → y.2.1 ≤ y.2.2.2 := fun y hy => h1 y (List.mem_cons_of_mem _ hy)
    have g2 : ∀ y ∈ r, y.1 = false → y.2.1 + y.2.2.1 < L → y.2.2.2 ≤ y.2.1 := fun y hy => h2 y (List.mem_cons_of_mem _ hy)
    have hnn : ∀ t ∈ r.map (fun y => y.2), Nn t := by
      intro t ht
      obtain ⟨y, hy, rfl⟩ := List.mem_map.mp ht
      exact hr y hy
    have hw := W_nn hnn
    have hx := hn x List.mem_cons_self
    obtain ⟨x1, x2, x3⟩ := hx
    have hB : ∀ s : List (Bool × Th), (∀ y ∈ s, y.1 = true → y.2.1 ≤ y.2.2.2) → Wsum s ≤ B (s.map fun y => y.2) := by
      intro s
      induction s with
      | nil => intro _; exact Int.le_refl _
      | cons y s ih =>
        intro hs
        have := ih fun z hz => hs z (List.mem_cons_of_mem _ hz)
        have hy := hs y List.mem_cons_self
        show (if y.1 then y.2.1 else y.2.2.2) + Wsum s ≤ y.2.2.2 + B (s.map fun y => y.2)
        cases e : y.1 with
        | true => have := hy e; simp only [if_true]; omega
        | false => simp only [Bool.false_eq_true, if_false]; omega
    have hBr := hB r g1
    show L + ((if x.1 then x.2.1 else x.2.2.2) + Wsum r) ≤ max (x.2.1 + x.2.2.1 + x.2.2.2 + B (r.map fun y => y.2)) (x.2.1 + W (r.map fun y => y.2))
    by_cases hc : x.1 = false ∧ L ≤ x.2.1 + x.2.2.1
    · rw [hc.1]
      simp only [Bool.false_eq_true, if_false]
      omega
    · have h3' : (∃ y ∈ r, y.1 = false ∧ L ≤ y.2.1 + y.2.2.1) ∨ L = 0 := by
        rcases h3 with ⟨y, hy, h⟩ | h
        · rcases List.mem_cons.mp hy with rfl | hy
          · exact absurd h hc
          · exact .inl ⟨y, hy, h⟩
        · exact .inr h
      have ih := weak1 hL r hr g1 g2 h3'
      cases e : x.1 with
      | true => simp only [if_true]; omega
      | false =>
        have : x.2.1 + x.2.2.1 < L := by
          rcases Int.lt_or_le (x.2.1 + x.2.2.1) L with h | h
          · exact h
          · exact absurd ⟨e, h⟩ hc
        have := h2 x List.mem_cons_self e this
        simp only [Bool.false_eq_true, if_false]
        omega
theorem Wsum_append (l m : List (Bool × Th)) : Wsum (l ++ m) = Wsum l + Wsum m := by
  induction l with
  | nil => show Wsum m = 0 + Wsum m; omega
  | cons x r ih => show (if x.1 then x.2.1 else x.2.2.2) + Wsum (r ++ m) = (if x.1 then x.2.1 else x.2.2.2) + Wsum r + Wsum m; rw [ih]; omega
theorem Wsum_perm {l m : List (Bool × Th)} (h : l.Perm m) : Wsum l = Wsum m := by
  induction h with
  | nil => rfl
  | cons x _ ih => show _ + _ = _ + _; rw [ih]
  | swap x y l =>
    show (if y.1 then y.2.1 else y.2.2.2) + ((if x.1 then x.2.1 else x.2.2.2) + Wsum l) = (if x.1 then x.2.1 else x.2.2.2) + ((if y.1 then y.2.1 else y.2.2.2) + Wsum l)
    omega
  | trans _ _ h1 h2 => exact h1.trans h2
/-- a thing on the benches as the bar names them -/
def facing (bench : Int) (t : Th) : Th := if bench = 1 then t else turn t
theorem facing_here (bench : Int) (t : Th) : (facing bench t).1 = hereOf bench t := by unfold facing hereOf; split <;> rfl
theorem facing_there (bench : Int) (t : Th) : (facing bench t).2.2 = thereOf bench t := by unfold facing thereOf; split <;> rfl
theorem facing_dry (bench : Int) (t : Th) : (facing bench t).2.1 = t.2.1 := by unfold facing; split <;> rfl
theorem facing_nn {bench : Int} {t : Th} (h : Nn t) : Nn (facing bench t) := by unfold facing; split; exact h; exact h.turn
/-- the marks of a bar over all things, by their counts -/
structure BarOk (ts : List Th) (bench : Int) (mk : Nat → Bool) (L : Int) : Prop where
  len : 0 ≤ L
  own : ∀ (c : Nat) (t : Th), ts[c]? = some t → mk c = true → hereOf bench t ≤ thereOf bench t
  oth : ∀ (c : Nat) (t : Th), ts[c]? = some t → mk c = false → hereOf bench t + t.2.1 < L → thereOf bench t ≤ hereOf bench t
  some_ : (∃ (c : Nat) (t : Th), ts[c]? = some t ∧ mk c = false ∧ L ≤ hereOf bench t + t.2.1) ∨ L = 0
def facingAt (ts : List Th) (bench : Int) (mk : Nat → Bool) (o : List Nat) : List (Bool × Th) := o.map fun c => (mk c, facing bench (ts.getD c th0))
/-- a bar's worth -/
def barWorth (ts : List Th) (bench : Int) (mk : Nat → Bool) (L : Int) : Int := L + Wsum (facingAt ts bench mk (List.range ts.length))
theorem getD_some {ts : List Th} {c : Nat} (h : c < ts.length) : ts[c]? = some (ts.getD c th0) := by
  rw [List.getD_eq_getElem?_getD, List.getElem?_eq_getElem h]
  rfl
theorem facing_path {ts : List Th} (hn : ∀ t ∈ ts, Nn t) (bench : Int) (mk : Nat → Bool) {o : List Nat} : (facingAt ts bench mk o).map (fun x => x.2) = (path ts o).map (facing bench) := by
  unfold facingAt path
  rw [List.map_map, List.map_map]
  rfl
/-- NO ORDER IS DONE SOONER THAN A BAR'S WORTH -/
theorem weak {ts : List Th} (hn : ∀ t ∈ ts, Nn t) {bench : Int} {mk : Nat → Bool} {L : Int} (h : BarOk ts bench mk L) {o : List Nat} (ho : Ord ts.length o) : barWorth ts bench mk L ≤ W (path ts o) := by
  have hg : ∀ c ∈ o, ts[c]? = some (ts.getD c th0) := fun c hc => getD_some (ho.lt hc)
  have key : ∀ p : List Nat, p.Perm o → L + Wsum (facingAt ts bench mk p) ≤ W ((facingAt ts bench mk p).map fun x => x.2) := by
    intro p hp
    have hgp : ∀ c ∈ p, ts[c]? = some (ts.getD c th0) := fun c hc => hg c (hp.mem_iff.mp hc)
    refine weak1 h.len _ ?_ ?_ ?_ ?_
    · intro x hx
      obtain ⟨c, hc, rfl⟩ := List.mem_map.mp hx
      exact facing_nn (hn _ (List.mem_of_getElem? (hgp c hc)))
    · intro x hx hm
      obtain ⟨c, hc, rfl⟩ := List.mem_map.mp hx
      show (facing bench (ts.getD c th0)).1 ≤ (facing bench (ts.getD c th0)).2.2
      rw [facing_here, facing_there]
      exact h.own c _ (hgp c hc) hm
    · intro x hx hm
      obtain ⟨c, hc, rfl⟩ := List.mem_map.mp hx
      show (facing bench (ts.getD c th0)).1 + (facing bench (ts.getD c th0)).2.1 < L → (facing bench (ts.getD c th0)).2.2 ≤ (facing bench (ts.getD c th0)).1
      rw [facing_here, facing_there, facing_dry]
      exact h.oth c _ (hgp c hc) hm
    · rcases h.some_ with ⟨c, t, hc, hm, hl⟩ | h0
      · have hcl : c < ts.length := (List.getElem?_eq_some_iff.mp hc).1
        have hcp : c ∈ p := hp.mem_iff.mpr (ho.mem hcl)
        have e : ts.getD c th0 = t := Option.some.inj ((getD_some hcl).symm.trans hc)
        refine .inl ⟨_, List.mem_map.mpr ⟨c, hcp, rfl⟩, hm, ?_⟩
        show L ≤ (facing bench (ts.getD c th0)).1 + (facing bench (ts.getD c th0)).2.1
        rw [facing_here, facing_dry, e]
        exact hl
      · exact .inr h0
  have hs : ∀ p : List Nat, p.Perm o → Wsum (facingAt ts bench mk p) = Wsum (facingAt ts bench mk (List.range ts.length)) := fun p hp => Wsum_perm ((hp.trans ho).map _)
  unfold barWorth
  by_cases hb : bench = 1
  · have := key o (List.Perm.refl _)
    rw [hs o (List.Perm.refl _), facing_path hn] at this
    have e : (path ts o).map (facing bench) = path ts o := by
      rw [show facing bench = id from funext fun t => by unfold facing; rw [if_pos hb]; rfl, List.map_id]
    rw [e] at this
    exact this
  · have hr := List.reverse_perm o
    have := key o.reverse hr
    rw [hs o.reverse hr, facing_path hn] at this
    have e : (path ts o.reverse).map (facing bench) = ((path ts o).map turn).reverse := by
      rw [show facing bench = turn from funext fun t => by unfold facing; rw [if_neg hb]]
      unfold path
      rw [List.map_reverse, List.map_reverse]
    rw [e, W_turn _ (path_nn hn o)] at this
    exact this
/-! ### ways: which thing is the one at which a longest way changes benches -/
theorem W_split : ∀ l : List Th, l ≠ [] → (∀ x ∈ l, Nn x) → ∃ p t q, l = p ++ t :: q ∧ W l = A p + t.1 + t.2.1 + t.2.2 + B q
  | [], h, _ => absurd rfl h
  | t :: r, _, hn => by
    obtain ⟨⟨h1, h2, h3⟩, hr⟩ := Nn.of_cons hn
    rcases Int.le_total (t.1 + W r) (t.1 + t.2.1 + t.2.2 + B r) with h | h
    · refine ⟨[], t, r, rfl, ?_⟩
      show max (t.1 + t.2.1 + t.2.2 + B r) (t.1 + W r) = 0 + t.1 + t.2.1 + t.2.2 + B r
      omega
    · cases r with
      | nil =>
        refine ⟨[], t, [], rfl, ?_⟩
        show max (t.1 + t.2.1 + t.2.2 + 0) (t.1 + 0) = 0 + t.1 + t.2.1 + t.2.2 + 0
        omega
      | cons u s =>
        obtain ⟨p, v, q, e, ew⟩ := W_split (u :: s) (by simp) hr
        refine ⟨t :: p, v, q, by rw [e]; rfl, ?_⟩
        show max (t.1 + t.2.1 + t.2.2 + B (u :: s)) (t.1 + W (u :: s)) = t.1 + A p + v.1 + v.2.1 + v.2.2 + B q
        omega
theorem W_ge : ∀ (p : List Th) (t : Th) (q : List Th), A p + t.1 + t.2.1 + t.2.2 + B q ≤ W (p ++ t :: q)
  | [], t, q => by
    show 0 + t.1 + t.2.1 + t.2.2 + B q ≤ max (t.1 + t.2.1 + t.2.2 + B q) (t.1 + W q)
    omega
  | s :: p, t, q => by
    have := W_ge p t q
    show s.1 + A p + t.1 + t.2.1 + t.2.2 + B q ≤ max (s.1 + s.2.1 + s.2.2 + B (p ++ t :: q)) (s.1 + W (p ++ t :: q))
    omega
end Bp
namespace Bp
theorem Wsum_mark1 (ts : List Th) (mk : Nat → Bool) : ∀ p : List Nat, (∀ c ∈ p, mk c = true) → Wsum (facingAt ts 1 mk p) = A (path ts p)
  | [], _ => rfl
  | c :: r, h => by
    have ih := Wsum_mark1 ts mk r fun x hx => h x (List.mem_cons_of_mem _ hx)
    show (if mk c then (facing 1 (ts.getD c th0)).1 else (facing 1 (ts.getD c th0)).2.2) + Wsum (facingAt ts 1 mk r) = (ts.getD c th0).1 + A (path ts r)
    rw [h c List.mem_cons_self, ih]
    rfl
theorem Wsum_none1 (ts : List Th) (mk : Nat → Bool) : ∀ p : List Nat, (∀ c ∈ p, mk c = false) → Wsum (facingAt ts 1 mk p) = B (path ts p)
  | [], _ => rfl
  | c :: r, h => by
    have ih := Wsum_none1 ts mk r fun x hx => h x (List.mem_cons_of_mem _ hx)
    show (if mk c then (facing 1 (ts.getD c th0)).1 else (facing 1 (ts.getD c th0)).2.2) + Wsum (facingAt ts 1 mk r) = (ts.getD c th0).2.2 + B (path ts r)
    rw [h c List.mem_cons_self, ih]
    rfl
theorem Wsum_mark2 (ts : List Th) (mk : Nat → Bool) : ∀ p : List Nat, (∀ c ∈ p, mk c = true) → Wsum (facingAt ts 2 mk p) = B (path ts p)
  | [], _ => rfl
  | c :: r, h => by
    have ih := Wsum_mark2 ts mk r fun x hx => h x (List.mem_cons_of_mem _ hx)
    show (if mk c then (facing 2 (ts.getD c th0)).1 else (facing 2 (ts.getD c th0)).2.2) + Wsum (facingAt ts 2 mk r) = (ts.getD c th0).2.2 + B (path ts r)
    rw [h c List.mem_cons_self, ih]
    rfl
theorem Wsum_none2 (ts : List Th) (mk : Nat → Bool) : ∀ p : List Nat, (∀ c ∈ p, mk c = false) → Wsum (facingAt ts 2 mk p) = A (path ts p)
  | [], _ => rfl
  | c :: r, h => by
    have ih := Wsum_none2 ts mk r fun x hx => h x (List.mem_cons_of_mem _ hx)
    show (if mk c then (facing 2 (ts.getD c th0)).1 else (facing 2 (ts.getD c th0)).2.2) + Wsum (facingAt ts 2 mk r) = (ts.getD c th0).1 + A (path ts r)
    rw [h c List.mem_cons_self, ih]
    rfl
theorem facingAt_append (ts : List Th) (bench : Int) (mk : Nat → Bool) (p q : List Nat) : facingAt ts bench mk (p ++ q) = facingAt ts bench mk p ++ facingAt ts bench mk q := by unfold facingAt; rw [List.map_append]
theorem Wsum_ord (ts : List Th) (bench : Int) (mk : Nat → Bool) {n : Nat} {o : List Nat} (ho : Ord n o) : Wsum (facingAt ts bench mk (List.range n)) = Wsum (facingAt ts bench mk o) := (Wsum_perm (ho.map _)).symm
/-- the thing at which a longest way changes benches gives a bar: those ahead of it, or those behind it -/
theorem bar_first {ts : List Th} (hn : ∀ t ∈ ts, Nn t) {p q : List Nat} {c : Nat} (ho : Ord ts.length (p ++ c :: q)) {mk : Nat → Bool} (hmk : ∀ x, mk x = true ↔ x ∈ p)
    (h1 : ∀ x ∈ p, (ts.getD x th0).1 ≤ (ts.getD x th0).2.2) (h2 : ∀ y ∈ q, (ts.getD y th0).2.2 ≤ (ts.getD y th0).1 ∨ (ts.getD c th0).1 + (ts.getD c th0).2.1 ≤ (ts.getD y th0).1 + (ts.getD y th0).2.1) :
    BarOk ts 1 mk ((ts.getD c th0).1 + (ts.getD c th0).2.1) ∧ barWorth ts 1 mk ((ts.getD c th0).1 + (ts.getD c th0).2.1) = A (path ts p) + (ts.getD c th0).1 + (ts.getD c th0).2.1 + (ts.getD c th0).2.2 + B (path ts q) := by
  have nd := ho.nd
  have hcl : c < ts.length := ho.lt (by simp)
  have hc := getD_some hcl
  have hcn := hn _ (List.mem_of_getElem? hc)
  have hno : ∀ x, x ∈ c :: q → mk x = false := fun x hx => by
    cases e : mk x with
    | false => rfl
    | true => exact absurd rfl ((List.nodup_append.mp nd).2.2 x ((hmk x).mp e) x hx)
  refine ⟨⟨by have := hcn.1; have := hcn.2.1; omega, fun x t hx hm => ?_, fun x t hx hm hl => ?_, .inl ⟨c, _, hc, hno c List.mem_cons_self, Int.le_refl _⟩⟩, ?_⟩
  · have hxl := (List.getElem?_eq_some_iff.mp hx).1
    have e : ts.getD x th0 = t := Option.some.inj ((getD_some hxl).symm.trans hx)
    have := h1 x ((hmk x).mp hm)
    rw [e] at this
    exact this
  · have hxl := (List.getElem?_eq_some_iff.mp hx).1
    have e : ts.getD x th0 = t := Option.some.inj ((getD_some hxl).symm.trans hx)
    have hxo := ho.mem hxl
    rcases List.mem_append.mp hxo with h | h
    · rw [(hmk x).mpr h] at hm
      cases hm
    · rcases List.mem_cons.mp h with rfl | h
      · rw [e] at hl
        exact absurd hl (Int.lt_irrefl _)
      · rcases h2 x h with h | h
        · rw [e] at h
          exact h
        · rw [e] at h
          exact absurd hl (Int.not_lt.mpr h)
  · unfold barWorth
    rw [Wsum_ord ts 1 mk ho, facingAt_append, Wsum_append, Wsum_mark1 ts mk p fun x hx => (hmk x).mpr hx, Wsum_none1 ts mk (c :: q) hno]
    show (ts.getD c th0).1 + (ts.getD c th0).2.1 + (A (path ts p) + ((ts.getD c th0).2.2 + B (path ts q))) = _
    omega
theorem bar_second {ts : List Th} (hn : ∀ t ∈ ts, Nn t) {p q : List Nat} {c : Nat} (ho : Ord ts.length (p ++ c :: q)) {mk : Nat → Bool} (hmk : ∀ x, mk x = true ↔ x ∈ q)
    (h1 : ∀ x ∈ q, (ts.getD x th0).2.2 ≤ (ts.getD x th0).1) (h2 : ∀ y ∈ p, (ts.getD y th0).1 ≤ (ts.getD y th0).2.2 ∨ (ts.getD c th0).2.2 + (ts.getD c th0).2.1 ≤ (ts.getD y th0).2.2 + (ts.getD y th0).2.1) :
    BarOk ts 2 mk ((ts.getD c th0).2.2 + (ts.getD c th0).2.1) ∧ barWorth ts 2 mk ((ts.getD c th0).2.2 + (ts.getD c th0).2.1) = A (path ts p) + (ts.getD c th0).1 + (ts.getD c th0).2.1 + (ts.getD c th0).2.2 + B (path ts q) := by
  have nd := ho.nd
  have hcl : c < ts.length := ho.lt (by simp)
  have hc := getD_some hcl
  have hcn := hn _ (List.mem_of_getElem? hc)
  have nd2 := (List.nodup_append.mp nd)
  have nc : c ∉ q := (List.nodup_cons.mp nd2.2.1).1
  have hnc : mk c = false := by
    cases e : mk c with
    | false => rfl
    | true => exact absurd ((hmk c).mp e) nc
  have hnp : ∀ x, x ∈ p → mk x = false := fun x hx => by
    cases e : mk x with
    | false => rfl
    | true => exact absurd rfl (nd2.2.2 x hx x (List.mem_cons_of_mem _ ((hmk x).mp e)))
  refine ⟨⟨by have := hcn.2.2; have := hcn.2.1; omega, fun x t hx hm => ?_, fun x t hx hm hl => ?_, .inl ⟨c, _, hc, hnc, Int.le_refl _⟩⟩, ?_⟩
  · have hxl := (List.getElem?_eq_some_iff.mp hx).1
    have e : ts.getD x th0 = t := Option.some.inj ((getD_some hxl).symm.trans hx)
    have := h1 x ((hmk x).mp hm)
    rw [e] at this
    exact this
  · have hxl := (List.getElem?_eq_some_iff.mp hx).1
    have e : ts.getD x th0 = t := Option.some.inj ((getD_some hxl).symm.trans hx)
    have hxo := ho.mem hxl
    rcases List.mem_append.mp hxo with h | h
    · rcases h2 x h with h | h
      · rw [e] at h
        exact h
      · rw [e] at h
        exact absurd hl (Int.not_lt.mpr h)
    · rcases List.mem_cons.mp h with rfl | h
      · rw [e] at hl
        exact absurd hl (Int.lt_irrefl _)
      · rw [(hmk x).mpr h] at hm
        cases hm
  · unfold barWorth
    rw [Wsum_ord ts 2 mk ho, facingAt_append, Wsum_append, Wsum_none2 ts mk p hnp,
      show facingAt ts 2 mk (c :: q) = facingAt ts 2 mk [c] ++ facingAt ts 2 mk q from rfl, Wsum_append, Wsum_mark2 ts mk q fun x hx => (hmk x).mpr hx, Wsum_none2 ts mk [c] (by intro x hx; obtain rfl := List.mem_singleton.mp hx; exact hnc)]
    show (ts.getD c th0).2.2 + (ts.getD c th0).2.1 + (A (path ts p) + ((ts.getD c th0).1 + 0 + B (path ts q))) = _
    omega
end Bp
namespace Bp
/-! ### orders and bars told as lists of asI -/
def asI (o : List Nat) : List Int := o.map Int.ofNat
def ordB (n : Nat) (is : List Int) : Bool := is.isPerm (asI (List.range n))
theorem ordB_iff {n : Nat} {is : List Int} : ordB n is = true ↔ is.Perm (asI (List.range n)) := List.isPerm_iff
theorem asI_back {o : List Nat} : (asI o).map Int.toNat = o := by
  unfold asI
  rw [List.map_map]
  exact (List.map_congr_left fun _ _ => rfl).trans (List.map_id o)
theorem ordB_ord {n : Nat} {is : List Int} (h : ordB n is = true) : ∃ o, is = asI o ∧ Ord n o := by
  have hp := ordB_iff.mp h
  refine ⟨is.map Int.toNat, ?_, ?_⟩
  · unfold asI
    rw [List.map_map]
    refine ((List.map_id is).symm.trans (List.map_congr_left fun x hx => ?_))
    obtain ⟨c, _, rfl⟩ := List.mem_map.mp (hp.mem_iff.mp hx)
    rfl
  · have := hp.map Int.toNat
    rw [asI_back] at this
    exact this
theorem ord_ordB {n : Nat} {o : List Nat} (h : Ord n o) : ordB n (asI o) = true := ordB_iff.mpr (h.map _)
/-- rising lists with the same members are one -/
theorem sorted_one : ∀ {l m : List Int}, l.Pairwise (· ≤ ·) → m.Pairwise (· ≤ ·) → l.Perm m → l = m
  | [], m, _, _, p => (List.Perm.nil_eq p)
  | x :: l, [], _, _, p => absurd p.length_eq (by simp)
  | x :: l, y :: m, h1, h2, p => by
    obtain ⟨a1, a2⟩ := List.pairwise_cons.mp h1
    obtain ⟨b1, b2⟩ := List.pairwise_cons.mp h2
    have exy : x = y := by
      have hx : x ∈ y :: m := p.mem_iff.mp List.mem_cons_self
      have hy : y ∈ x :: l := p.mem_iff.mpr List.mem_cons_self
      rcases List.mem_cons.mp hx with h | h
      · exact h
      · rcases List.mem_cons.mp hy with h' | h'
        · exact h'.symm
        · have := a1 y h'
          have := b1 x h
          omega
    subst exy
    rw [sorted_one a2 b2 (List.perm_cons x |>.mp p)]
theorem rising_range : ∀ n : Nat, (asI (List.range n)).Pairwise (· ≤ ·) := fun n => by
  unfold asI
  refine List.pairwise_map.mpr ((List.pairwise_lt_range (n := n)).imp fun {a b} h => ?_)
  show (a : Int) ≤ (b : Int)
  omega
/-- what sorted(is) == list(range(n)) tells -/
theorem ordB_sorted {n : Nat} {is js : List Int} (p : js.Perm is) (s : js.Pairwise (· ≤ ·)) : decide (js = asI (List.range n)) = ordB n is := by
  cases h : ordB n is with
  | true => exact decide_eq_true (sorted_one s (rising_range n) (p.trans (ordB_iff.mp h)))
  | false =>
    refine decide_eq_false fun e => ?_
    subst e
    rw [ordB_iff.mpr p.symm] at h
    cases h
def mkOf (ap : List Int) (c : Nat) : Bool := decide ((c : Int) ∈ ap)
structure BarW (ts : List Th) (bench : Int) (ap : List Int) (L : Int) : Prop where
  two : bench = 1 ∨ bench = 2
  rise : ap.Pairwise (· < ·)
  inn : ∀ x ∈ ap, 0 ≤ x ∧ x < (ts.length : Int)
  ok : BarOk ts bench (mkOf ap) L
open Classical in
noncomputable def lawW (ts : List Th) (bench : Int) (ap : List Int) (L : Int) : Int := if BarW ts bench ap L then barWorth ts bench (mkOf ap) L else -1
theorem lawW_yes {ts : List Th} {bench : Int} {ap : List Int} {L : Int} (h : BarW ts bench ap L) : lawW ts bench ap L = barWorth ts bench (mkOf ap) L := if_pos h
theorem lawW_no {ts : List Th} {bench : Int} {ap : List Int} {L : Int} (h : ¬ BarW ts bench ap L) : lawW ts bench ap L = -1 := if_neg h
theorem Wsum_nn : ∀ m : List (Bool × Th), (∀ x ∈ m, Nn x.2) → 0 ≤ Wsum m
  | [], _ => Int.le_refl _
  | x :: r, h => by
    have := Wsum_nn r fun y hy => h y (List.mem_cons_of_mem _ hy)
    obtain ⟨h1, h2, h3⟩ := h x List.mem_cons_self
    show 0 ≤ (if x.1 then x.2.1 else x.2.2.2) + Wsum r
    split <;> omega
theorem barWorth_nn {ts : List Th} (hn : ∀ t ∈ ts, Nn t) {bench : Int} {mk : Nat → Bool} {L : Int} (h : BarOk ts bench mk L) : 0 ≤ barWorth ts bench mk L := by
  have := Wsum_nn (facingAt ts bench mk (List.range ts.length)) fun x hx => by
    obtain ⟨c, hc, rfl⟩ := List.mem_map.mp hx
    exact facing_nn (hn _ (List.mem_of_getElem? (getD_some (List.mem_range.mp hc))))
  have := h.len
  unfold barWorth
  omega
/-- the longest of those that are not told apart, -1 for none -/
def lng (ts : List Th) (bench : Int) (mk : Nat → Bool) (i : Nat) : Int := (List.range i).foldl (fun m c => if mk c then m else max m (hereOf bench (ts.getD c th0) + (ts.getD c th0).2.1)) (-1)
theorem lng_succ (ts : List Th) (bench : Int) (mk : Nat → Bool) (i : Nat) : lng ts bench mk (i + 1) = if mk i then lng ts bench mk i else max (lng ts bench mk i) (hereOf bench (ts.getD i th0) + (ts.getD i th0).2.1) := by
  unfold lng
  rw [List.range_succ, List.foldl_append]
  rfl
theorem lng_ge {ts : List Th} {bench : Int} {mk : Nat → Bool} {L : Int} (hL : 0 ≤ L) : ∀ i : Nat, L ≤ lng ts bench mk i ↔ ∃ c, c < i ∧ mk c = false ∧ L ≤ hereOf bench (ts.getD c th0) + (ts.getD c th0).2.1
  | 0 => by
    refine ⟨fun h => ?_, fun ⟨c, h, _⟩ => absurd h (Nat.not_lt_zero _)⟩
    have h : L ≤ -1 := h
    omega
  | i + 1 => by
    rw [lng_succ]
    have ih := lng_ge (ts := ts) (bench := bench) (mk := mk) hL i
    cases e : mk i with
    | true =>
      simp only [if_true]
      rw [ih]
      refine ⟨fun ⟨c, h1, h2⟩ => ⟨c, by omega, h2⟩, fun ⟨c, h1, h2, h3⟩ => ⟨c, ?_, h2, h3⟩⟩
      rcases Nat.lt_or_ge c i with h | h
      · exact h
      · have : c = i := by omega
        subst this
        rw [e] at h2
        cases h2
    | false =>
      simp only [Bool.false_eq_true, if_false]
      refine ⟨fun h => ?_, fun ⟨c, h1, h2, h3⟩ => ?_⟩
      · rcases Int.le_total (lng ts bench mk i) (hereOf bench (ts.getD i th0) + (ts.getD i th0).2.1) with g | g
        · exact ⟨i, by omega, e, by omega⟩
        · obtain ⟨c, h1, h2⟩ := ih.mp (by omega)
          exact ⟨c, by omega, h2⟩
      · rcases Nat.lt_or_ge c i with h | h
        · have := ih.mpr ⟨c, h, h2, h3⟩
          omega
        · have : c = i := by omega
          subst this
          omega
theorem Wsum_range (ts : List Th) (bench : Int) (mk : Nat → Bool) (i : Nat) : Wsum (facingAt ts bench mk (List.range (i + 1))) = Wsum (facingAt ts bench mk (List.range i)) + (if mk i then hereOf bench (ts.getD i th0) else thereOf bench (ts.getD i th0)) := by
  rw [List.range_succ, facingAt_append, Wsum_append]
  have : Wsum (facingAt ts bench mk [i]) = if mk i then hereOf bench (ts.getD i th0) else thereOf bench (ts.getD i th0) := by
    show (if mk i then (facing bench (ts.getD i th0)).1 else (facing bench (ts.getD i th0)).2.2) + 0 = _
    rw [facing_here, facing_there, Int.add_zero]
  rw [this]
/-- rising, and just the members of set(ap) in rising order -/
theorem rise_of {ap js : List Int} (hs : js.Pairwise (· < ·)) (hm : ∀ k, k ∈ js ↔ k ∈ ap) : ap = js ↔ ap.Pairwise (· < ·) := by
  refine ⟨fun e => e ▸ hs, fun h => ?_⟩
  have n1 : ap.Nodup := h.imp fun {a b} h => by omega
  have n2 : js.Nodup := hs.imp fun {a b} h => by omega
  have p : ap.Perm js := (List.perm_ext_iff_of_nodup n1 n2).mpr fun k => (hm k).symm
  exact sorted_one (h.imp fun {a b} h => by omega) (hs.imp fun {a b} h => by omega) p
end Bp
/-! sorted(s) of a set of ints of any number; set(xs) of a list of ints -/
namespace BpS
open PySem PySem.Spec PyProof.Rows L2
section
variable {P : Program} {w : World} {A : Around} {E : Value → Shared → Prop} {s : Shared} {a : Addr}
/-- sorted of a set, by the collected members and the sort of any number of ints -/
theorem sorted_any {S : Int → Bool} {n : Nat} {Q : Value → Shared → Prop} (R : SetR w s.heap a S n) (quiet : A.handled = none) (few : n ≤ 100000)
    (fin : ∀ s' p (out : List Value) (c : Nat) (ns : List Int), (∀ b o, s.heap.get? b = some o → s'.heap.get? b = some o) → s'.gens = s.gens → s'.os = s.os → s.heap.objs.size ≤ p → s'.heap.get? p = some (seqObj "list" out.toArray c) → IntsAre out ns →
      ns.Pairwise (· < ·) → (∀ k, k ∈ ns ↔ S k = true) → ns.length = n → Q (.ref p) s') : wpAny (model P w) A (call (.builtin "sorted") [.ref a]) Q E s := by
  obtain ⟨ob, els, epo, tab, look, exact_, dat, good, nodup, memb, below_, fits_, size_, rising, drawn_⟩ := R
  refine Calls.call_function_entry kind_sorted plain_sorted entry_sorted (args_sorted1 _) ?_
  unfold Builtin.«sorted»
  refine wpAny_bind (m := checkCount "sorted" 1 1 _) (wpAny_pure (wpAny_bind (collect_set (A := A.in1) quiet ⟨ob, look, exact_.1, dat⟩ fits_ below_ rising drawn_ fun s1 vs keep1 grow1 gens1 os1 perm1 => ?_)))
  have len1 : vs.length = n := (perm1.length_eq.trans (by rw [List.length_map, Array.length_toList])).trans size_
  have every : ∀ v ∈ vs, ∃ i t, v = Value.int i t := fun v hv => by
    obtain ⟨e, he, rfl⟩ := List.mem_map.mp (perm1.mem_iff.mp hv)
    obtain ⟨k, tk, q, _⟩ := good e he
    exact ⟨k, tk, q⟩
  have ints1 : IntsAre vs (vs.map SrtO.iv) := SrtO.ints_iv every
  have keys1 : (vs.map SrtO.iv).Perm (els.toList.map keyOf) := by
    have z := perm1.map SrtO.iv
    rw [List.map_map] at z
    have ee : els.toList.map (SrtO.iv ∘ fun x => x.2) = els.toList.map keyOf := List.map_congr_left fun e he => by
      obtain ⟨k, tk, q, _⟩ := good e he
      show SrtO.iv e.2 = keyOf e
      unfold keyOf
      rw [q]
      rfl
    rwa [ee] at z
  have small : vs.length ≤ sizeLine := by rw [len1, sizeLine_eq]; omega
  refine wpAny_bind (wpAny_newList ?_ small)
  have laid : (s1.heap.push (seqObj "list" vs.toArray 0)).get? s1.heap.objs.size = some (seqObj "list" vs.toArray 0) := Heap.get?_push_size _ rfl
  refine wpAny_bind (wpAny_holding (wpAny_call_entry slot_list_sort ⟨_, laid, rfl⟩ entry_list_sort (SrtO.list_sort_ord SrtO.swo_int laid small (fun two => SrtO.ints_sortable ints1 two) fun out srt stb => ⟨_, rfl, ?_⟩) (args_list_sort _)))
  obtain ⟨outI, outP, outS⟩ := SrtO.ints_out ints1 srt stb
  obtain ⟨c, hc⟩ := sortedHeap_at (vs := vs) (out := out.toArray) laid
  have pn : (out.map SrtO.iv).Perm (els.toList.map keyOf) := outP.trans keys1
  refine wpAny_pure ⟨_, rfl, fin _ s1.heap.objs.size out c (out.map SrtO.iv) (fun b u e => ?_) gens1 os1 grow1 hc outI ?_ (fun k => by rw [pn.mem_iff, ← memb k]) ?_⟩
  · have old := keep1 b u e
    have lower := Heap.lt_size old
    have stay := sortedHeap_old (vs := vs) (out := out.toArray) (Nat.ne_of_lt lower) (show b < (s1.heap.push (seqObj "list" vs.toArray 0)).objs.size by rw [size_push']; exact Nat.lt_succ_of_lt lower)
    exact stay.trans (Heap.get?_push_of_some _ old)
  · have nd' := pn.nodup_iff.mpr nodup
    exact List.Pairwise.imp₂ (fun x y h1 h2 => by omega) outS nd'
  · rw [pn.length_eq, List.length_map, Array.length_toList]
    exact size_
/-- a fresh set -/
def freshO (w : World) : Obj := { cls := .type "set", dict := none, data := .set #[] 0 (.fresh 0 0 (!w.params.followText "set-order")) }
set_option maxHeartbeats 3200000 in
/-- set(xs), xs a list of ints -/
theorem set_ints {l : Addr} {its : Array Value} (ns : List Int) {Q : Value → Shared → Prop} (quiet : A.handled = none) (isl : s.heap.IsList l its) (hints : IntsAre its.toList ns) (few : ns.length + 1 < scanBound)
    (fin : ∀ (h' : Heap) (tk c : Nat), SetR w h' s.heap.objs.size (fun j => decide (j ∈ ns)) c → c ≤ ns.length → (∀ b o, s.heap.get? b = some o → h'.get? b = some o) → Q (.ref s.heap.objs.size) { s with heap := h', toks := tk }) : wpAny (model P w) A (call (.type "set") [.ref l]) Q E s := by
  have size1 : its.size = ns.length := (Array.length_toList (xs := its)).symm.trans (IntsAre.length hints)
  obtain ⟨mroC, mroT, mroE⟩ := PySem.F.called_set.mro
  have made1 := PySem.F.called_set.made
  have sub1 := PySem.F.called_set.sub
  have not1 := PySem.F.called_set.notType
  have can1 := PySem.F.called_set.canCreate
  have typ1 := PySem.F.typeCall_set_1 (.ref l)
  refine wpAny_call (codeAny_of_tree ?_)
  show wpAny _ _ (callAny (.type "set") ⟨[.ref l], []⟩) _ _ _
  refine wpAny_pure ⟨Code.quiet_builtin _ (by decide +kernel), codeAny_builtin F.entry_type_call ?_⟩
  rw [Around.under_plain (weight_type_call_type "set" [Value.ref l] []) rfl]
  repeat (any_goals (first | assumption | wp_step))
  refine codeAny_mono (code_set_led1 (Value.ref l) (E := E) (Q₁ := fun v s₁ => v = .ref s.heap.objs.size ∧ s₁ = { s with heap := s.heap.push (freshO w) }) ⟨rfl, rfl⟩) fun r s₁ got => ?_
  cases r with
  | error e => exact got
  | ok fl => cases fl with
    | ret v =>
      obtain ⟨rfl, rfl⟩ := got
      have atS : (s.heap.push (freshO w)).get? s.heap.objs.size = some (freshO w) := Heap.get?_push_size _ rfl
      have tyS : Shared.TypeIs { s with heap := s.heap.push (freshO w) } (.ref s.heap.objs.size) "set" := ⟨_, atS, rfl⟩
      have look1 := PySem.F.called_set.init.lookup
      have bind1 := PySem.F.called_set.init.bind (Value.ref s.heap.objs.size)
      repeat (any_goals (first | assumption | wp_step))
      let Done : Value → Shared → Prop := fun v s₂ => v = .none ∧ ∃ h' tk c, s₂ = { s with heap := h', toks := tk } ∧ SetR w h' s.heap.objs.size (fun j => decide (j ∈ ns)) c ∧ c ≤ ns.length ∧ ∀ b o, s.heap.get? b = some o → h'.get? b = some o
      refine codeAny_mono (codeAny_call_builtin (R := wants Done E) PySem.F.called_set.init.plain PySem.F.entry_set_init (check_set_init_1 tyS ?_)) fun r₂ s₂ got₂ => ?_
      · obtain ⟨⟨lc, ld, ldat, lsl⟩, lget, lcls, lcap, ldata⟩ := isl
        simp only at lcls ldata
        subst lcls; subst ldata
        have below_ : l < s.heap.objs.size := Heap.lt_size lget
        have lget1 : (s.heap.push (freshO w)).get? l = some ⟨.type "list", ld, .seq its lcap, lsl⟩ := Heap.get?_push_of_some _ lget
        have isl1 : (s.heap.push (freshO w)).IsList l its := ⟨_, lget1, rfl, lcap, rfl⟩
        have subS := PySem.F.sub_list_set
        have subF := PySem.F.sub_list_frozenset
        have noD : (Value.type "list" == Value.type "dict") = false := by decide
        unfold Builtin.«set.__init__» noKeywords Builtin.Frozenset.updateFrom
        generalize keepPI : pyIter = PI
        wp_walk
        subst keepPI
        refine wpAny_pyIter_list isl1 (wpAny_bind (wpAny_runValue ?_))
        have quiet3 : A.in1.in1.in1.handled = none := by simp [quiet]
        have bigger : (s.heap.push (freshO w)).objs.size = s.heap.objs.size + 1 := Heap.size_push ..
        have apart1 : l ≠ (s.heap.push (freshO w)).objs.size := by rw [bigger]; exact Nat.ne_of_lt (Nat.lt_succ_of_lt below_)
        have apart2 : s.heap.objs.size ∉ [(s.heap.push (freshO w)).objs.size, l] := by
          rw [bigger]
          simp only [List.mem_cons, List.not_mem_nil, or_false, not_or]
          exact ⟨Nat.ne_of_lt (Nat.lt_succ_self _), Nat.ne_of_gt below_⟩
        have each : ∀ (i : Nat) (v : Value), its[i]? = some v → ∃ k t, ns[i]? = some k ∧ v = .int k t := fun i v hv => by
          have lower : i < ns.length := size1 ▸ (Array.getElem?_eq_some_iff.mp hv).1
          obtain ⟨t, e⟩ := PyProof.Rows.IntsAre.int_at hints i v ((Array.getElem?_toList).trans hv)
          refine ⟨_, t, List.getElem?_eq_getElem lower, ?_⟩
          rw [e, List.getD_eq_getElem?_getD, List.getElem?_eq_getElem lower]
          rfl
        refine set_update_ints ((Walks.list quiet3 _ l apart1 its).toS) s.heap.objs.size apart2 ns size1 few each (its.size - 0) 0 _ (by omega) (Nat.zero_le _) ⟨⟨_, Heap.get?_push_size _ rfl, rfl, rfl⟩, isl1.push _⟩ ⟨0, Nat.le_refl 0, setR_new_at (Heap.get?_push_of_some _ atS)⟩ ?_
        intro s' c' moved few' made'
        obtain ⟨h', g', d', tk', os'⟩ := s'
        obtain rfl : g' = s.gens := moved.gens
        obtain rfl : d' = s.drawn := moved.drawn
        obtain rfl : os' = s.os := moved.os
        show wpAny _ _ _ _ _ _
        refine wpAny_pure ?_
        show wpAny _ _ (ret Value.none) _ _ _
        refine wpAny_pure ⟨rfl, h', tk', c', rfl, made', size1 ▸ few', fun b o e => moved.heap b o ?_ (Heap.get?_push_of_some _ (Heap.get?_push_of_some _ e))⟩
        have lower := Heap.lt_size e
        simp only [List.mem_cons, List.not_mem_nil, or_false, not_or]
        rw [bigger]
        exact ⟨Nat.ne_of_lt lower, Nat.ne_of_lt (Nat.lt_succ_of_lt lower)⟩
      · cases r₂ with
        | error e => exact got₂
        | ok fl₂ => cases fl₂ with
          | ret v =>
            obtain ⟨rfl, h', tk, c', rfl, made', few', keep'⟩ := got₂
            repeat (any_goals (first | assumption | wp_step))
            exact fin _ _ _ made' few' keep'
          | _ => exact got₂.elim
    | _ => exact got.elim
end
/-- the set of the members of ns, c of them, at p -/
def SetOx (w : World) (p : Addr) (ns : List Int) (c : Nat) : HO := SetO w p (fun j => decide (j ∈ ns)) c
section
variable {X : Cx}
/-- set(xs) -/
def rSetL (K : PySem.W.Frag) (w : World) : List V → Hp → VK → Prop := fun xs H Q => ∃ (l : Addr) (ns : List Int), xs = [V.ref l] ∧ SqL K H l (ns.map V.int) ∧ ns.length ≤ 1000 ∧ ∀ (p : Addr) (c : Nat), c ≤ ns.length → H p = none → Q (.ref p) (upd H p (SetO w p (fun j => decide (j ∈ ns)) c))
theorem cr_setL (hc : X.calm = true) : CallR X (.type "set") (rSetL X.K X.w) := by
  intro pins s σ H xs us Q I r h
  obtain ⟨l, ns, rfl, hl, few, q⟩ := h
  rw [Vals.ref1 r]
  obtain ⟨its, rv, pl, _⟩ := I.list hl
  refine set_ints (P := X.prog) (w := X.w) ns (I.ok.hd hc) pl.isList (by simpa using ints_of_vals rv) (by unfold scanBound; omega) fun h' tk c made small keep => ?_
  exact ⟨.ref s.heap.objs.size, upd H s.heap.objs.size (SetO X.w s.heap.objs.size (fun j => decide (j ∈ ns)) c), I.laid (t' := tk) keep (Nat.le_refl _) (setO_new made), rfl, q _ c small (I.hok.fresh (Nat.le_refl _))⟩
/-- sorted(s) -/
def rSortA (w : World) : List V → Hp → VK → Prop := fun vs H Q => ∃ (a : Addr) (S : Int → Bool) (n : Nat), vs = [V.ref a] ∧ H a = some (SetO w a S n) ∧ n ≤ 100000 ∧ ∀ (ns : List Int) (p : Addr), ns.Pairwise (· < ·) → (∀ k : Int, k ∈ ns ↔ S k = true) → ns.length = n → H p = none → Q (.ref p) (upd H p (.lst (ns.map V.int)))
theorem cr_sortA (hc : X.calm = true) : CallR X (.builtin "sorted") (rSortA X.w) := by
  intro pins s σ H vs us Q I r h
  obtain ⟨a, S, n, rfl, ha, few, q⟩ := h
  rw [Vals.ref1 r]
  refine sorted_any (setO_get I ha) (I.ok.hd hc) few fun s' p out c ns keep gens1 os1 later laid ints1 srt mem1 len1 => ?_
  have fresh : H p = none := I.hok.fresh later
  have small : (ns.map V.int).length ≤ sizeLine := by rw [List.length_map, len1, sizeLine_eq]; omega
  obtain ⟨h', g', d', tk', os'⟩ := s'
  obtain rfl : g' = s.gens := gens1
  obtain rfl : os' = s.os := os1
  exact ⟨.ref p, upd H p (.lst (ns.map V.int)), I.call (ch := []) (Un.laid keep later fresh) (I.hok.laid keep later ⟨small, out, c, vals_of_ints ints1, laid⟩) I.bare (fun _ z => nomatch z), rfl, q ns p srt mem1 len1 fresh⟩
end
end BpS
namespace Bp
/-! ### orders by their marks -/
theorem nd_len : ∀ (n : Nat) (o : List Nat), o.Nodup → (∀ x ∈ o, x < n) → o.length ≤ n
  | 0, [], _, _ => Nat.le_refl _
  | 0, x :: _, _, h => absurd (h x List.mem_cons_self) (Nat.not_lt_zero _)
  | n + 1, o, nd, h => by
    have h1 := nd_len n (o.erase n) (nd.erase n) fun x hx => by
      have hx' := (nd.mem_erase_iff).mp hx
      have := h x hx'.2
      have := hx'.1
      omega
    have h2 : o.length ≤ (o.erase n).length + 1 := by
      rw [List.length_erase]
      split <;> omega
    omega
theorem ord_nd {n : Nat} {o : List Nat} (hl : o.length = n) (nd : o.Nodup) (h : ∀ x ∈ o, x < n) : Ord n o := by
  refine (List.perm_ext_iff_of_nodup nd List.nodup_range).mpr fun c => ⟨fun hc => List.mem_range.mpr (h c hc), fun hc => ?_⟩
  by_cases hm : c ∈ o
  · exact hm
  · have := nd_len n (c :: o) (List.nodup_cons.mpr ⟨hm, nd⟩) fun x hx => by
      rcases List.mem_cons.mp hx with rfl | hx
      · exact List.mem_range.mp hc
      · exact h x hx
    rw [List.length_cons] at this
    omega
theorem ints_nat {n : Nat} : ∀ {is : List Int}, (∀ x ∈ is, 0 ≤ x ∧ x < (n : Int)) → is = asI (is.map Int.toNat) := fun {is} h => by
  unfold asI
  rw [List.map_map]
  refine ((List.map_id is).symm.trans (List.map_congr_left fun x hx => ?_))
  show x = ((x.toNat : Nat) : Int)
  have := h x hx
  omega
theorem asI_inj {a b : Nat} (h : (Int.ofNat a) = Int.ofNat b) : a = b := Int.ofNat.inj h
theorem asI_nd {o : List Nat} : (asI o).Nodup ↔ o.Nodup := by
  unfold asI
  refine ⟨fun h => (List.pairwise_map.mp h).imp fun {a b} q e => q (by rw [e]), fun h => List.pairwise_map.mpr (h.imp fun {a b} q e => q (asI_inj e))⟩
theorem ordB_yes {n : Nat} {is : List Int} (hl : is.length = n) (nd : is.Nodup) (h : ∀ x ∈ is, 0 ≤ x ∧ x < (n : Int)) : ordB n is = true := by
  have e := ints_nat h
  rw [e]
  refine ord_ordB (ord_nd (by rw [List.length_map]; exact hl) ?_ fun x hx => ?_)
  · rw [e] at nd
    exact asI_nd.mp nd
  · obtain ⟨y, hy, rfl⟩ := List.mem_map.mp hx
    have := h y hy
    omega
theorem ordB_in {n : Nat} {is : List Int} (h : ordB n is = true) : is.length = n ∧ is.Nodup ∧ ∀ x ∈ is, 0 ≤ x ∧ x < (n : Int) := by
  obtain ⟨o, rfl, ho⟩ := ordB_ord h
  refine ⟨by unfold asI; rw [List.length_map]; exact ho.len, asI_nd.mpr ho.nd, fun x hx => ?_⟩
  obtain ⟨c, hc, rfl⟩ := List.mem_map.mp hx
  have := ho.lt hc
  show 0 ≤ (c : Int) ∧ (c : Int) < (n : Int)
  omega
theorem ordB_no {n : Nat} {is : List Int} (h : ¬ (is.length = n ∧ is.Nodup ∧ ∀ x ∈ is, 0 ≤ x ∧ x < (n : Int))) : ordB n is = false := by
  cases e : ordB n is with
  | false => rfl
  | true => exact absurd (ordB_in e) h
/-- at each turn: what is told so far is of counts below n, each once -/
structure Fine (n : Nat) (is : List Int) : Prop where
  nd : is.Nodup
  rg : ∀ x ∈ is, 0 ≤ x ∧ x < (n : Int)
theorem take_snoc {α : Type} {l : List α} {i : Nat} {x : α} (h : l[i]? = some x) : l.take (i + 1) = l.take i ++ [x] := by
  rw [List.take_add_one, h]
  rfl
theorem Fine.more {n : Nat} {is : List Int} {i : Nat} {x : Int} (h : Fine n (is.take i)) (hx : is[i]? = some x) (h1 : 0 ≤ x ∧ x < (n : Int)) (h2 : x ∉ is.take i) : Fine n (is.take (i + 1)) := by
  rw [take_snoc hx]
  refine ⟨List.nodup_append.mpr ⟨h.nd, by simp, fun a ha b hb e => ?_⟩, fun y hy => ?_⟩
  · obtain rfl := List.mem_singleton.mp hb
    exact h2 (e ▸ ha)
  · rcases List.mem_append.mp hy with hy | hy
    · exact h.rg y hy
    · obtain rfl := List.mem_singleton.mp hy
      exact h1
theorem twice {is : List Int} {i : Nat} {x : Int} (hx : is[i]? = some x) (h2 : x ∈ is.take i) : ¬ is.Nodup := fun nd => by
  have e : is = is.take i ++ (x :: is.drop (i + 1)) := by
    have h := (List.getElem?_eq_some_iff.mp hx)
    obtain ⟨hi, rfl⟩ := h
    rw [← List.drop_eq_getElem_cons hi, List.take_append_drop]
  rw [e] at nd
  exact (List.nodup_append.mp nd).2.2 x h2 x List.mem_cons_self rfl
/-! ### rising counts -/
def Rises (n : Nat) (ap : List Int) : Prop := ap.Pairwise (· < ·) ∧ ∀ x ∈ ap, 0 ≤ x ∧ x < (n : Int)
instance (n : Nat) (ap : List Int) : Decidable (Rises n ap) := inferInstanceAs (Decidable (_ ∧ _))
/-- least: one more than the last -/
structure Ris (n : Nat) (ap : List Int) (m : Int) : Prop where
  ok : Rises n ap
  nn : 0 ≤ m
  lt : ∀ x ∈ ap, x < m
  is : m = 0 ∨ m - 1 ∈ ap
theorem Ris.nil (n : Nat) : Ris n [] 0 := ⟨⟨List.Pairwise.nil, (fun _ h => nomatch h)⟩, Int.le_refl _, (fun _ h => nomatch h), .inl rfl⟩
theorem Ris.more {n : Nat} {ap : List Int} {m x : Int} (h : Ris n ap m) (h1 : m ≤ x) (h2 : x < (n : Int)) : Ris n (ap ++ [x]) (x + 1) := by
  refine ⟨⟨List.pairwise_append.mpr ⟨h.ok.1, by simp, fun a ha b hb => ?_⟩, fun y hy => ?_⟩, by have := h.nn; omega, fun y hy => ?_, .inr ?_⟩
  · obtain rfl := List.mem_singleton.mp hb
    have := h.lt a ha
    omega
  · rcases List.mem_append.mp hy with hy | hy
    · exact h.ok.2 y hy
    · obtain rfl := List.mem_singleton.mp hy
      have := h.nn
      omega
  · rcases List.mem_append.mp hy with hy | hy
    · have := h.lt y hy
      omega
    · obtain rfl := List.mem_singleton.mp hy
      omega
  · rw [show x + 1 - 1 = x by omega]
    simp
theorem Ris.stop {n : Nat} {ap : List Int} {i : Nat} {m x : Int} (h : Ris n (ap.take i) m) (hx : ap[i]? = some x) (hn : ¬ (m ≤ x ∧ x < (n : Int))) : ¬ Rises n ap := fun hr => by
  have hm : x ∈ ap := List.mem_of_getElem? hx
  have hb := hr.2 x hm
  have e : ap = ap.take i ++ (x :: ap.drop (i + 1)) := by
    obtain ⟨hi, rfl⟩ := List.getElem?_eq_some_iff.mp hx
    rw [← List.drop_eq_getElem_cons hi, List.take_append_drop]
  rcases h.is with h0 | h0
  · omega
  · have hp := hr.1
    rw [e] at hp
    have := (List.pairwise_append.mp hp).2.2 (m - 1) h0 x List.mem_cons_self
    omega
/-! ### a bar, as the program asks -/
def sel (ts : List Th) (bench : Int) (mk : Nat → Bool) : List Nat → List Th := fun l => (l.filter mk).map fun c => facing bench (ts.getD c th0)
def standB (l : List Th) : Bool := l.all fun t => decide (t.1 ≤ t.2.2)
def rchB (l : List Th) (L : Int) : Bool := (l.all fun t => decide (L ≤ t.1 + t.2.1) || decide (t.2.2 ≤ t.1)) && (decide (L = 0) || l.any fun t => decide (L ≤ t.1 + t.2.1))
theorem sel_mem {ts : List Th} {bench : Int} {mk : Nat → Bool} {n : Nat} {t : Th} : t ∈ sel ts bench mk (List.range n) ↔ ∃ c, c < n ∧ mk c = true ∧ t = facing bench (ts.getD c th0) := by
  unfold sel
  refine ⟨fun h => ?_, fun ⟨c, h1, h2, h3⟩ => List.mem_map.mpr ⟨c, List.mem_filter.mpr ⟨List.mem_range.mpr h1, h2⟩, h3.symm⟩⟩
  obtain ⟨c, hc, rfl⟩ := List.mem_map.mp h
  obtain ⟨h1, h2⟩ := List.mem_filter.mp hc
  exact ⟨c, List.mem_range.mp h1, h2, rfl⟩
theorem barOk_iff {ts : List Th} {bench : Int} {mk : Nat → Bool} {L : Int} (hL : 0 ≤ L) : (standB (sel ts bench mk (List.range ts.length)) && rchB (sel ts bench (fun c => !mk c) (List.range ts.length)) L) = true ↔ BarOk ts bench mk L := by
  have hg : ∀ {c : Nat} {t : Th}, ts[c]? = some t → c < ts.length ∧ ts.getD c th0 = t := fun {c t} h => by
    have hc := (List.getElem?_eq_some_iff.mp h).1
    exact ⟨hc, Option.some.inj ((getD_some hc).symm.trans h)⟩
  unfold standB rchB
  rw [Bool.and_eq_true, Bool.and_eq_true, List.all_eq_true, List.all_eq_true, Bool.or_eq_true, List.any_eq_true]
  refine ⟨fun ⟨h1, h2, h3⟩ => ⟨hL, fun c t hc hm => ?_, fun c t hc hm hl => ?_, ?_⟩, fun h => ⟨fun t ht => ?_, fun t ht => ?_, ?_⟩⟩
  · obtain ⟨hcl, e⟩ := hg hc
    have := of_decide_eq_true (h1 _ (sel_mem.mpr ⟨c, hcl, hm, rfl⟩))
    rw [facing_here, facing_there, e] at this
    exact this
  · obtain ⟨hcl, e⟩ := hg hc
    have := h2 _ (sel_mem.mpr ⟨c, hcl, by rw [hm]; rfl, rfl⟩)
    rw [facing_here, facing_there, facing_dry, e] at this
    rcases (Bool.or_eq_true _ _).mp this with h | h
    · have := of_decide_eq_true h
      omega
    · exact of_decide_eq_true h
  · rcases h3 with h | ⟨t, ht, h⟩
    · exact .inr (of_decide_eq_true h)
    · obtain ⟨c, h1, h2, rfl⟩ := sel_mem.mp ht
      have := of_decide_eq_true h
      rw [facing_here, facing_dry] at this
      exact .inl ⟨c, _, getD_some h1, by simpa using h2, this⟩
  · obtain ⟨c, h1, h2, rfl⟩ := sel_mem.mp ht
    refine decide_eq_true ?_
    rw [facing_here, facing_there]
    exact h.own c _ (getD_some h1) h2
  · obtain ⟨c, h1, h2, rfl⟩ := sel_mem.mp ht
    rw [facing_here, facing_there, facing_dry]
    by_cases hl : hereOf bench (ts.getD c th0) + (ts.getD c th0).2.1 < L
    · rw [decide_eq_true (h.oth c _ (getD_some h1) (by simpa using h2) hl), Bool.or_true]
    · rw [decide_eq_true (by omega), Bool.true_or]
  · rcases h.some_ with ⟨c, t, hc, hm, hl⟩ | h0
    · obtain ⟨hcl, e⟩ := hg hc
      refine .inr ⟨_, sel_mem.mpr ⟨c, hcl, by rw [hm]; rfl, rfl⟩, decide_eq_true ?_⟩
      rw [facing_here, facing_dry, e]
      exact hl
    · exact .inl (decide_eq_true h0)
theorem sel_worth (ts : List Th) (bench : Int) (mk : Nat → Bool) : ∀ l : List Nat, A (sel ts bench mk l) + B (sel ts bench (fun c => !mk c) l) = Wsum (facingAt ts bench mk l)
  | [] => rfl
  | c :: r => by
    have ih := sel_worth ts bench mk r
    show A (sel ts bench mk (c :: r)) + B (sel ts bench (fun c => !mk c) (c :: r)) = (if mk c then (facing bench (ts.getD c th0)).1 else (facing bench (ts.getD c th0)).2.2) + Wsum (facingAt ts bench mk r)
    unfold sel at ih ⊢
    cases e : mk c with
    | true =>
      rw [List.filter_cons_of_pos e, List.filter_cons_of_neg (by rw [e]; decide), List.map_cons, ← ih]
      show (facing bench (ts.getD c th0)).1 + _ + _ = (facing bench (ts.getD c th0)).1 + _
      omega
    | false =>
      rw [List.filter_cons_of_neg (by rw [e]; decide), List.filter_cons_of_pos (by rw [e]; decide), List.map_cons, ← ih]
      show _ + ((facing bench (ts.getD c th0)).2.2 + _) = (facing bench (ts.getD c th0)).2.2 + _
      omega
/-- Soonest, as it is told -/
noncomputable def soB (ts : List Th) (is : List Int) (bench : Int) (ap : List Int) (L : Int) : Bool := ordB ts.length is && decide (lawW ts bench ap L = W (path ts (is.map Int.toNat)))
theorem path_toNat (ts : List Th) (o : List Nat) : path ts ((asI o).map Int.toNat) = path ts o := by rw [asI_back]
theorem W_nonneg {ts : List Th} (hn : ∀ t ∈ ts, Nn t) (o : List Nat) : 0 ≤ W (path ts o) := (W_nn (path_nn hn o)).2.2.1
theorem soB_no {ts : List Th} {is : List Int} {bench : Int} {ap : List Int} {L : Int} (hn : ∀ t ∈ ts, Nn t) (h : ¬ BarW ts bench ap L) : soB ts is bench ap L = false := by
  unfold soB
  have := W_nonneg hn (is.map Int.toNat)
  rw [lawW_no h, decide_eq_false (by omega), Bool.and_false]
/-! ### the order that is done soonest -/
def fr (ts : List Th) (c : Nat) : Int := (ts.getD c th0).1
def dr (ts : List Th) (c : Nat) : Int := (ts.getD c th0).2.1
def se (ts : List Th) (c : Nat) : Int := (ts.getD c th0).2.2
def Rj (ts : List Th) (a b : Nat) : Prop := (fr ts a ≤ se ts a ∧ fr ts b ≤ se ts b ∧ fr ts a + dr ts a ≤ fr ts b + dr ts b) ∨ (fr ts a ≤ se ts a ∧ se ts b < fr ts b) ∨ (se ts a < fr ts a ∧ se ts b < fr ts b ∧ dr ts b + se ts b ≤ dr ts a + se ts a)
structure Jo (ts : List Th) (o : List Nat) : Prop where
  ord : Ord ts.length o
  pw : o.Pairwise (Rj ts)
theorem jo_of {ts : List Th} {e d : List Nat} (he : e.Perm ((List.range ts.length).filter fun c => decide (fr ts c ≤ se ts c))) (hd : d.Perm ((List.range ts.length).filter fun c => !decide (fr ts c ≤ se ts c)))
    (pe : e.Pairwise fun a b => fr ts a + dr ts a ≤ fr ts b + dr ts b) (pd : d.Pairwise fun a b => dr ts b + se ts b ≤ dr ts a + se ts a) : Jo ts (e ++ d) := by
  have me : ∀ c ∈ e, fr ts c ≤ se ts c := fun c hc => of_decide_eq_true (List.mem_filter.mp (he.mem_iff.mp hc)).2
  have md : ∀ c ∈ d, se ts c < fr ts c := fun c hc => by
    have := (List.mem_filter.mp (hd.mem_iff.mp hc)).2
    simp at this
    exact this
  refine ⟨(he.append hd).trans (List.filter_append_perm _ _), List.pairwise_append.mpr ⟨?_, ?_, fun a ha b hb => .inr (.inl ⟨me a ha, md b hb⟩)⟩⟩
  · exact List.Pairwise.imp_of_mem (fun {a b} ha hb h => .inl ⟨me a ha, me b hb, h⟩) pe
  · exact List.Pairwise.imp_of_mem (fun {a b} ha hb h => .inr (.inr ⟨md a ha, md b hb, h⟩)) pd
/-! ### where bench 2 waits last -/
theorem going_succ {ts : List Th} {o : List Nat} {i c : Nat} (h : o[i]? = some c) : going ts (o.take (i + 1)) = stp ts (going ts (o.take i)) c := fold_more h
theorem path_succ {ts : List Th} {o : List Nat} {i c : Nat} (h : o[i]? = some c) : path ts (o.take (i + 1)) = path ts (o.take i) ++ [ts.getD c th0] := by
  rw [take_snoc h]
  unfold path
  rw [List.map_append]
  rfl
theorem going_A (ts : List Th) (o : List Nat) : ∀ i, i ≤ o.length → (going ts (o.take i)).2.1 = A (path ts (o.take i))
  | 0, _ => by rw [List.take_zero]; rfl
  | i + 1, hi => by
    have h : o[i]? = some o[i] := List.getElem?_eq_getElem (by omega)
    rw [going_succ h, path_succ h, A_append, ← going_A ts o i (by omega)]
    show (going ts (o.take i)).2.1 + fr ts o[i] = (going ts (o.take i)).2.1 + (fr ts o[i] + 0)
    omega
/-- bench 2 begins just as the thing is dry -/
def waitsAt (ts : List Th) (o : List Nat) (i : Nat) : Prop := (going ts (o.take i)).2.2 ≤ (going ts (o.take i)).2.1 + fr ts (o.getD i 0) + dr ts (o.getD i 0)
instance (ts : List Th) (o : List Nat) (i : Nat) : Decidable (waitsAt ts o i) := inferInstanceAs (Decidable (_ ≤ _))
theorem getD_of {o : List Nat} {i c : Nat} (h : o[i]? = some c) : o.getD i 0 = c := by rw [List.getD_eq_getElem?_getD, h]; rfl
theorem last_run {ts : List Th} {o : List Nat} {i c : Nat} (h : o[i]? = some c) (hw : waitsAt ts o i) (hl : ∀ j, i < j → j < o.length → ¬ waitsAt ts o j) : ∀ k, i + 1 + k ≤ o.length →
    (going ts (o.take (i + 1 + k))).2.2 + B (path ts (o.take (i + 1))) = A (path ts (o.take i)) + fr ts c + dr ts c + se ts c + B (path ts (o.take (i + 1 + k)))
  | 0, hk => by
    have hi : i < o.length := (List.getElem?_eq_some_iff.mp h).1
    unfold waitsAt at hw
    rw [getD_of h] at hw
    rw [Nat.add_zero, going_succ h, ← going_A ts o i (by omega)]
    show max ((going ts (o.take i)).2.1 + fr ts c + dr ts c) (going ts (o.take i)).2.2 + se ts c + _ = _
    omega
  | k + 1, hk => by
    have hj : o[i + 1 + k]? = some o[i + 1 + k] := List.getElem?_eq_getElem (by omega)
    have ih := last_run h hw hl k (by omega)
    have hn := hl (i + 1 + k) (by omega) (by omega)
    unfold waitsAt at hn
    rw [getD_of hj] at hn
    rw [show i + 1 + (k + 1) = i + 1 + k + 1 by omega, going_succ hj, path_succ hj, B_append]
    show max ((going ts (o.take (i + 1 + k))).2.1 + fr ts o[i + 1 + k] + dr ts o[i + 1 + k]) (going ts (o.take (i + 1 + k))).2.2 + se ts o[i + 1 + k] + B (path ts (o.take (i + 1))) = _ + (B (path ts (o.take (i + 1 + k))) + (se ts o[i + 1 + k] + 0))
    omega
theorem split_at {o : List Nat} {i c : Nat} (h : o[i]? = some c) : o = o.take i ++ c :: o.drop (i + 1) := by
  obtain ⟨hi, rfl⟩ := List.getElem?_eq_some_iff.mp h
  rw [← List.drop_eq_getElem_cons hi, List.take_append_drop]
theorem path_append (ts : List Th) (p q : List Nat) : path ts (p ++ q) = path ts p ++ path ts q := by unfold path; rw [List.map_append]
theorem last_W {ts : List Th} (hn : ∀ t ∈ ts, Nn t) {o : List Nat} {i c : Nat} (h : o[i]? = some c) (hw : waitsAt ts o i) (hl : ∀ j, i < j → j < o.length → ¬ waitsAt ts o j) :
    W (path ts o) = A (path ts (o.take i)) + fr ts c + dr ts c + se ts c + B (path ts (o.drop (i + 1))) := by
  have hi : i < o.length := (List.getElem?_eq_some_iff.mp h).1
  have := last_run h hw hl (o.length - (i + 1)) (by omega)
  rw [show i + 1 + (o.length - (i + 1)) = o.length by omega, List.take_length, going_W hn] at this
  have hb : B (path ts o) = B (path ts (o.take (i + 1))) + B (path ts (o.drop (i + 1))) := by
    rw [← B_append, ← path_append, List.take_append_drop]
  omega
theorem waits_first {ts : List Th} (hn : ∀ t ∈ ts, Nn t) (o : List Nat) : waitsAt ts o 0 := by
  unfold waitsAt
  rw [List.take_zero]
  show (0 : Int) ≤ 0 + fr ts (o.getD 0 0) + dr ts (o.getD 0 0)
  have : Nn (ts.getD (o.getD 0 0) th0) := by
    rw [List.getD_eq_getElem?_getD (l := ts)]
    cases e : ts[o.getD 0 0]? with
    | none => exact ⟨Int.le_refl _, Int.le_refl _, Int.le_refl _⟩
    | some t => exact hn t (List.mem_of_getElem? e)
  have h1 : 0 ≤ fr ts (o.getD 0 0) := this.1
  have h2 : 0 ≤ dr ts (o.getD 0 0) := this.2.1
  omega
/-- when the i-th of the order begins -/
theorem fold_keep (ts : List Th) : ∀ (r : List Nat) (s : Sg) (c : Nat), c ∉ r → (r.foldl (stp ts) s).1[c]? = s.1[c]?
  | [], _, _, _ => rfl
  | d :: r, s, c, h => by
    have h1 : d ≠ c := fun e => h (e ▸ List.mem_cons_self)
    have h2 : c ∉ r := fun e => h (List.mem_cons_of_mem _ e)
    rw [List.foldl_cons, fold_keep ts r _ c h2]
    show (s.1.set d _)[c]? = s.1[c]?
    rw [List.getElem?_set_ne h1]
theorem going_at {ts : List Th} {o : List Nat} (nd : o.Nodup) {i c : Nat} (h : o[i]? = some c) (hc : c < ts.length) :
    (going ts o).1[c]? = some ((going ts (o.take i)).2.1, max ((going ts (o.take i)).2.1 + fr ts c + dr ts c) (going ts (o.take i)).2.2) := by
  have e := split_at h
  have hnot : c ∉ o.drop (i + 1) := by
    rw [e] at nd
    exact (List.nodup_cons.mp (List.nodup_append.mp nd).2.1).1
  have g : going ts o = (o.drop (i + 1)).foldl (stp ts) (going ts (o.take (i + 1))) := by
    unfold going
    rw [← List.foldl_append, List.take_append_drop]
  rw [g, fold_keep ts _ _ c hnot, going_succ h]
  show ((going ts (o.take i)).1.set c _)[c]? = _
  rw [List.getElem?_set_self (by rw [going_len]; exact hc)]
  rfl
theorem waits_iff {ts : List Th} {o : List Nat} {i c : Nat} (h : o[i]? = some c) : waitsAt ts o i ↔ max ((going ts (o.take i)).2.1 + fr ts c + dr ts c) (going ts (o.take i)).2.2 = (going ts (o.take i)).2.1 + fr ts c + dr ts c := by
  unfold waitsAt
  rw [getD_of h]
  omega
/-! ### the bar out of it -/
theorem strict_of {ap : List Int} (h : ap.Pairwise (· ≤ ·)) (nd : ap.Nodup) : ap.Pairwise (· < ·) := List.Pairwise.imp₂ (fun a b h1 h2 => by omega) h nd
theorem mk_of {ap : List Int} {p : List Nat} (h : ap.Perm (asI p)) (c : Nat) : mkOf ap c = true ↔ c ∈ p := by
  unfold mkOf
  rw [decide_eq_true_iff, h.mem_iff]
  unfold asI
  refine ⟨fun q => ?_, fun q => List.mem_map.mpr ⟨c, q, rfl⟩⟩
  obtain ⟨d, hd, e⟩ := List.mem_map.mp q
  obtain rfl : d = c := asI_inj e
  exact hd
theorem part_bar {n : Nat} {o p : List Nat} (ho : Ord n o) (hs : p.Sublist o) {ap : List Int} (hp : ap.Perm (asI p)) (hr : ap.Pairwise (· ≤ ·)) : ap.Pairwise (· < ·) ∧ ∀ x ∈ ap, 0 ≤ x ∧ x < (n : Int) := by
  refine ⟨strict_of hr (hp.nodup_iff.mpr (asI_nd.mpr (ho.nd.sublist hs))), fun x hx => ?_⟩
  obtain ⟨c, hc, rfl⟩ := List.mem_map.mp (hp.mem_iff.mp hx)
  have := ho.lt (hs.subset hc)
  show 0 ≤ (c : Int) ∧ (c : Int) < (n : Int)
  omega
theorem find_first {ts : List Th} (hn : ∀ t ∈ ts, Nn t) {o : List Nat} (J : Jo ts o) {i c : Nat} (h : o[i]? = some c) (hW : W (path ts o) = A (path ts (o.take i)) + fr ts c + dr ts c + se ts c + B (path ts (o.drop (i + 1)))) (hc : fr ts c ≤ se ts c)
    {ap : List Int} (hp : ap.Perm (asI (o.take i))) (hr : ap.Pairwise (· ≤ ·)) : BarW ts 1 ap (fr ts c + dr ts c) ∧ lawW ts 1 ap (fr ts c + dr ts c) = W (path ts o) := by
  have e := split_at h
  have ho := J.ord
  have pw := J.pw
  rw [e] at ho pw
  obtain ⟨p1, p2, p3⟩ := List.pairwise_append.mp pw
  obtain ⟨p4, p5⟩ := List.pairwise_cons.mp p2
  obtain ⟨b1, b2⟩ := bar_first hn ho (mk := mkOf ap) (mk_of hp) (fun x hx => by
    have := p3 x hx c List.mem_cons_self
    show fr ts x ≤ se ts x
    unfold Rj at this
    omega) (fun y hy => by
    have := p4 y hy
    show se ts y ≤ fr ts y ∨ fr ts c + dr ts c ≤ fr ts y + dr ts y
    unfold Rj at this
    omega)
  obtain ⟨r1, r2⟩ := part_bar J.ord (List.take_sublist i o) hp hr
  have hB : BarW ts 1 ap (fr ts c + dr ts c) := ⟨.inl rfl, r1, r2, b1⟩
  exact ⟨hB, by rw [lawW_yes hB, hW]; exact b2⟩
theorem find_second {ts : List Th} (hn : ∀ t ∈ ts, Nn t) {o : List Nat} (J : Jo ts o) {i c : Nat} (h : o[i]? = some c) (hW : W (path ts o) = A (path ts (o.take i)) + fr ts c + dr ts c + se ts c + B (path ts (o.drop (i + 1)))) (hc : se ts c < fr ts c)
    {ap : List Int} (hp : ap.Perm (asI (o.drop (i + 1)))) (hr : ap.Pairwise (· ≤ ·)) : BarW ts 2 ap (dr ts c + se ts c) ∧ lawW ts 2 ap (dr ts c + se ts c) = W (path ts o) := by
  have e := split_at h
  have ho := J.ord
  have pw := J.pw
  rw [e] at ho pw
  obtain ⟨p1, p2, p3⟩ := List.pairwise_append.mp pw
  obtain ⟨p4, p5⟩ := List.pairwise_cons.mp p2
  obtain ⟨b1, b2⟩ := bar_second hn ho (mk := mkOf ap) (mk_of hp) (fun x hx => by
    have := p4 x hx
    show se ts x ≤ fr ts x
    unfold Rj at this
    omega) (fun y hy => by
    have := p3 y hy c List.mem_cons_self
    show fr ts y ≤ se ts y ∨ se ts c + dr ts c ≤ se ts y + dr ts y
    unfold Rj at this
    omega)
  obtain ⟨r1, r2⟩ := part_bar J.ord (List.drop_sublist (i + 1) o) hp hr
  have el : dr ts c + se ts c = se ts c + dr ts c := Int.add_comm _ _
  rw [el]
  have hB : BarW ts 2 ap (se ts c + dr ts c) := ⟨.inr rfl, r1, r2, b1⟩
  exact ⟨hB, by rw [lawW_yes hB, hW]; exact b2⟩
theorem bar_none {bench : Int} (hb : bench = 1 ∨ bench = 2) : BarW [] bench [] 0 ∧ lawW [] bench [] 0 = 0 := by
  have hB : BarW [] bench [] 0 := ⟨hb, List.Pairwise.nil, (fun _ h => nomatch h), ⟨Int.le_refl _, fun c t h => by simp at h, fun c t h => by simp at h, .inr rfl⟩⟩
  exact ⟨hB, by rw [lawW_yes hB]; rfl⟩
/-! ### none sooner -/
theorem lawW_le {ts : List Th} (hn : ∀ t ∈ ts, Nn t) {bench : Int} {ap : List Int} {L : Int} {o : List Nat} (ho : Ord ts.length o) : lawW ts bench ap L ≤ W (path ts o) := by
  by_cases h : BarW ts bench ap L
  · rw [lawW_yes h]
    exact weak hn h.ok ho
  · rw [lawW_no h]
    have := W_nonneg hn o
    omega
theorem best {ts : List Th} (hn : ∀ t ∈ ts, Nn t) {bench : Int} {ap : List Int} {L : Int} {o o2 : List Nat} (h : lawW ts bench ap L = W (path ts o)) (ho : Ord ts.length o2) : W (path ts o) ≤ W (path ts o2) := h ▸ lawW_le hn ho
theorem turned_nn {ts : List Th} (hn : ∀ t ∈ ts, Nn t) : ∀ t ∈ ts.map turn, Nn t := fun t ht => by
  obtain ⟨s, hs, rfl⟩ := List.mem_map.mp ht
  exact (hn s hs).turn
theorem turned_best {ts : List Th} (hn : ∀ t ∈ ts, Nn t) {b1 b2 : Int} {a1 a2 : List Int} {L1 L2 : Int} {o p : List Nat} (ho : Ord ts.length o) (hp : Ord ts.length p) (h1 : lawW ts b1 a1 L1 = W (path ts o)) (h2 : lawW (ts.map turn) b2 a2 L2 = W (path (ts.map turn) p)) :
    W (path (ts.map turn) p) = W (path ts o) := by
  have hl : (ts.map turn).length = ts.length := List.length_map _
  have g1 := best (turned_nn hn) h2 (o2 := o.reverse) (by rw [hl]; exact ho.rev)
  rw [W_turned hn ho] at g1
  have g2 := best hn h1 hp.rev
  have g3 := W_turned hn hp.rev
  rw [List.reverse_reverse] at g3
  omega
end Bp
namespace Bp
open PySem L2 Evl
/-! ### data in the heap -/
def iv (t : Th) : List V := [.int t.1, .int t.2.1, .int t.2.2]
def tv {α : Type} (zs : List (Addr × α)) : List V := zs.map fun z => V.ref z.1
def ths {α : Type} (zs : List (Addr × α)) : List α := zs.map fun z => z.2
def ov (o : List Nat) : List V := o.map fun (c : Nat) => V.int (c : Int)
structure Ths (K : PySem.W.Frag) (H : Hp) (l : Addr) (zs : List (Addr × Th)) : Prop where
  ls : SqL K H l (tv zs)
  it : ∀ z ∈ zs, SqT K H z.1 (iv z.2)
  nn : ∀ z ∈ zs, Nn z.2
  le : zs.length ≤ 1000
theorem Ths.mono {K : PySem.W.Frag} {H H' : Hp} {l : Addr} {zs : List (Addr × Th)} (e : Ex H H') (h : Ths K H l zs) : Ths K H' l zs :=
  ⟨ex_l e h.ls, fun z hz => ex_t e (h.it z hz), h.nn, h.le⟩
theorem tv_len {α : Type} (zs : List (Addr × α)) : (tv zs).length = zs.length := List.length_map _
theorem ths_len {α : Type} (zs : List (Addr × α)) : (ths zs).length = zs.length := List.length_map _
theorem ov_len (o : List Nat) : (ov o).length = o.length := List.length_map _
theorem tv_get {α : Type} {zs : List (Addr × α)} {i : Nat} {x : V} (h : (tv zs)[i]? = some x) : ∃ z, zs[i]? = some z ∧ x = .ref z.1 := by
  unfold tv at h
  rw [List.getElem?_map] at h
  cases e : zs[i]? with
  | none => rw [e] at h; cases h
  | some z => rw [e] at h; exact ⟨z, rfl, (Option.some.inj h).symm⟩
theorem ov_get {o : List Nat} {i : Nat} {x : V} (h : (ov o)[i]? = some x) : ∃ c, o[i]? = some c ∧ x = .int (c : Int) := by
  unfold ov at h
  rw [List.getElem?_map] at h
  cases e : o[i]? with
  | none => rw [e] at h; cases h
  | some z => rw [e] at h; exact ⟨z, rfl, (Option.some.inj h).symm⟩
theorem ths_nn {K : PySem.W.Frag} {H : Hp} {l : Addr} {zs : List (Addr × Th)} (h : Ths K H l zs) : ∀ t ∈ ths zs, Nn t := by
  intro t ht
  obtain ⟨z, hz, rfl⟩ := List.mem_map.mp ht
  exact h.nn z hz
/-! ### small readings -/
theorem rc_isi {K : PySem.W.Frag} {H : Hp} {x : V} {n c : String} {b : Bool} (ty : ∀ H1, Ex H H1 → TyX K H1 x (.type n)) (k : kitB n c = some b) : RC (rIsi K) [x, .ty c] H (.bl b) :=
  fun H1 e Q q => ⟨x, .ty c, .type n, .type c, b, rfl, .ty c, ty H1 e, kit_ty k, q H1 (Ex.refl H1)⟩
theorem ty_int {K : PySem.W.Frag} {H : Hp} {i : Int} : ∀ H1, Ex H H1 → TyX K H1 (.int i) (.type "int") := fun _ _ => .base (.int i)
theorem ty_lst {K : PySem.W.Frag} {H : Hp} {a : Addr} {xs : List V} (h : SqL K H a xs) : ∀ H1, Ex H H1 → TyX K H1 (.ref a) (.type "list") := fun H1 e => by
  rcases h with (h | ⟨o, h⟩) | h
  · exact .base (.lst (e _ _ h))
  · exact .base (.frz (e _ _ h))
  · obtain ⟨o, its, n, h1, h2, _⟩ := h
    exact .kList h1 h2
theorem ty_tup {K : PySem.W.Frag} {H : Hp} {a : Addr} {xs : List V} (h : SqT K H a xs) : ∀ H1, Ex H H1 → TyX K H1 (.ref a) (.type "tuple") := fun H1 e => by
  rcases h with (h | ⟨o, h⟩) | h
  · exact .base (.tup (e _ _ h))
  · exact .fTuple (e _ _ h)
  · obtain ⟨o, its, n, h1, h2, _⟩ := h
    exact .kTuple h1 h2
theorem rc_lenT {K : PySem.W.Frag} {H : Hp} {a : Addr} {xs : List V} (h : SqT K H a xs) : RC (rLenS K) [.ref a] H (.int (xs.length : Int)) :=
  fun H1 e Q q => ⟨a, xs, rfl, .inr (ex_t e h), q H1 (Ex.refl H1)⟩
theorem rc_lenL {K : PySem.W.Frag} {H : Hp} {a : Addr} {xs : List V} (h : SqL K H a xs) : RC (rLenS K) [.ref a] H (.int (xs.length : Int)) :=
  fun H1 e Q q => ⟨a, xs, rfl, .inl (ex_l e h), q H1 (Ex.refl H1)⟩
theorem rc_all {K : PySem.W.Frag} {H : Hp} {a : Addr} {bs : List Bool} (h : SqL K H a (bs.map V.bl)) : RC (rAll K) [.ref a] H (.bl (bs.all id)) :=
  fun H1 e Q q => ⟨a, bs, rfl, ex_l e h, q H1 (Ex.refl H1)⟩
/-- a built-in of one new list -/
theorem ev_cbL {σ : L2.St} {H : Hp} {te : TE} {xs : List V} {z : V} {r : List V → Hp → VK → Prop} (h : EvL te σ H xs) (hr : ∀ p H1, Ex H H1 → H1 p = some (.lst xs) → RC r [.ref p] H1 z) : Ev (tCB r (tCons te tNil)) σ H z :=
  fun H1 e Q q => h H1 e _ fun p H2 _ e2 h2 => hr p H2 (e.trans e2) h2 H2 (Ex.refl H2) Q fun H3 e3 => q H3 (e2.trans e3)
theorem et_yes {σ : L2.St} {H : Hp} : EvT tYes σ H true := fun H1 _ _ q => q H1 (Ex.refl H1)
theorem el_lcT {K : PySem.W.Frag} {σ : L2.St} {H : Hp} {a : Addr} {xs : List V} {tl te : TE} {t : TT} {j : Nat} {vs : List Nat} (f : Nat → Bool) (v : Nat → V) (h : Ev tl σ H (.ref a)) (hx : SqT K H a xs) (hz : xs.length ≤ 40000) (hw : ∀ x, wipe ((wipe σ vs).set j (some x)) vs = wipe σ vs)
    (ht : ∀ (i : Nat) (x : V) H1, Ex H H1 → xs[i]? = some x → EvT t ((wipe σ vs).set j (some x)) H1 (f i)) (he : ∀ (i : Nat) (x : V) H1, Ex H H1 → xs[i]? = some x → f i = true → Ev te ((wipe σ vs).set j (some x)) H1 (v i)) :
    EvL (tLc (iTup K tl) (gName j) t te vs) σ H (given xs.length f v) := fun H0 e Q q => h H0 e _ fun H1 e1 => ⟨a, rfl, ⟨xs, ex_t (e.trans e1) hx⟩, fun Dl hD =>
  lc_tup (xs := xs) (Cw H1 f v Dl) ⟨hD, Ex.new hD, upd_same⟩ (fun i H' _ p => ex_t ((e.trans e1).trans p.2.1) hx) (fun i x H' hi p => ⟨hw x, cw_turn p (by have := (List.getElem?_eq_some_iff.mp hi).1; omega) (ht i x H1 (e.trans e1) hi) (fun hf => he i x H1 (e.trans e1) hi hf)⟩)
    (fun H' p => q Dl H' (fresh_back e1 p.1) (e1.trans p.2.1) p.2.2)⟩
theorem ev_chain {σ : L2.St} {H : Hp} {ta tb tc : TE} {r r' : R2} {x y z : V} {k1 k2 : Bool} (ha : Ev ta σ H x) (hb : Ev tb σ H y) (h1 : RV r x y H (.bl k1)) (hc : Ev tc σ H z) (h2 : RV r' y z H (.bl k2)) : Ev (tChain r r' ta tb tc) σ H (.bl (k1 && k2)) := fun H1 e Q q =>
  ha H1 e _ fun H2 e2 => hb H2 (e.trans e2) _ fun H3 e3 => h1 H3 ((e.trans e2).trans e3) _ fun H4 e4 => ⟨k1, rfl, by
    cases k1 with
    | true => exact iteT (hc H4 (((e.trans e2).trans e3).trans e4) _ fun H5 e5 => h2 H5 ((((e.trans e2).trans e3).trans e4).trans e5) Q fun H6 e6 => q H6 ((((e2.trans e3).trans e4).trans e5).trans e6))
    | false => exact iteF (q H4 ((e2.trans e3).trans e4))⟩
theorem flat1 {α : Type} (n : Nat) (x : α) : (List.replicate n [x]).flatten = List.replicate n x := by
  induction n with
  | zero => rfl
  | succ n ih => rw [List.replicate_succ, List.flatten_cons, ih]; rfl
theorem el_rep {σ : L2.St} {H : Hp} {tl tn : TE} {x : V} {n : Nat} (h : EvL tl σ H [x]) (hn : ∀ H1, Ex H H1 → Ev tn σ H1 (.int (n : Int))) (hz : n ≤ 1000) : EvL (tOp rRep tl tn) σ H (List.replicate n x) := fun H1 e Q q =>
  h H1 e _ fun p H2 hp e2 h2 => hn H2 (e.trans e2) H2 (Ex.refl H2) _ fun H3 e3 => ⟨p, (n : Int), [x], rfl, rfl, e3 p _ h2, by omega, by omega, by
    show 1 * ((n : Int)).toNat ≤ sizeLine
    rw [Int.toNat_natCast, Nat.one_mul]
    exact sz_of (by omega), fun r hr => q r _ (fresh_back (e2.trans e3) hr) ((e2.trans e3).trans (Ex.new hr)) (by rw [upd_same, Int.toNat_natCast, flat1])⟩
/-- for i, x in enumerate(xs) -/
theorem s_forE {K : PySem.W.Frag} {σ : L2.St} {H : Hp} {D : Ends} {tu : TS} {g : TG} {ta : TA} {a : Addr} {xs : List V} (h : EvA ta σ H [.ref a]) (hx : SqL K H a xs) (Pv : Nat → L2.St → Hp → Prop) (h0 : ∀ H1, Ex H H1 → Pv 0 σ H1) (hl : ∀ i σ' H', i ≤ xs.length → Pv i σ' H' → SqL K H' a xs)
    (hs : ∀ (i : Nat) x T σ' H', xs[i]? = some x → Pv i σ' H' → H' T = none → g (.ref T) σ' (upd H' T (.tup [.int (i : Int), x])) fun σ2 H2 => tu { D with nx := Pv (i + 1), ct := Pv (i + 1), bk := D.nx } σ2 H2) (hd : ∀ σ' H', Pv xs.length σ' H' → D.nx σ' H') : tFor (iEnum K ta) g tu D σ H :=
  h H (Ex.refl H) _ fun H1 e => ⟨a, xs, rfl, ex_l e hx, for_it walk_enum Pv (h0 H1 e) hl (fun i x σ' H' H2 hi p y => by
    obtain ⟨T, x1, x2, rfl, nT, rfl, e1, e2⟩ := y
    have e3 : x1 = .int (i : Int) := (Option.some.inj e1).symm
    subst e3
    exact hs i x2 T σ' H' e2 p nT) hd⟩
theorem for_it_seqE {K : PySem.W.Frag} {σ : L2.St} {H : Hp} {D : Ends} {tu tz : TS} {g : TG} {ta : TA} {a : Addr} {xs : List V} (h : EvA ta σ H [.ref a]) (hx : SqL K H a xs) (Pv : Nat → L2.St → Hp → Prop) (h0 : ∀ H1, Ex H H1 → Pv 0 σ H1) (hl : ∀ i σ' H', i ≤ xs.length → Pv i σ' H' → SqL K H' a xs)
    (hs : ∀ (i : Nat) x T σ' H', xs[i]? = some x → Pv i σ' H' → H' T = none → g (.ref T) σ' (upd H' T (.tup [.int (i : Int), x])) fun σ2 H2 => tu { D with nx := Pv (i + 1), ct := Pv (i + 1), bk := tz D } σ2 H2) (hd : ∀ σ' H', Pv xs.length σ' H' → tz D σ' H') : tSeq (tFor (iEnum K ta) g tu) tz D σ H :=
  s_forE (D := { D with nx := tz D }) h hx Pv h0 hl hs hd
/-- the list at q is of tuples, one a pair of ps -/
def Prs (H : Hp) (q : Addr) (bs : List (Addr × (Int × Int))) : Prop := H q = some (.lst (tv bs)) ∧ ∀ z ∈ bs, H z.1 = some (.tup [.int z.2.1, .int z.2.2])
/-! ### more readings -/
section
variable {K : PySem.W.Frag} {σ : L2.St} {H : Hp} {ta : TA} {tz : TS} {D : Ends}
theorem q_par {i j : Nat} {u v : V} (h : EvA ta σ H [u, v]) (k : ∀ H1, Ex H H1 → tz D ((σ.set i (some u)).set j (some v)) H1) : tSeq (tPar i j ta) tz D σ H :=
  h H (Ex.refl H) _ fun H1 e => ⟨u, v, rfl, k H1 e⟩
theorem s_par {i j : Nat} {u v : V} (h : EvA ta σ H [u, v]) (k : ∀ H1, Ex H H1 → D.nx ((σ.set i (some u)).set j (some v)) H1) : tPar i j ta D σ H :=
  h H (Ex.refl H) _ fun H1 e => ⟨u, v, rfl, k H1 e⟩
theorem q_par3 {i j l : Nat} {u v w : V} (h : EvA ta σ H [u, v, w]) (k : ∀ H1, Ex H H1 → tz D (((σ.set i (some u)).set j (some v)).set l (some w)) H1) : tSeq (tPar3 i j l ta) tz D σ H :=
  h H (Ex.refl H) _ fun H1 e => ⟨u, v, w, rfl, k H1 e⟩
theorem given_all (n : Nat) (v : Nat → V) : given n (fun _ => true) v = (List.range n).map v := by
  unfold given
  rw [List.filter_eq_self.mpr fun _ _ => rfl]
theorem range_map {α β : Type} (l : List α) (d : α) (f : α → β) : (List.range l.length).map (fun i => f (l.getD i d)) = l.map f := by
  refine List.ext_getElem (by simp) fun i h1 h2 => ?_
  have h3 : i < l.length := by simpa using h1
  simp [List.getD_eq_getElem?_getD, List.getElem?_eq_getElem h3]
theorem rc_sum {a : Addr} {ns : List Int} (h : SqL K H a (ns.map V.int)) : RC (rSum K) [.ref a] H (.int ns.sum) := fun H1 e Q q => ⟨a, ns, rfl, ex_l e h, q H1 (Ex.refl H1)⟩
end
def Bd (t : Th) : Prop := (0 ≤ t.1 ∧ t.1 < 10 ^ 59) ∧ (0 ≤ t.2.1 ∧ t.2.1 < 10 ^ 59) ∧ (0 ≤ t.2.2 ∧ t.2.2 < 10 ^ 59)
theorem Bd.nn {t : Th} (h : Bd t) : Nn t := ⟨h.1.1, h.2.1.1, h.2.2.1⟩
theorem things_at {H : Hp} {l : Addr} {zs : List (Addr × Th)} {c : Nat} (h : Ths K H l zs) (hc : c < zs.length) : ∃ z, zs[c]? = some z ∧ (ths zs).getD c th0 = z.2 ∧ (tv zs)[c]? = some (.ref z.1) := by
  refine ⟨zs[c], List.getElem?_eq_getElem hc, ?_, ?_⟩
  · unfold ths
    rw [List.getD_eq_getElem?_getD, List.getElem?_map, List.getElem?_eq_getElem hc]
    rfl
  · unfold tv
    rw [List.getElem?_map, List.getElem?_eq_getElem hc]
    rfl
/-- things[c][j] -/
theorem ev_part {σ : L2.St} {H : Hp} {l : Addr} {zs : List (Addr × Th)} {c j : Nat} {v : V} {tl tc tj : TE} (h : Ths K H l zs) (hc : c < zs.length) (hv : (iv ((ths zs).getD c th0))[j]? = some v) (h1 : Ev tl σ H (.ref l)) (h2 : Ev tc σ H (.int (c : Int))) (h3 : Ev tj σ H (.int (j : Int))) :
    Ev (tOp (rIxT K) (tOp (rIxL K) tl tc) tj) σ H v := by
  obtain ⟨z, e1, e2, e3⟩ := things_at h hc
  rw [e2] at hv
  exact ev_op (ev_op h1 h2 (rv_ixL h.ls (atI_nat e3))) h3 (rv_ixT (h.it z (List.mem_of_getElem? e1)) (atI_nat hv))
theorem set_tv {α : Type} (bs : List (Addr × α)) (c : Nat) (p : Addr) (x : α) : tv (bs.set c (p, x)) = (tv bs).set c (.ref p) := by
  unfold tv
  rw [List.map_set]
theorem set_ths {α : Type} (bs : List (Addr × α)) (c : Nat) (p : Addr) (x : α) : ths (bs.set c (p, x)) = (ths bs).set c x := by
  unfold ths
  rw [List.map_set]
theorem max_py (i j : Int) : (if j > i then j else i) = max i j := by
  rw [Int.max_def]
  by_cases h : j > i
  · rw [if_pos h, if_pos (by omega)]
  · rw [if_neg h]
    by_cases h2 : i ≤ j
    · rw [if_pos h2]; omega
    · rw [if_neg h2]
theorem stp_py {ts : List Th} {s : Sg} {c : Nat} {t : Th} (h : ts.getD c th0 = t) : stp ts s c = (s.1.set c (s.2.1, if s.2.2 > s.2.1 + t.1 + t.2.1 then s.2.2 else s.2.1 + t.1 + t.2.1), s.2.1 + t.1, (if s.2.2 > s.2.1 + t.1 + t.2.1 then s.2.2 else s.2.1 + t.1 + t.2.1) + t.2.2) := by
  subst h
  simp only [stp, max_py]
theorem path_at (ts : List Th) {o : List Nat} {i c : Nat} (h : o[i]? = some c) : (path ts o)[i]? = some (ts.getD c th0) := by
  unfold path
  rw [List.getElem?_map, h]
  rfl
theorem path_len (ts : List Th) (o : List Nat) : (path ts o).length = o.length := List.length_map _
theorem ldS_py (s : Int × Int × Int) (t : Th) : ldS s t = (s.1 + t.1, s.2.1 - t.2.2, if s.1 + t.1 + t.2.1 + s.2.1 > s.2.2 then s.1 + t.1 + t.2.1 + s.2.1 else s.2.2) := by simp only [ldS, max_py]
theorem rgc3 : ∀ n : Nat, n < 64 → n % 3 = 0 → Builtin.Range.small 0 (n : Int) 3 = true ∧ Builtin.Range.rangeSize 0 (n : Int) 3 = n / 3 := by decide +kernel
theorem cut63 {xs : List V} (h : xs.length ≤ 63) : cutV xs none (some 63) = xs := by
  unfold cutV
  rw [HT.sIx_none, show HT.sIx xs.length xs.length (some 63) = min 63 xs.length from HT.sIx_nat _ _ 63, List.drop_zero, Nat.min_eq_right h, Nat.sub_zero, List.take_length]
theorem cut3 {xs : List V} {k : Nat} (h : k + 3 ≤ xs.length) : cutV xs (some (k : Int)) (some ((k : Int) + 3)) = (xs.drop k).take 3 := by
  unfold cutV
  rw [HT.sIx_nat, show HT.sIx xs.length xs.length (some ((k : Int) + 3)) = min (k + 3) xs.length from HT.sIx_nat _ _ (k + 3), Nat.min_eq_left h, Nat.min_eq_left (show k ≤ xs.length by omega), Nat.add_sub_cancel_left]
theorem q_forR3 {σ : L2.St} {H : Hp} {ta : TA} {tz tu : TS} {D : Ends} {j : Nat} {lo hi c : Int} {n : Nat} (h : EvA ta σ H [.int lo, .int hi, .int c]) (hn : RgC lo hi c n) (Pv : Nat → L2.St → Hp → Prop) (h0 : ∀ H1, Ex H H1 → Pv 0 σ H1)
    (hs : ∀ (i : Nat) σ' H', i < n → Pv i σ' H' → tu { D with nx := Pv (i + 1), ct := Pv (i + 1), bk := tz D } (σ'.set j (some (.int (lo + (i : Int) * c)))) H') (hd : ∀ σ' H', Pv n σ' H' → tz D σ' H') : tSeq (tFor (iRng3 ta) (gName j) tu) tz D σ H :=
  h H (Ex.refl H) _ fun H1 e => ⟨lo, hi, c, n, rfl, hn, for_rangeC Pv (h0 H1 e) hs hd⟩
theorem part_ok {d m : Int} (h0 : 0 ≤ d) (h1 : d < 200) (h2 : 0 < m) (h3 : m ≤ 10 ^ 20) : 0 ≤ d * m / 9 ∧ d * m / 9 < 10 ^ 59 := by
  have a : 0 ≤ d * m := Int.mul_nonneg h0 (by omega)
  have b : d * m ≤ 200 * 10 ^ 20 := Int.le_trans (Int.mul_le_mul_of_nonneg_right (show d ≤ 200 by omega) (by omega)) (Int.mul_le_mul_of_nonneg_left h3 (by decide))
  omega
/-- the first operand a new tuple -/
theorem ev_opU1 {σ : L2.St} {H : Hp} {ta tb : TE} {r : R2} {y z : V} {xs : List V} (ha : EvU ta σ H xs) (hb : ∀ H1, Ex H H1 → Ev tb σ H1 y) (hr : ∀ p H1, H1 p = some (.tup xs) → Ex H H1 → RV r (.ref p) y H1 z) : Ev (tOp r ta tb) σ H z := fun H1 e Q q =>
  ha H1 e _ fun p H2 _ e2 hp => hb H2 (e.trans e2) H2 (Ex.refl H2) _ fun H3 e3 => hr p H3 (e3 p _ hp) ((e.trans e2).trans e3) H3 (Ex.refl H3) Q fun H4 e4 => q H4 ((e2.trans e3).trans e4)
theorem pick3 {a b c d : Int} (h0 : 0 ≤ d) (h1 : d < 3) (M : Int) (ha : 0 < a ∧ a ≤ M) (hb : 0 < b ∧ b ≤ M) (hc : 0 < c ∧ c ≤ M) : ∃ m : Int, atI [V.int a, V.int b, V.int c] d = some (V.int m) ∧ 0 < m ∧ m ≤ M := by
  obtain h | h | h : d = 0 ∨ d = 1 ∨ d = 2 := by omega
  · exact ⟨a, by rw [h]; exact atI_nat (j := 0) rfl, ha⟩
  · exact ⟨b, by rw [h]; exact atI_nat (j := 1) rfl, hb⟩
  · exact ⟨c, by rw [h]; exact atI_nat (j := 2) rfl, hc⟩
section
variable {P : Program} {w : World} {K : PySem.W.Frag} {mg : Str → Option Value} {base : Heap}
/-- the list of things made so far -/
structure Made (H0 H : Hp) (l : Addr) (zs : List (Addr × Th)) : Prop where
  ex : Ex H0 H
  ls : H l = some (.lst (tv zs))
  it : ∀ z ∈ zs, H z.1 = some (.tup (iv z.2)) ∧ Bd z.2
theorem Made.more {H0 H H1 : Hp} {l : Addr} {zs : List (Addr × Th)} (m : Made H0 H l zs) (e : Ex H H1) : Made H0 H1 l zs := ⟨m.ex.trans e, e _ _ m.ls, fun z hz => ⟨e _ _ (m.it z hz).1, (m.it z hz).2⟩⟩
/-- found.append((x, y, z)) -/
theorem s_made {σ : L2.St} {H0 H : Hp} {D : Ends} {l : Addr} {zs : List (Addr × Th)} {tl : TE} {ta : TA} {t : Th} (m : Made H0 H l zs) (nl : H0 l = none) (hz : zs.length < 1000) (h1 : Ev tl σ H (.ref l)) (h2 : EvA ta σ H (iv t)) (hb : Bd t) (k : ∀ p H1, Made H0 H1 l (zs ++ [(p, t)]) → D.nx σ H1) :
    tDrop (tBM K "list" rAppend tl (tCons (tTup ta) tNil)) D σ H := by
  refine s_appU m.ls h1 (eu_tup h2 (by show 3 ≤ 100000; decide)) (by rw [tv_len]; omega) fun p H1 np e hp => k p _ ⟨Ex.mut (m.ex.trans e) nl, ?_, fun z hz => ?_⟩
  · rw [upd_same]
    unfold tv
    rw [List.map_append]
    rfl
  · rcases List.mem_append.mp hz with hz | hz
    · obtain ⟨a, b⟩ := m.it z hz
      refine ⟨?_, b⟩
      rw [upd_ne (ne_of (e _ _ a) (e _ _ m.ls) (by intro z; cases z))]
      exact e _ _ a
    · obtain rfl := List.mem_singleton.mp hz
      refine ⟨?_, hb⟩
      rw [upd_ne (ne_of hp (e _ _ m.ls) (by intro z; cases z))]
      exact hp
end
/-! ### data for == -/
def dT (t : Th) : PyData := .tuple [.int t.1, .int t.2.1, .int t.2.2]
def dP (t : Int × Int) : PyData := .tuple [.int t.1, .int t.2]
def dI (c : Nat) : PyData := .int (c : Int)
theorem dpAll_tv {α : Type} {K : PySem.W.Frag} {H : Hp} {f : α → PyData} : ∀ {zs : List (Addr × α)}, (∀ z ∈ zs, Dp K H (.ref z.1) (f z.2)) → DpAll K H (tv zs) ((ths zs).map f)
  | [], _ => .nil
  | z :: r, h => .cons (h z List.mem_cons_self) (dpAll_tv fun y hy => h y (List.mem_cons_of_mem _ hy))
theorem dpAll_ov {K : PySem.W.Frag} {H : Hp} : ∀ o : List Nat, DpAll K H (ov o) (o.map dI)
  | [] => .nil
  | c :: r => .cons (.int _) (dpAll_ov r)
def DpX (K : PySem.W.Frag) (H : Hp) (v : V) (d : PyData) : Prop := ∀ H1, Ex H H1 → Dp K H1 v d
theorem DpX.mono {K : PySem.W.Frag} {H H' : Hp} {v : V} {d : PyData} (h : DpX K H v d) (e : Ex H H') : DpX K H' v d := fun H1 e1 => h H1 (e.trans e1)
theorem dpx_ths {K : PySem.W.Frag} {H : Hp} {l : Addr} {zs : List (Addr × Th)} (h : Ths K H l zs) : DpX K H (.ref l) (.list ((ths zs).map dT)) := fun H1 e =>
  .lst (ex_l e h.ls) (dpAll_tv fun z hz => .tup (ex_t e (h.it z hz)) (.cons (.int _) (.cons (.int _) (.cons (.int _) .nil))))
theorem dpx_prs {K : PySem.W.Frag} {H : Hp} {l : Addr} {bs : List (Addr × (Int × Int))} (h : Prs H l bs) : DpX K H (.ref l) (.list ((ths bs).map dP)) := fun H1 e =>
  .lst (sq_of (e _ _ h.1)) (dpAll_tv fun z hz => .tup (st_of (e _ _ (h.2 z hz))) (.cons (.int _) (.cons (.int _) .nil)))
theorem dpx_ov {K : PySem.W.Frag} {H : Hp} {b : Addr} {o : List Nat} (h : SqL K H b (ov o)) : DpX K H (.ref b) (.list (o.map dI)) := fun H1 e => .lst (ex_l e h) (dpAll_ov o)
theorem dpx_two {K : PySem.W.Frag} {H : Hp} {b : Addr} {x y : V} {d e : PyData} (h : H b = some (.lst [x, y])) (hx : DpX K H x d) (hy : DpX K H y e) : DpX K H (.ref b) (.list [d, e]) := fun H1 e1 =>
  .lst (sq_of (e1 _ _ h)) (.cons (hx H1 e1) (.cons (hy H1 e1) .nil))
theorem can_all {α : Type} {f : α → PyData} (hf : ∀ x, (f x).canLay0 = true) : ∀ l : List α, PyData.canLayAll0 (l.map f) = true
  | [] => rfl
  | x :: r => by
    rw [List.map_cons]
    unfold PyData.canLayAll0
    rw [hf x, can_all hf r]
    rfl
theorem dep_all {α : Type} {f : α → PyData} (hf : ∀ x, (f x).depth ≤ 1) : ∀ l : List α, PyData.depthAll (l.map f) ≤ 1
  | [] => by show 0 ≤ 1; decide
  | x :: r => by
    rw [List.map_cons]
    unfold PyData.depthAll
    have := dep_all hf r
    have := hf x
    omega
theorem canT (t : Th) : (dT t).canLay0 = true := rfl
theorem canP (t : Int × Int) : (dP t).canLay0 = true := rfl
theorem canI (c : Nat) : (dI c).canLay0 = true := rfl
theorem depT (t : Th) : (dT t).depth ≤ 1 := by show 0 + 1 ≤ 1; decide
theorem depP (t : Int × Int) : (dP t).depth ≤ 1 := by show 0 + 1 ≤ 1; decide
theorem depI (c : Nat) : (dI c).depth ≤ 1 := by show 0 ≤ 1; decide
theorem sh_map {α : Type} {f : α → PyData} (h1 : ∀ x, (f x).canLay0 = true) (h2 : ∀ x, (f x).depth ≤ 1) (l : List α) : SeqAt.shaped (.list (l.map f)) = true := by
  have a := can_all h1 l
  have b := dep_all h2 l
  show ((PyData.canLayAll0 (l.map f)) && decide (PyData.depthAll (l.map f) + 1 ≤ 64)) = true
  rw [a, decide_eq_true (by omega)]
  rfl
theorem sh_two (ts : List Th) (o : List Nat) : SeqAt.shaped (.list [.list (ts.map dT), .list (o.map dI)]) = true := by
  have a := can_all canT ts
  have b := dep_all depT ts
  have a2 := can_all canI o
  have b2 := dep_all depI o
  show ((PyData.canLayAll0 (ts.map dT) && (PyData.canLayAll0 (o.map dI) && true)) && decide (max (PyData.depthAll (ts.map dT) + 1) (max (PyData.depthAll (o.map dI) + 1) 0) + 1 ≤ 64)) = true
  rw [a, a2, decide_eq_true (by omega)]
  rfl
theorem eqv_self {d : PyData} (h : SeqAt.shaped d = true) : PyData.eqv d d = true := SeqAt.eqv_refl d (SeqAt.canLay_of_shaped h)
theorem rv_neD {K : PySem.W.Frag} {H : Hp} {x y : V} {d : PyData} (hx : DpX K H x d) (hy : DpX K H y d) (hs : SeqAt.shaped d = true) : RV (rNeD K) x y H (.bl false) := fun H1 e Q q =>
  ⟨d, d, hx H1 e, hy H1 e, hs, hs, by rw [eqv_self hs]; exact q H1 (Ex.refl H1)⟩
theorem rv_eqD {K : PySem.W.Frag} {H : Hp} {x y : V} {d : PyData} (hx : DpX K H x d) (hy : DpX K H y d) (hs : SeqAt.shaped d = true) : RV (rEqD K) x y H (.bl true) := fun H1 e Q q =>
  ⟨d, d, hx H1 e, hy H1 e, hs, hs, by rw [eqv_self hs]; exact q H1 (Ex.refl H1)⟩
/-! ### lists -/
theorem rg_ov (n : Nat) : rgV 0 (n : Int) = ov (List.range n) := by
  unfold rgV ov
  rw [show ((n : Int) - 0).toNat = n by omega]
  refine List.map_congr_left fun i _ => ?_
  rw [Int.zero_add]
theorem ov_rev (o : List Nat) : (ov o).reverse = ov o.reverse := by unfold ov; rw [List.map_reverse]
theorem cut_to {α : Type} (zs : List (Addr × α)) (k : Nat) (h : k ≤ zs.length) : cutV (tv zs) none (some (k : Int)) = tv (zs.take k) := by
  unfold cutV
  rw [HT.sIx_none, HT.sIx_nat, tv_len, Nat.min_eq_left h, List.drop_zero, Nat.sub_zero]
  unfold tv
  rw [List.map_take]
theorem cut_from {α : Type} (zs : List (Addr × α)) (k : Nat) (h : k + 1 ≤ zs.length) : cutV (tv zs) (some ((k : Int) + 1)) none = tv (zs.drop (k + 1)) := by
  unfold cutV
  rw [HT.sIx_none, show HT.sIx (tv zs).length 0 (some ((k : Int) + 1)) = min (k + 1) (tv zs).length from HT.sIx_nat _ _ (k + 1), tv_len, Nat.min_eq_left h]
  unfold tv
  rw [← List.map_drop]
  refine List.take_of_length_le ?_
  rw [List.length_map, List.length_drop]
  exact Nat.le_refl _
theorem tv_app {α : Type} (xs ys : List (Addr × α)) : tv xs ++ tv ys = tv (xs ++ ys) := by unfold tv; rw [List.map_append]
theorem Ths.less {K : PySem.W.Frag} {H : Hp} {l p : Addr} {zs : List (Addr × Th)} (h : Ths K H l zs) (k : Nat) (hk : k < zs.length) (hp : H p = some (.lst (tv (zs.take k ++ zs.drop (k + 1))))) : Ths K H p (zs.take k ++ zs.drop (k + 1)) := by
  have m : ∀ z ∈ zs.take k ++ zs.drop (k + 1), z ∈ zs := fun z hz => by
    rcases List.mem_append.mp hz with hz | hz
    · exact List.mem_of_mem_take hz
    · exact List.mem_of_mem_drop hz
  refine ⟨sq_of hp, fun z hz => h.it z (m z hz), fun z hz => h.nn z (m z hz), ?_⟩
  have := h.le
  rw [List.length_append, List.length_take, List.length_drop]
  omega
theorem given_less (o : List Nat) (k : Nat) : given o.length (fun i => !decide (V.int (o.getD i 0 : Int) = V.int (k : Int))) (fun i => .int (shift k (o.getD i 0) : Int)) = ov (less k o) := by
  unfold given ov less
  have h : o = (List.range o.length).map (fun i => o.getD i 0) := by
    have := range_map o 0 (fun c => c)
    rw [this]
    exact (List.map_id o).symm
  have h2 : (o.filter fun c => c != k) = ((List.range o.length).filter fun i => !decide (V.int (o.getD i 0 : Int) = V.int (k : Int))).map fun i => o.getD i 0 := by
    conv => lhs; rw [h]
    rw [List.filter_map]
    congr 1
    refine List.filter_congr fun i _ => ?_
    show (o.getD i 0 != k) = !decide (V.int (o.getD i 0 : Int) = V.int (k : Int))
    by_cases e : o.getD i 0 = k
    · rw [e]
      simp
    · have : ¬ V.int (o.getD i 0 : Int) = V.int (k : Int) := fun z => e (by have := V.int.inj z; omega)
      rw [decide_eq_false this]
      simpa using e
  rw [h2, List.map_map, List.map_map]
  rfl
theorem stp_law {ts : List Th} {s : Sg} {c : Nat} {t : Th} (h : ts.getD c th0 = t) : stp ts s c = (s.1.set c (s.2.1, if s.2.1 + t.1 + t.2.1 > s.2.2 then s.2.1 + t.1 + t.2.1 else s.2.2), s.2.1 + t.1, (if s.2.1 + t.1 + t.2.1 > s.2.2 then s.2.1 + t.1 + t.2.1 else s.2.2) + t.2.2) := by
  subst h
  simp only [stp, max_py, Int.max_comm]
theorem given_true (n : Nat) : given n (fun _ => true) (fun _ => V.bl true) = (List.replicate n true).map V.bl := by
  rw [given_all, List.map_replicate]
  refine List.ext_getElem (by simp) fun i h1 h2 => by simp
theorem all_true (n : Nat) : (List.replicate n true).all id = true := by
  induction n with
  | zero => rfl
  | succ n ih => rw [List.replicate_succ, List.all_cons, ih]; rfl
section
variable {K : PySem.W.Frag} {σ : L2.St} {H : Hp} {D : Ends} {tz : TS} {dvs : List V} {E : XK} {sp : Sp}
theorem Made.add {H0 H : Hp} {l p : Addr} {zs : List (Addr × Th)} {t : Th} (m : Made H0 H l zs) (nl : H0 l = none) (np : H p = none) (hb : Bd t) : Made H0 (upd (upd H p (.tup (iv t))) l (.lst (tv zs ++ [.ref p]))) l (zs ++ [(p, t)]) := by
  have hl : (upd H p (.tup (iv t))) l = some (.lst (tv zs)) := Ex.new np _ _ m.ls
  refine ⟨Ex.mut (m.ex.trans (Ex.new np)) nl, ?_, fun z hz => ?_⟩
  · rw [upd_same, show [V.ref p] = tv [(p, t)] from rfl, tv_app]
  · rcases List.mem_append.mp hz with hz | hz
    · obtain ⟨a, b⟩ := m.it z hz
      refine ⟨?_, b⟩
      rw [upd_ne (ne_of a m.ls (by intro z; cases z)), upd_ne (ne_of_none a np)]
      exact a
    · obtain rfl := List.mem_singleton.mp hz
      refine ⟨?_, hb⟩
      have h2 : (upd H p (.tup (iv t))) p = some (.tup (iv t)) := upd_same
      rw [upd_ne (ne_of h2 hl (by intro z; cases z)), upd_same]
/-- [(0, 0)] * n -/
theorem ev_zero {tn : TE} {n : Nat} {Q : VK} (hn : ∀ H1, Ex H H1 → Ev tn σ H1 (.int (n : Int))) (hz : n ≤ 1000) (k : ∀ (q : Addr) (bs : List (Addr × (Int × Int))) (H1 : Hp), Ex H H1 → H q = none → Prs H1 q bs → ths bs = List.replicate n (0, 0) → Q (.ref q) H1) :
    tOp rRep (tLst (tCons (tTup (tCons (tC (.int 0)) (tCons (tC (.int 0)) tNil))) tNil)) tn σ H Q := by
  refine ⟨(by show 2 ≤ sizeLine; decide), fun t nt => ⟨(by show 1 ≤ sizeLine; decide), fun p0 np0 => ?_⟩⟩
  have e1 : Ex H (upd (upd H t (.tup [.int 0, .int 0])) p0 (.lst [.ref t])) := (Ex.new nt).trans (Ex.new np0)
  refine hn _ e1 _ (Ex.refl _) _ fun H2 e2 => ?_
  have ht : (upd (upd H t (.tup [.int 0, .int 0])) p0 (.lst [.ref t])) t = some (.tup [.int 0, .int 0]) := by
    rw [upd_ne (fun z => by rw [z, upd_same] at np0; cases np0), upd_same]
  refine ⟨p0, (n : Int), [.ref t], rfl, rfl, e2 _ _ upd_same, by omega, by omega, ?_, fun q nq => ?_⟩
  · show 1 * (n : Int).toNat ≤ sizeLine
    rw [Int.toNat_natCast, Nat.one_mul]
    exact sz_of (by omega)
  refine k q (List.replicate n (t, (0, 0))) _ ((e1.trans e2).trans (Ex.new nq)) (fresh_back (e1.trans e2) nq) ⟨?_, fun z hz => ?_⟩ ?_
  · rw [upd_same, Int.toNat_natCast, flat1]
    unfold tv
    rw [List.map_replicate]
  · obtain rfl := List.eq_of_mem_replicate hz
    exact Ex.new nq _ _ (e2 _ _ ht)
  · unfold ths
    rw [List.map_replicate]
/-- xs[c] = (x, y) -/
theorem s_prs {H0 : Hp} {d : Addr} {bs : List (Addr × (Int × Int))} {c : Nat} {x y : Int} {ta : TA} {to ti : TE} (hP : Prs H d bs) (hc : c < bs.length) (e0 : Ex H0 H) (nd : H0 d = none) (h1 : EvA ta σ H [.int x, .int y]) (h2 : Ev to σ H (.ref d)) (h3 : Ev ti σ H (.int (c : Int)))
    (k : ∀ r H1, Ex H0 H1 → Prs H1 d (bs.set c (r, (x, y))) → D.nx σ H1) : tAsg (tTup ta) (gSub to ti rSetL) D σ H := by
  refine h1 H (Ex.refl H) _ fun H1 e1 => ⟨(by show 2 ≤ sizeLine; decide), fun r nr => ?_⟩
  refine h2 _ (e1.trans (Ex.new nr)) _ fun H2 e2 => h3 H2 ((e1.trans (Ex.new nr)).trans e2) _ fun H3 e3 => ?_
  have e13 := ((e1.trans (Ex.new (o := .tup [.int x, .int y]) nr)).trans e2).trans e3
  have hr : H3 r = some (.tup [.int x, .int y]) := e3 _ _ (e2 _ _ upd_same)
  refine ⟨d, tv bs, (c : Int), c, rfl, rfl, e13 _ _ hP.1, ixN_nat (by rw [tv_len]; exact hc), ?_⟩
  refine k r _ (Ex.mut (e0.trans e13) nd) ⟨?_, fun z hz => ?_⟩
  · rw [upd_same, set_tv]
  · rcases List.mem_or_eq_of_mem_set hz with hz | rfl
    · have h := e13 _ _ (hP.2 z hz)
      rw [upd_ne (ne_of h (e13 _ _ hP.1) (by intro z; cases z))]
      exact h
    · rw [upd_ne (ne_of hr (e13 _ _ hP.1) (by intro z; cases z))]
      exact hr
theorem q_prs {H0 : Hp} {d : Addr} {bs : List (Addr × (Int × Int))} {c : Nat} {x y : Int} {ta : TA} {to ti : TE} (hP : Prs H d bs) (hc : c < bs.length) (e0 : Ex H0 H) (nd : H0 d = none) (h1 : EvA ta σ H [.int x, .int y]) (h2 : Ev to σ H (.ref d)) (h3 : Ev ti σ H (.int (c : Int)))
    (k : ∀ r H1, Ex H0 H1 → Prs H1 d (bs.set c (r, (x, y))) → tz D σ H1) : tSeq (tAsg (tTup ta) (gSub to ti rSetL)) tz D σ H := s_prs (D := { D with nx := tz D }) hP hc e0 nd h1 h2 h3 k
/-- x = f(..), by the promise itself -/
theorem q_asgX {i : Nat} {ta : TA} {vs : List V} (h : EvA ta σ H vs) (k : ∀ H1, Ex H H1 → sp (vs ++ dvs) H1 (fun v H2 => tz D (σ.set i (some v)) H2) E) : tSeq (tAsg (tCall sp dvs E ta) (gName i)) tz D σ H := h H (Ex.refl H) _ k
theorem el_revL {te : TE} {b : Addr} {xs : List V} (h : Ev te σ H (.ref b)) (hs : SqL K H b xs) : EvL (tRevL K te) σ H xs.reverse := fun H1 e Q q =>
  h H1 e _ fun H2 e2 => ⟨b, xs, rfl, ex_l (e.trans e2) hs, fun p hp => q p _ (fresh_back e2 hp) (e2.trans (Ex.new hp)) upd_same⟩
theorem el_cat {tl tr : TE} {xs ys : List V} (h1 : EvL tl σ H xs) (h2 : EvL tr σ H ys) (hz : xs.length + ys.length ≤ 100000) : EvL (tOp rCat tl tr) σ H (xs ++ ys) := fun H1 e Q q =>
  h1 H1 e _ fun p H2 _ e2 hp => h2 H2 (e.trans e2) _ fun r H3 _ e3 hr => ⟨p, r, xs, ys, rfl, rfl, e3 _ _ hp, hr, sz_of hz, fun u hu => q u _ (fresh_back (e2.trans e3) hu) ((e2.trans e3).trans (Ex.new hu)) upd_same⟩
/-- f(x, a new list) -/
theorem ev_callVL {t1 t2 : TE} {x z : V} {xs : List V} (h1 : Ev t1 σ H x) (h2 : EvL t2 σ H xs) (hs : ∀ p H1, Ex H H1 → H1 p = some (.lst xs) → ∀ Q : VK, (∀ H2, Ex H1 H2 → Q z H2) → sp ([x, .ref p] ++ dvs) H1 Q E) : Ev (tCall sp dvs E (tCons t1 (tCons t2 tNil))) σ H z := fun H1 e Q q =>
  h1 H1 e _ fun H2 e2 => h2 H2 (e.trans e2) _ fun p H3 _ e3 hp => hs p H3 ((e.trans e2).trans e3) hp Q fun H4 e4 => q H4 ((e2.trans e3).trans e4)
/-- f(a new list, x) -/
theorem ev_callLV {t1 t2 : TE} {x z : V} {xs : List V} (h1 : EvL t1 σ H xs) (h2 : Ev t2 σ H x) (hs : ∀ p H1, Ex H H1 → H1 p = some (.lst xs) → ∀ Q : VK, (∀ H2, Ex H1 H2 → Q z H2) → sp ([.ref p, x] ++ dvs) H1 Q E) : Ev (tCall sp dvs E (tCons t1 (tCons t2 tNil))) σ H z := fun H1 e Q q =>
  h1 H1 e _ fun p H2 _ e2 hp => h2 H2 (e.trans e2) _ fun H3 e3 => hs p H3 ((e.trans e2).trans e3) (e3 _ _ hp) Q fun H4 e4 => q H4 ((e2.trans e3).trans e4)
end
section
variable {K : PySem.W.Frag} {σ : L2.St} {H : Hp} {D : Ends}
/-- for x, y in zip(xs, ys), two lists of one length -/
theorem s_forZ {tu : TS} {g : TG} {ta : TA} {a b : Addr} {xs ys : List V} (h : EvA ta σ H [.ref a, .ref b]) (hx : SqL K H a xs) (hy : SqL K H b ys) (hl : xs.length = ys.length) (Pv : Nat → L2.St → Hp → Prop) (h0 : ∀ H1, Ex H H1 → Pv 0 σ H1) (hq : ∀ i σ' H', i ≤ xs.length → Pv i σ' H' → SqL K H' a xs ∧ SqL K H' b ys)
    (hs : ∀ (i : Nat) x y T σ' H', xs[i]? = some x → ys[i]? = some y → Pv i σ' H' → H' T = none → g (.ref T) σ' (upd H' T (.tup [x, y])) fun σ2 H2 => tu { D with nx := Pv (i + 1), ct := Pv (i + 1), bk := D.nx } σ2 H2) (hd : ∀ σ' H', Pv xs.length σ' H' → D.nx σ' H') : tFor (iZip K ta) g tu D σ H :=
  h H (Ex.refl H) _ fun H1 e => ⟨a, b, xs, ys, rfl, ex_l e hx, ex_l e hy, for_it (walk_zip (n := xs.length) (by rw [hl, Nat.min_self])) Pv (h0 H1 e) hq (fun i x σ' H' H2 hi p y => by
    obtain ⟨T, x1, x2, rfl, nT, rfl, e1, e2⟩ := y
    exact hs i x1 x2 T σ' H' e1 e2 p nT) hd⟩
end
theorem q_forZ {K : PySem.W.Frag} {σ : L2.St} {H : Hp} {D : Ends} {tz : TS} {tu : TS} {g : TG} {ta : TA} {a b : Addr} {xs ys : List V} (h : EvA ta σ H [.ref a, .ref b]) (hx : SqL K H a xs) (hy : SqL K H b ys) (hl : xs.length = ys.length) (Pv : Nat → L2.St → Hp → Prop) (h0 : ∀ H1, Ex H H1 → Pv 0 σ H1) (hq : ∀ i σ' H', i ≤ xs.length → Pv i σ' H' → SqL K H' a xs ∧ SqL K H' b ys)
    (hs : ∀ (i : Nat) x y T σ' H', xs[i]? = some x → ys[i]? = some y → Pv i σ' H' → H' T = none → g (.ref T) σ' (upd H' T (.tup [x, y])) fun σ2 H2 => tu { D with nx := Pv (i + 1), ct := Pv (i + 1), bk := tz D } σ2 H2) (hd : ∀ σ' H', Pv xs.length σ' H' → tz D σ' H') : tSeq (tFor (iZip K ta) g tu) tz D σ H := s_forZ (D := { D with nx := tz D }) h hx hy hl Pv h0 hq hs hd
theorem here_at {bench : Int} (h : bench = 1 ∨ bench = 2) (t : Th) : atI (iv t) (2 * bench - 2) = some (.int (hereOf bench t)) := by
  rcases h with rfl | rfl
  · exact atI_nat (j := 0) rfl
  · exact atI_nat (j := 2) rfl
theorem there_at {bench : Int} (h : bench = 1 ∨ bench = 2) (t : Th) : atI (iv t) (4 - 2 * bench) = some (.int (thereOf bench t)) := by
  rcases h with rfl | rfl
  · exact atI_nat (j := 2) rfl
  · exact atI_nat (j := 0) rfl
def marks (n : Nat) (ap : List Int) : List Bool := (List.range n).map (mkOf ap)
theorem marks_nil (n : Nat) : marks n [] = List.replicate n false := by
  unfold marks
  refine List.ext_getElem (by simp) fun i h1 h2 => ?_
  rw [List.getElem_map, List.getElem_replicate]
  rfl
theorem marks_set {n : Nat} {ap : List Int} {j : Nat} (hj : j < n) : (marks n ap).set j true = marks n (ap ++ [(j : Int)]) := by
  unfold marks
  refine List.ext_getElem (by simp) fun i h1 h2 => ?_
  rw [List.getElem_set, List.getElem_map, List.getElem_map, List.getElem_range]
  unfold mkOf
  by_cases e : j = i
  · subst e
    rw [if_pos rfl, decide_eq_true (by simp)]
  · rw [if_neg e]
    have : ((i : Int) ∈ ap) ↔ ((i : Int) ∈ ap ++ [(j : Int)]) := by
      simp only [List.mem_append, List.mem_singleton]
      refine ⟨.inl, fun h => h.elim id fun q => ?_⟩
      omega
    exact decide_eq_decide.mpr this
theorem marks_len (n : Nat) (ap : List Int) : (marks n ap).length = n := by unfold marks; rw [List.length_map, List.length_range]
theorem marks_get {n : Nat} {ap : List Int} {i : Nat} {x : V} (h : ((marks n ap).map V.bl)[i]? = some x) : i < n ∧ x = .bl (mkOf ap i) := by
  rw [List.getElem?_map] at h
  unfold marks at h
  rw [List.getElem?_map] at h
  by_cases hi : i < n
  · rw [List.getElem?_range hi] at h
    exact ⟨hi, (Option.some.inj h).symm⟩
  · rw [List.getElem?_eq_none (by rw [List.length_range]; omega)] at h
    cases h
theorem eqv_ints : ∀ a b : List Int, PyData.eqvAll (a.map PyData.int) (b.map PyData.int) = decide (a = b)
  | [], [] => rfl
  | [], _ :: _ => rfl
  | _ :: _, [] => rfl
  | x :: a, y :: b => by
    have ih := eqv_ints a b
    rw [List.map_cons, List.map_cons, PyData.eqvAll, ih]
    by_cases h : x = y <;> by_cases h2 : a = b <;> simp [PyData.eqv, h, h2]
theorem dpAll_ints {K : PySem.W.Frag} {H : Hp} : ∀ is : List Int, DpAll K H (is.map V.int) (is.map PyData.int)
  | [] => .nil
  | c :: r => .cons (.int _) (dpAll_ints r)
theorem sh_ints (is : List Int) : SeqAt.shaped (.list (is.map PyData.int)) = true := sh_map (f := PyData.int) (fun _ => rfl) (fun _ => by show 0 ≤ 1; decide) is
theorem rg_ints (n : Nat) : rgV 0 (n : Int) = (asI (List.range n)).map V.int := by
  rw [rg_ov]
  unfold ov asI
  rw [List.map_map]
  rfl
theorem ov_ints (o : List Nat) : ov o = (asI o).map V.int := by
  unfold ov asI
  rw [List.map_map]
  rfl

/-! ### targets, comprehensions with any target -/
def EvG (g : TG) (x : V) (σ : L2.St) (H : Hp) (σ2 : L2.St) : Prop := ∀ H1, Ex H H1 → ∀ Q : L2.St → Hp → Prop, Q σ2 H1 → g x σ H1 Q
section
variable {K : PySem.W.Frag} {σ σ2 σ3 σ4 : L2.St} {H : Hp} {tl te : TE} {t : TT} {ta : TA} {g g1 g2 g3 : TG} {D : Ends} {tu tz : TS}
theorem eg_name {i : Nat} {x : V} : EvG (gName i) x σ H (σ.set i (some x)) := fun _ _ _ q => q
theorem eg_2 {a : Addr} {x y : V} (h : SqT K H a [x, y]) (h1 : EvG g1 x σ H σ2) (h2 : EvG g2 y σ2 H σ3) : EvG (gTup K 2 (gCons g1 (gCons g2 gNil))) (.ref a) σ H σ3 := fun H1 e Q q =>
  ⟨a, _, rfl, ex_t e h, rfl, _, _, rfl, h1 H1 e _ ⟨_, _, rfl, h2 H1 e _ ⟨rfl, q⟩⟩⟩
theorem eg_3 {a : Addr} {x y z : V} (h : SqT K H a [x, y, z]) (h1 : EvG g1 x σ H σ2) (h2 : EvG g2 y σ2 H σ3) (h3 : EvG g3 z σ3 H σ4) : EvG (gTup K 3 (gCons g1 (gCons g2 (gCons g3 gNil)))) (.ref a) σ H σ4 := fun H1 e Q q =>
  ⟨a, _, rfl, ex_t e h, rfl, _, _, rfl, h1 H1 e _ ⟨_, _, rfl, h2 H1 e _ ⟨_, _, rfl, h3 H1 e _ ⟨rfl, q⟩⟩⟩⟩
/-- over a list -/
theorem el_lcG {a : Addr} {xs : List V} {vs : List Nat} (f : Nat → Bool) (v : Nat → V) (s : Nat → L2.St) (h : Ev tl σ H (.ref a)) (hx : SqL K H a xs) (hz : xs.length ≤ 40000) (hg : ∀ (i : Nat) (x : V) H1, Ex H H1 → xs[i]? = some x → EvG g x (wipe σ vs) H1 (s i)) (hw : ∀ i, i < xs.length → wipe (s i) vs = wipe σ vs)
    (ht : ∀ (i : Nat) (x : V) H1, Ex H H1 → xs[i]? = some x → EvT t (s i) H1 (f i)) (he : ∀ (i : Nat) (x : V) H1, Ex H H1 → xs[i]? = some x → f i = true → Ev te (s i) H1 (v i)) : EvL (tLc (iList K tl) g t te vs) σ H (given xs.length f v) := fun H0 e Q q => h H0 e _ fun H1 e1 => ⟨a, rfl, ⟨xs, ex_l (e.trans e1) hx⟩, fun Dl hD =>
  lc_list (xs := xs) (Cw H1 f v Dl) ⟨hD, Ex.new hD, upd_same⟩ (fun i H' _ p => ex_l ((e.trans e1).trans p.2.1) hx) (fun i x H' hi p => hg i x H1 (e.trans e1) hi H' p.2.1 _ ⟨hw i (List.getElem?_eq_some_iff.mp hi).1, cw_turn p (by have := (List.getElem?_eq_some_iff.mp hi).1; omega) (ht i x H1 (e.trans e1) hi) (fun hf => he i x H1 (e.trans e1) hi hf)⟩)
    (fun H' p => q Dl H' (fresh_back e1 p.1) (e1.trans p.2.1) p.2.2)⟩
/-- over a new list -/
theorem el_lcNG {xs : List V} {vs : List Nat} (f : Nat → Bool) (v : Nat → V) (s : Nat → L2.St) (h : EvL tl σ H xs) (hz : xs.length ≤ 40000) (hg : ∀ (i : Nat) (x : V) H1, Ex H H1 → xs[i]? = some x → EvG g x (wipe σ vs) H1 (s i)) (hw : ∀ i, i < xs.length → wipe (s i) vs = wipe σ vs)
    (ht : ∀ (i : Nat) (x : V) H1, Ex H H1 → xs[i]? = some x → EvT t (s i) H1 (f i)) (he : ∀ (i : Nat) (x : V) H1, Ex H H1 → xs[i]? = some x → f i = true → Ev te (s i) H1 (v i)) : EvL (tLc (iList K tl) g t te vs) σ H (given xs.length f v) := fun H0 e Q q => h H0 e _ fun a H1 ha e1 hx => ⟨a, rfl, ⟨xs, sq_of hx⟩, fun Dl hD =>
  lc_list (xs := xs) (Cw H1 f v Dl) ⟨hD, Ex.new hD, upd_same⟩ (fun i H' _ p => sq_of (p.2.1 a _ hx)) (fun i x H' hi p => hg i x H1 (e.trans e1) hi H' p.2.1 _ ⟨hw i (List.getElem?_eq_some_iff.mp hi).1, cw_turn p (by have := (List.getElem?_eq_some_iff.mp hi).1; omega) (ht i x H1 (e.trans e1) hi) (fun hf => he i x H1 (e.trans e1) hi hf)⟩)
    (fun H' p => q Dl H' (fresh_back e1 p.1) (e1.trans p.2.1) p.2.2)⟩
/-- a word of a comprehension over what makes a tuple a turn -/
theorem cw_new {H H' : Hp} {f : Nat → Bool} {v : Nat → V} {Dl T : Addr} {o : HO} {i : Nat} (p : Cw H f v Dl i H') (nT : H' T = none) : Cw H f v Dl i (upd H' T o) := by
  obtain ⟨p1, p2, p3⟩ := p
  exact ⟨p1, p2.trans (Ex.new nT), Ex.new nT _ _ p3⟩
/-- over enumerate(xs) -/
theorem el_lcE {a : Addr} {xs : List V} {vs : List Nat} (f : Nat → Bool) (v : Nat → V) (s : Nat → L2.St) (h : EvA ta σ H [.ref a]) (hx : SqL K H a xs) (hz : xs.length ≤ 40000) (hg : ∀ (i : Nat) (x : V) T H1, Ex H H1 → xs[i]? = some x → H1 T = some (.tup [.int (i : Int), x]) → EvG g (.ref T) (wipe σ vs) H1 (s i)) (hw : ∀ i, i < xs.length → wipe (s i) vs = wipe σ vs)
    (ht : ∀ (i : Nat) (x : V) H1, Ex H H1 → xs[i]? = some x → EvT t (s i) H1 (f i)) (he : ∀ (i : Nat) (x : V) H1, Ex H H1 → xs[i]? = some x → f i = true → Ev te (s i) H1 (v i)) : EvL (tLc (iEnum K ta) g t te vs) σ H (given xs.length f v) := fun H0 e Q q => h H0 e _ fun H1 e1 => ⟨a, xs, rfl, ex_l (e.trans e1) hx, fun Dl hD =>
  lc_it walk_enum (Cw H1 f v Dl) ⟨hD, Ex.new hD, upd_same⟩ (fun i H' _ p => ex_l ((e.trans e1).trans p.2.1) hx) (fun i x H' H'' hi p y => by
    obtain ⟨T, x1, x2, rfl, nT, rfl, y1, y2⟩ := y
    obtain rfl : x1 = .int (i : Int) := (Option.some.inj y1).symm
    have p2 := cw_new (o := .tup [.int (i : Int), x2]) p nT
    refine hg i x2 T (upd H' T (.tup [.int (i : Int), x2])) ((e.trans e1).trans p2.2.1) y2 upd_same _ (Ex.refl _) _ ⟨hw i hi, cw_turn p2 (by omega) (ht i x2 H1 (e.trans e1) y2) (fun hf => he i x2 H1 (e.trans e1) y2 hf)⟩)
    (fun H' p => q Dl H' (fresh_back e1 p.1) (e1.trans p.2.1) p.2.2)⟩
/-! ### fields and methods -/
theorem ev_fld {a C dx : Addr} {fs : List (Str × V)} {f : Str} {v : V} (h : Ev te σ H (.ref a)) (ha : H a = some (.ins C dx fs)) (c : Cls K C) (n : NoAttr K C f) (l : fs.lookup f = some v) : Ev (tFld K te f) σ H v := fun H1 e Q q => h H1 e _ fun H2 e2 => ⟨a, C, dx, fs, v, rfl, e2 _ _ (e _ _ ha), c, n, l, q H2 e2⟩
theorem ev_meth {a C dx : Addr} {fs : List (Str × V)} {m : Str} {z : V} {sp : Sp} {dvs vs : List V} {E : XK} (h : Ev te σ H (.ref a)) (ha : H a = some (.ins C dx fs)) (l : fs.lookup m = none) (hv : EvA ta σ H vs) (hs : SpV sp (.ref a :: (vs ++ dvs)) H z) : Ev (tMeth C m sp dvs E te ta) σ H z := fun H1 e Q q =>
  h H1 e _ fun H2 e2 => ⟨a, dx, fs, rfl, e2 _ _ (e _ _ ha), l, hv H2 (e.trans e2) _ fun H3 e3 => hs H3 ((e.trans e2).trans e3) Q (fun H4 e4 => q H4 ((e2.trans e3).trans e4)) E⟩
/-- all but what stands at x -/
def Exb (x : Addr) (H H' : Hp) : Prop := ∀ b o, b ≠ x → H b = some o → H' b = some o
theorem Exb.of {x : Addr} {H H' : Hp} (e : Ex H H') : Exb x H H' := fun b o _ h => e b o h
theorem Exb.trans {x : Addr} {H H1 H2 : Hp} (a : Exb x H H1) (b : Exb x H1 H2) : Exb x H H2 := fun c o n h => b c o n (a c o n h)
theorem Exb.set {x : Addr} {H : Hp} {o : HO} : Exb x H (upd H x o) := fun b u n h => by
  rw [upd_ne n]
  exact h
/-- what is new to H may change behind it -/
theorem Exb.ex {x : Addr} {H H1 H2 : Hp} (e : Ex H H1) (b : Exb x H1 H2) (n : H x = none) : Ex H H2 := fun c o h => b c o (ne_of_none h n) (e c o h)
theorem ty_ins {a C dx : Addr} {fs : List (Str × V)} (h : H a = some (.ins C dx fs)) (cl : Cls K C) (ha : PySem.W.findIn K (.ref C) "__class__" = some (some (.builtin "object.__class__"))) (hn : PySem.W.specialIn K (.builtin "object.__class__") "__get__" = some (some (.builtin "getset_descriptor.__get__")))
    (htk : PySem.W.takesIn K (.builtin "object.__class__") = some true) (hm : PySem.W.mroIn K C (.type "object") = some true) : ∀ H1, Ex H H1 → TyX K H1 (.ref a) (.ref C) := fun H1 e => .base (.ins (e _ _ h) cl ha hn htk hm)
/-- isinstance with a class of the program's own -/
theorem rc_isC {x : V} {C : Addr} {t : Value} {b : Bool} (ty : ∀ H1, Ex H H1 → TyX K H1 x t) (k : PySem.W.kitOne K t (.ref C) = some b) : RC (rIsi K) [x, .ref C] H (.bl b) := fun H1 e Q q => ⟨x, .ref C, t, .ref C, b, rfl, .own C, ty H1 e, k, q H1 (Ex.refl H1)⟩
end

/-! ### things made anew -/
structure MadeT (H0 H : Hp) (l : Addr) (zs : List (Addr × Th)) : Prop where
  ex : Ex H0 H
  ls : H l = some (.lst (tv zs))
  it : ∀ z ∈ zs, H z.1 = some (.tup (iv z.2))
theorem MadeT.more {H0 H H1 : Hp} {l : Addr} {zs : List (Addr × Th)} (m : MadeT H0 H l zs) (e : Ex H H1) : MadeT H0 H1 l zs := ⟨m.ex.trans e, e _ _ m.ls, fun z hz => e _ _ (m.it z hz)⟩
theorem MadeT.add {H0 H : Hp} {l p : Addr} {zs : List (Addr × Th)} {t : Th} (m : MadeT H0 H l zs) (nl : H0 l = none) (np : H p = none) : MadeT H0 (upd (upd H p (.tup (iv t))) l (.lst (tv zs ++ [.ref p]))) l (zs ++ [(p, t)]) := by
  have hl : (upd H p (.tup (iv t))) l = some (.lst (tv zs)) := Ex.new np _ _ m.ls
  refine ⟨Ex.mut (m.ex.trans (Ex.new np)) nl, ?_, fun z hz => ?_⟩
  · rw [upd_same, show [V.ref p] = tv [(p, t)] from rfl, tv_app]
  · rcases List.mem_append.mp hz with hz | hz
    · have a := m.it z hz
      rw [upd_ne (ne_of a m.ls (by intro z; cases z)), upd_ne (ne_of_none a np)]
      exact a
    · obtain rfl := List.mem_singleton.mp hz
      have h2 : (upd H p (.tup (iv t))) p = some (.tup (iv t)) := upd_same
      rw [upd_ne (ne_of h2 hl (by intro z; cases z)), upd_same]
section
variable {K : PySem.W.Frag} {σ : L2.St} {H : Hp}
/-- [(z, y, x) for x, y, z in things] -/
theorem el_turn {tl : TE} {l : Addr} {zs : List (Addr × Th)} {i j k : Nat} {vs : List Nat} {Q : VK} (h : Ev tl σ H (.ref l)) (hT : Ths K H l zs) (hi : ∀ x y z : V, ((((wipe σ vs).set i (some x)).set j (some y)).set k (some z))[i]? = some (some x)) (hj : ∀ x y z : V, ((((wipe σ vs).set i (some x)).set j (some y)).set k (some z))[j]? = some (some y))
    (hk : ∀ x y z : V, ((((wipe σ vs).set i (some x)).set j (some y)).set k (some z))[k]? = some (some z)) (hw : ∀ x y z : V, wipe ((((wipe σ vs).set i (some x)).set j (some y)).set k (some z)) vs = wipe σ vs)
    (q : ∀ p ws H', H p = none → Ex H H' → Ths K H' p ws → H' p = some (.lst (tv ws)) → ths ws = (ths zs).map turn → Q (.ref p) H') : tLc (iList K tl) (gTup K 3 (gCons (gName i) (gCons (gName j) (gCons (gName k) gNil)))) tYes (tTup (tCons (tVar k) (tCons (tVar j) (tCons (tVar i) tNil)))) vs σ H Q := by
  refine h H (Ex.refl H) _ fun H2 e2 => ?_
  have hT2 := hT.mono e2
  refine ⟨l, rfl, ⟨_, hT2.ls⟩, fun t nt => lc_list (K := K) (a := l) (xs := tv zs) (fun i H' => ∃ ws : List (Addr × Th), MadeT H2 H' t ws ∧ ths ws = ((ths zs).take i).map turn) ⟨[], ⟨Ex.new nt, upd_same, (fun z hz => nomatch hz)⟩, rfl⟩ (fun i H' _ ⟨ws, m, _⟩ => ex_l m.ex hT2.ls) ?_ ?_⟩
  · rintro c x H' hi' ⟨ws, m, hw'⟩
    obtain ⟨z, hzi, rfl⟩ := tv_get hi'
    have hzm : z ∈ zs := List.mem_of_getElem? hzi
    have hwl : ws.length ≤ zs.length := by
      rw [← ths_len ws, hw', List.length_map, List.length_take, ths_len]
      exact Nat.min_le_right _ _
    refine eg_3 (H := H') (ex_t m.ex (hT2.it z hzm)) eg_name eg_name eg_name H' (Ex.refl H') _ ⟨hw _ _ _, ?_⟩
    refine et_yes (H := H') H' (Ex.refl H') _ fun H4 e4 => ?_
    have m := m.more e4
    refine iteT ?_
    refine ⟨_, hk _ _ _, _, hj _ _ _, _, hi _ _ _, (by show 3 ≤ sizeLine; decide), fun p np => ⟨tv ws, Ex.new np _ _ m.ls, ?_, ws ++ [(p, turn z.2)], m.add (t := turn z.2) nt np, ?_⟩⟩
    · rw [tv_len]
      have := hT.le
      exact sz_lt (by omega)
    · have e : (ths zs)[c]? = some z.2 := by
        unfold ths
        rw [List.getElem?_map, hzi]
        rfl
      rw [List.take_add_one, e, List.map_append, ← hw']
      unfold ths
      rw [List.map_append]
      rfl
  · rintro H3 ⟨ws, m, hw'⟩
    rw [tv_len, ← ths_len zs, List.take_length] at hw'
    have hwl : ws.length = zs.length := by rw [← ths_len ws, hw', List.length_map, ths_len]
    refine q t ws H3 (fresh_back e2 nt) (e2.trans m.ex) ⟨sq_of m.ls, fun z hz => st_of (m.it z hz), fun z hz => ?_, by have := hT.le; omega⟩ m.ls hw'
    have : z.2 ∈ ths ws := List.mem_map.mpr ⟨z, hz, rfl⟩
    rw [hw'] at this
    obtain ⟨y, hy, e⟩ := List.mem_map.mp this
    rw [← e]
    exact (ths_nn hT y hy).turn
end
/-- some of the things, in their order -/
def subs (zs : List (Addr × Th)) (f : Nat → Bool) : List (Addr × Th) := ((List.range zs.length).filter f).map fun i => zs.getD i (0, th0)
theorem given_subs (zs : List (Addr × Th)) (f : Nat → Bool) : given zs.length f (fun i => .ref (zs.getD i (0, th0)).1) = tv (subs zs f) := by
  unfold given subs tv
  rw [List.map_map]
  rfl
theorem subs_mem {zs : List (Addr × Th)} {f : Nat → Bool} {z : Addr × Th} (h : z ∈ subs zs f) : z ∈ zs := by
  obtain ⟨i, hi, rfl⟩ := List.mem_map.mp h
  have := List.mem_range.mp (List.mem_filter.mp hi).1
  rw [List.getD_eq_getElem?_getD, List.getElem?_eq_getElem this]
  exact List.getElem_mem this
theorem subs_len (zs : List (Addr × Th)) (f : Nat → Bool) : (subs zs f).length ≤ zs.length := by
  unfold subs
  rw [List.length_map]
  have h := List.length_filter_le f (List.range zs.length)
  rw [List.length_range] at h
  exact h
theorem Ths.subs {K : PySem.W.Frag} {H : Hp} {l p : Addr} {zs : List (Addr × Th)} {f : Nat → Bool} (h : Ths K H l zs) (hp : H p = some (.lst (tv (Bp.subs zs f)))) : Ths K H p (Bp.subs zs f) :=
  ⟨sq_of hp, fun z hz => h.it z (subs_mem hz), fun z hz => h.nn z (subs_mem hz), Nat.le_trans (subs_len zs f) h.le⟩
theorem ths_subs {ts : List Th} {bench : Int} {zs : List (Addr × Th)} (h : ths zs = ts.map (facing bench)) (f : Nat → Bool) : ths (subs zs f) = sel ts bench f (List.range ts.length) := by
  have hl : zs.length = ts.length := by rw [← ths_len zs, h, List.length_map]
  unfold subs sel
  rw [hl]
  unfold ths at h ⊢
  rw [List.map_map]
  refine List.map_congr_left fun i hi => ?_
  have hi := List.mem_range.mp (List.mem_filter.mp hi).1
  show (zs.getD i (0, th0)).2 = facing bench (ts.getD i th0)
  have e : (zs.map fun z => z.2)[i]? = (ts.map (facing bench))[i]? := by rw [h]
  rw [List.getElem?_map, List.getElem?_map, List.getElem?_eq_getElem hi, List.getElem?_eq_getElem (by omega)] at e
  rw [List.getD_eq_getElem?_getD, List.getD_eq_getElem?_getD, List.getElem?_eq_getElem hi, List.getElem?_eq_getElem (by omega : i < zs.length)]
  exact Option.some.inj e
theorem given_bools {α : Type} (l : List α) (d : α) (f : α → Bool) : given l.length (fun _ => true) (fun i => .bl (f (l.getD i d))) = (l.map f).map V.bl := by
  rw [given_all, range_map l d (fun x => V.bl (f x)), List.map_map]
  rfl
theorem given_ints {α : Type} (l : List α) (d : α) (f : α → Int) : given l.length (fun _ => true) (fun i => .int (f (l.getD i d))) = (l.map f).map V.int := by
  rw [given_all, range_map l d (fun x => V.int (f x)), List.map_map]
  rfl
theorem tv_at {zs : List (Addr × Th)} {i : Nat} {x : V} (h : (tv zs)[i]? = some x) : i < zs.length ∧ x = .ref (zs.getD i (0, th0)).1 ∧ zs.getD i (0, th0) ∈ zs := by
  obtain ⟨z, hz, rfl⟩ := tv_get h
  have e : zs.getD i (0, th0) = z := by rw [List.getD_eq_getElem?_getD, hz]; rfl
  refine ⟨(List.getElem?_eq_some_iff.mp hz).1, by rw [e], ?_⟩
  rw [e]
  exact List.mem_of_getElem? hz
theorem ints_at {is : List Int} {i : Nat} {x : V} (h : (is.map V.int)[i]? = some x) : ∃ y, is[i]? = some y ∧ x = .int y := by
  rw [List.getElem?_map] at h
  cases hq : is[i]? with
  | none => rw [hq] at h; cases h
  | some y => rw [hq] at h; exact ⟨y, rfl, (Option.some.inj h).symm⟩
theorem A_sum (l : List Th) : A l = (l.map fun t => t.1).sum := by
  induction l with
  | nil => rfl
  | cons t r ih => rw [List.map_cons, List.sum_cons, ← ih]; rfl
/-- a bar, yes or no -/
noncomputable def barB (ts : List Th) (bench : Int) (ap : List Int) (L : Int) : Bool := @decide (BarW ts bench ap L) (Classical.propDecidable _)
theorem barB_iff {ts : List Th} {bench : Int} {ap : List Int} {L : Int} : barB ts bench ap L = true ↔ BarW ts bench ap L := by unfold barB; exact @decide_eq_true_iff _ (Classical.propDecidable _)
theorem barB_yes {ts : List Th} {bench : Int} {ap : List Int} {L : Int} (h : BarW ts bench ap L) : barB ts bench ap L = true := barB_iff.mpr h
theorem barB_no {ts : List Th} {bench : Int} {ap : List Int} {L : Int} (h : ¬ BarW ts bench ap L) : barB ts bench ap L = false := by
  cases e : barB ts bench ap L with
  | false => rfl
  | true => exact absurd (barB_iff.mp e) h
/-- isinstance of two classes of the program's own -/
theorem kit_one {K : PySem.W.Frag} {A B : Addr} {b : Bool} (h1 : PySem.W.subIn K (.ref A) (.ref B) = some b) (h2 : PySem.W.isClsIn K B = true) (h3 : PySem.W.typeIn K (.ref B) = some (.type "type")) (h4 : PySem.W.subIn K (.ref A) (.ref A) = some true) : PySem.W.kitOne K (.ref A) (.ref B) = some b := by
  unfold PySem.W.kitOne
  by_cases e : (Value.ref A == Value.ref B) = true
  · rw [if_pos e]
    have e2 : Value.ref A = Value.ref B := eq_of_beq e
    rw [e2, ← e2, h4] at h1
    exact h1
  · rw [if_neg e]
    have h5 : (PySem.W.clsIn K B).isSome = true := h2
    have h6 : ((PySem.W.clsIn K B).isSome && PySem.W.typeIn K (.ref B) == some (.type "type")) = true := by
      rw [h5, h3]
      decide +kernel
    show (if ((PySem.W.clsIn K B).isSome && PySem.W.typeIn K (.ref B) == some (.type "type")) = true then PySem.W.subIn K (.ref A) (.ref B) else none) = some b
    rw [if_pos h6]
    exact h1
end Bp
namespace Bp
open PySem L2 Evl
/-! ### what the laws of answers share -/
theorem Ths.some {K : PySem.W.Frag} {H : Hp} {l p : Addr} {zs us : List (Addr × Th)} (h : Ths K H l zs) (hp : SqL K H p (tv us)) (hm : ∀ u ∈ us, u ∈ zs) (hl : us.length ≤ 1000) : Ths K H p us := ⟨hp, fun z hz => h.it z (hm z hz), fun z hz => h.nn z (hm z hz), hl⟩
theorem tv_rev (zs : List (Addr × Th)) : (tv zs).reverse = tv zs.reverse := by unfold tv; rw [List.map_reverse]
theorem cut_drop (xs : List V) (k : Nat) : cutV xs (some (k : Int)) none = xs.drop k := by
  unfold cutV
  rw [HT.sIx_none, HT.sIx_nat, List.take_of_length_le (by rw [List.length_drop]; exact Nat.le_refl _)]
  rcases Nat.le_total k xs.length with h | h
  · rw [Nat.min_eq_left h]
  · rw [Nat.min_eq_right h, List.drop_of_length_le (Nat.le_refl _), List.drop_of_length_le h]
theorem cut_take (xs : List V) (k : Nat) : cutV xs none (some (k : Int)) = xs.take k := by
  unfold cutV
  rw [HT.sIx_none, HT.sIx_nat, List.drop_zero, Nat.sub_zero]
  rcases Nat.le_total k xs.length with h | h
  · rw [Nat.min_eq_left h]
  · rw [Nat.min_eq_right h, List.take_of_length_le (Nat.le_refl _), List.take_of_length_le h]
theorem tv_drop (zs : List (Addr × Th)) (k : Nat) : (tv zs).drop k = tv (zs.drop k) := by unfold tv; rw [List.map_drop]
theorem tv_take (zs : List (Addr × Th)) (k : Nat) : (tv zs).take k = tv (zs.take k) := by unfold tv; rw [List.map_take]
theorem rv_eqB {K : PySem.W.Frag} {H : Hp} {x y : V} {d e : PyData} (hx : DpX K H x d) (hy : DpX K H y e) (hs : SeqAt.shaped d = true) (hs2 : SeqAt.shaped e = true) : RV (rEqD K) x y H (.bl (PyData.eqv d e)) := fun H1 e1 Q q => ⟨d, e, hx H1 e1, hy H1 e1, hs, hs2, q H1 (Ex.refl H1)⟩
def rIsNotB : R2 := fun x y H Q => ∃ a b, x = .bl a ∧ y = .bl b ∧ Q (.bl (!decide (a = b))) H
theorem rv_isnB {H : Hp} {a b : Bool} : RV rIsNotB (.bl a) (.bl b) H (.bl (!decide (a = b))) := fun H1 _ Q q => ⟨a, b, rfl, rfl, q H1 (Ex.refl H1)⟩
theorem ev_callLX {σ : L2.St} {H : Hp} {sp1 sp2 : Sp} {dvs dvs2 vs2 xs : List V} {E E2 : XK} {t1 : TE} {ta2 : TA} {z : V} (h1 : EvL t1 σ H xs) (h2 : EvA ta2 σ H vs2) (k : ∀ p H1, Ex H H1 → H1 p = some (.lst xs) → ∀ Q : VK, (∀ H2, Ex H1 H2 → Q z H2) → sp2 (vs2 ++ dvs2) H1 (fun v H2 => sp1 ([.ref p, v] ++ dvs) H2 Q E) E2) :
    Ev (tCall sp1 dvs E (tCons t1 (tCons (tCall sp2 dvs2 E2 ta2) tNil))) σ H z := fun H1 e Q q =>
  h1 H1 e _ fun p H2 _ e2 hp => h2 H2 (e.trans e2) _ fun H3 e3 => k p H3 ((e.trans e2).trans e3) (e3 _ _ hp) Q fun H4 e4 => q H4 ((e2.trans e3).trans e4)
/-- f(a new list, x, g(..)) -/
theorem ev_callLVX {σ : L2.St} {H : Hp} {sp1 sp2 : Sp} {dvs dvs2 vs2 xs : List V} {E E2 : XK} {t1 tm : TE} {ta2 : TA} {y z : V} (h1 : EvL t1 σ H xs) (hm : Ev tm σ H y) (h2 : EvA ta2 σ H vs2) (k : ∀ p H1, Ex H H1 → H1 p = some (.lst xs) → ∀ Q : VK, (∀ H2, Ex H1 H2 → Q z H2) → sp2 (vs2 ++ dvs2) H1 (fun v H2 => sp1 ([.ref p, y, v] ++ dvs) H2 Q E) E2) :
    Ev (tCall sp1 dvs E (tCons t1 (tCons tm (tCons (tCall sp2 dvs2 E2 ta2) tNil)))) σ H z := fun H1 e Q q =>
  h1 H1 e _ fun p H2 _ e2 hp => hm H2 (e.trans e2) _ fun H2' e2' => h2 H2' ((e.trans e2).trans e2') _ fun H3 e3 => k p H3 (((e.trans e2).trans e2').trans e3) ((e2'.trans e3) _ _ hp) Q fun H4 e4 => q H4 (((e2.trans e2').trans e3).trans e4)
/-- f(x, g(..).a) and its like: the last argument by a continuation -/
theorem ev_callVC {σ : L2.St} {H : Hp} {sp1 : Sp} {dvs : List V} {E : XK} {t1 t2 : TE} {x z : V} (h1 : Ev t1 σ H x) (k : ∀ H1, Ex H H1 → ∀ Q : VK, (∀ H2, Ex H1 H2 → Q z H2) → t2 σ H1 (fun v H2 => sp1 ([x, v] ++ dvs) H2 Q E)) : Ev (tCall sp1 dvs E (tCons t1 (tCons t2 tNil))) σ H z := fun H1 e Q q =>
  h1 H1 e _ fun H2 e2 => k H2 (e.trans e2) Q fun H3 e3 => q H3 (e2.trans e3)
theorem q_turn {K : PySem.W.Frag} {σ : L2.St} {H : Hp} {D : Ends} {tz : TS} {tl : TE} {l : Addr} {zs : List (Addr × Th)} {i j k m : Nat} {vs : List Nat} (h : Ev tl σ H (.ref l)) (hT : Ths K H l zs) (hi : ∀ x y z : V, ((((wipe σ vs).set i (some x)).set j (some y)).set k (some z))[i]? = some (some x)) (hj : ∀ x y z : V, ((((wipe σ vs).set i (some x)).set j (some y)).set k (some z))[j]? = some (some y))
    (hk : ∀ x y z : V, ((((wipe σ vs).set i (some x)).set j (some y)).set k (some z))[k]? = some (some z)) (hw : ∀ x y z : V, wipe ((((wipe σ vs).set i (some x)).set j (some y)).set k (some z)) vs = wipe σ vs)
    (q : ∀ p ws H', H p = none → Ex H H' → Ths K H' p ws → H' p = some (.lst (tv ws)) → ths ws = (ths zs).map turn → tz D (σ.set m (some (.ref p))) H') : tSeq (tAsg (tLc (iList K tl) (gTup K 3 (gCons (gName i) (gCons (gName j) (gCons (gName k) gNil)))) tYes (tTup (tCons (tVar k) (tCons (tVar j) (tCons (tVar i) tNil)))) vs) (gName m)) tz D σ H :=
  el_turn (Q := fun v H1 => gName m v σ H1 (fun σ2 H2 => tz D σ2 H2)) h hT hi hj hk hw q
/-- for x in (a, b, ..), the tuple made on the way -/
theorem s_forU {K : PySem.W.Frag} {σ : L2.St} {H : Hp} {D : Ends} {tu : TS} {g : TG} {ta : TA} {xs : List V} (h : EvA ta σ H xs) (hz : xs.length ≤ 100000) (Pv : Addr → Nat → L2.St → Hp → Prop) (h0 : ∀ tp H1, H tp = none → Ex H H1 → H1 tp = some (.tup xs) → Pv tp 0 σ H1) (hl : ∀ tp i σ' H', Pv tp i σ' H' → SqT K H' tp xs)
    (hs : ∀ tp i x σ' H', xs[i]? = some x → Pv tp i σ' H' → g x σ' H' fun σ2 H2 => tu { D with nx := Pv tp (i + 1), ct := Pv tp (i + 1), bk := D.nx } σ2 H2) (hd : ∀ tp σ' H', Pv tp xs.length σ' H' → D.nx σ' H') : tFor (iTup K (tTup ta)) g tu D σ H :=
  h H (Ex.refl H) _ fun H1 e1 => ⟨sz_of hz, fun tp ntp => ⟨tp, rfl, ⟨_, st_of upd_same⟩, for_tup (Pv tp) (h0 tp _ (fresh_back e1 ntp) (e1.trans (Ex.new ntp)) upd_same) (fun i σ' H' _ p => hl tp i σ' H' p) (hs tp) (hd tp)⟩⟩
theorem q_forU {K : PySem.W.Frag} {σ : L2.St} {H : Hp} {D : Ends} {tu tz : TS} {g : TG} {ta : TA} {xs : List V} (h : EvA ta σ H xs) (hz : xs.length ≤ 100000) (Pv : Addr → Nat → L2.St → Hp → Prop) (h0 : ∀ tp H1, H tp = none → Ex H H1 → H1 tp = some (.tup xs) → Pv tp 0 σ H1) (hl : ∀ tp i σ' H', Pv tp i σ' H' → SqT K H' tp xs)
    (hs : ∀ tp i x σ' H', xs[i]? = some x → Pv tp i σ' H' → g x σ' H' fun σ2 H2 => tu { D with nx := Pv tp (i + 1), ct := Pv tp (i + 1), bk := tz D } σ2 H2) (hd : ∀ tp σ' H', Pv tp xs.length σ' H' → tz D σ' H') : tSeq (tFor (iTup K (tTup ta)) g tu) tz D σ H := s_forU (D := { D with nx := tz D }) h hz Pv h0 hl hs hd
end Bp
namespace Bp
open PySem PySem.Spec PyProof.Rows L2 L2H
/-! ### a def that is handed the exception that the caller's suite holds -/
abbrev SpP : Type := Addr × Obj → Sp
/-- what such a def promises: p is the exception -/
structure FnP (P : Program) (w : World) (K : PySem.W.Frag) (mg : Str → Option Value) (base : Heap) (CX : CXT) (k : Nat) (f : Addr) (fd : FuncData) (ps : List Str) (sp : SpP) : Prop where
  many : ∀ p vs H Q E, sp p vs H Q E → vs.length = ps.length
  go : ∀ (p : Addr × Obj) (A : Around) (outer : List Env) (s : Shared) (H : Hp) (args : Args) (us : List Value) (vs : List V) (Q : VK) (E : XK), RoomH k A → PinOk outer H s p → Env0 P w K mg base A outer s H → BindsTo s fd args (ps.zip us) → Vals vs us → sp p vs H Q E →
    codeAny (model P w) A (.call (.ref f) args) (CR CX outer P w H s Q E) s
section
variable {P : Program} {w : World} {K : PySem.W.Frag} {mg : Str → Option Value} {base : Heap} {CX : CXT} {k : Nat} {f : Addr}
theorem fnp_of {name qual : Str} {st : Stmt} {fd : FuncData} {N ps : List Str} {sp : SpP} (F : Fun K name qual st f fd) (S : FnScope N ps (defScope st)) (many : ∀ p vs H Q E, sp p vs H Q E → vs.length = ps.length)
    (body : ∀ (p : Addr × Obj) (cdv : Value) (A : Around) (outer : List Env) (s : Shared) (H : Hp) (vs : List V) (Q : VK) (E : XK), sp p vs H Q E →
      ∃ t, PSs (cxH CX P w K mg base N qual (defScope st) f cdv A outer s H E p) (defBody st) t ∧ t { nx := fun _ H' => Q .non H', rt := Q } (L2.start N vs) H) : FnP P w K mg base CX (k + 1) f fd ps sp := by
  obtain ⟨oc, od, kV, doc, pm, an, cdv, ct, osl, rfl, lk, hcd⟩ := F.ex
  refine ⟨many, fun p A outer s H args us vs Q E hroom hpin he hbind rel hsp => ?_⟩
  have below : ∀ b o, base.get? b = some o → s.heap.get? b = some o := fun b o e => (he.bs b o e).1
  have inK : K.In s.heap := he.mod.kin.keeps below
  have own : ∀ y ∈ ps.zip us, (defScope st).names.lookup y.1 = some .local ∨ ((defScope st).names.lookup y.1 = some .cell ∧ ((cellsFrom (s.heap.objs.size + 1) (defScope st).names []).lookup y.1).isSome = true) := fun ⟨n, v⟩ hy =>
    (S.par n (List.of_mem_zip hy).1).imp (fun q => q) fun q => ⟨q, PySem.W.cellsFrom_some _ _ _ (.inl q)⟩
  refine codeAny_call_function hroom.depth (inK _ _ lk) rfl S.co S.gen rfl (PySem.W.codeRec_of inK hcd) (hbind _ _ _ _ (wpAny_newFunctionEnv_cells S.kind own fun env here s1 x => ?_))
  subst here
  refine ⟨(he.mod.nolimit.keeps below).keeps x.toInCall.keep, codeAny_func ?_⟩
  obtain ⟨t, ht, hq⟩ := body p cdv A outer s H vs Q E hsp
  refine wpAny_mono (ht.run [] s1 (L2.start N vs) H _ (inv_startH S hpin he (many _ _ _ _ _ hsp) rel x) hq) (fun fl s' hs => ?_) fun e s' hs => hs
  match fl, hs with
  | .ret u, ⟨v, σ', H', J, rv, q⟩ => exact ⟨v, H', J.os, J.bare, J.base, J.hok, rv, q⟩
  | .next, ⟨σ', H', J, q⟩ => exact ⟨V.non, H', J.os, J.bare, J.base, J.hok, rfl, q⟩
  | .brk, ⟨_, _, _, q⟩ => exact q.elim
  | .cont, ⟨_, _, _, q⟩ => exact q.elim
end
section
variable {X : Cx} {CX : CXT} {k i : Nat} {f : Addr} {fd : FuncData} {ps : List Str} {x : Str} {q pos : Pos} {e : Expr} {es : List Expr} {t : TA}
/-- f(e, ..) in a suite that holds p -/
theorem pe_callP {sp : SpP} {p : Addr × Obj} (F : FnP X.prog X.w X.K X.mg X.base CX0 k f fd ps sp) (hr : RoomH k X.A) (hp : p ∈ X.pn) (hg : Gl X x) (hm : X.mg x = some (.ref f)) (hk : PySem.W.keepIn X.K (.ref f) = true) (hb : Binds X.K fd ps []) (ha : PA X (e :: es) t)
    (hdb : (x == ("__debug__" : Str)) = false := by decide) (he : starEach (e :: es) X.env = (false, eval e X.env) :: starEach es X.env := by rfl) (hpl : (backTo pos (starEach es X.env)).any (·.1) = false := by rfl) :
    PE X (.Call (.Name x q) (e :: es) [] pos) (fun σ H Q => t σ H fun vs H1 => sp p vs H1 Q E0) := by
  refine ⟨fun pins s σ H Q I h => wpAny_Call_Name_kw (ld_glob I hg hm ?_ hdb)⟩
  refine PySem.W.callWith_K (h₀ := X.base) I.ok.mod.kin hk (thn (ha.run pos pins s σ H _ I h) fun us s1 ⟨vs, H1, J, r, w⟩ => ⟨J.kIn, ?_⟩) he hpl
  have same : us.length = ps.length := r.length.symm.trans (F.many _ _ _ _ _ w)
  have bnd := hb s1 us J.kIn (by rw [List.append_nil]; exact same)
  rw [List.append_nil] at bnd
  obtain ⟨p1, p2, p3, p4, p5⟩ := J.pin p (List.mem_append_left _ hp)
  have ok : PinOk X.stack H1 s1 p := ⟨p1, p2, fun hm => (List.mem_cons.mp (J.stkSub p.1 hm)).elim p3 p4, p5⟩
  refine wpAny_call (codeAny_mono (F.go p X.A X.stack s1 H1 ⟨us, []⟩ us vs Q E0 hr ok J.env0 bnd r w) fun out s' hq => ?_)
  match out, hq with
  | .error z, hq => exact False.elim hq
  | .ok (.ret u), hq => exact J.after hq
  | .ok .next, hq => exact False.elim hq
  | .ok .brk, hq => exact False.elim hq
  | .ok .cont, hq => exact False.elim hq
/-- a call of a local name that holds a def which may raise, within a try -/
theorem pe_callLS {sp : Sp} {E : L2.St → XK} (F : FnOk X.prog X.w X.K X.mg X.base CX k f fd ps sp) (hr : Room k X.A) (hN : X.N[i]? = some x) (hv : Vis X.env.scope x) (hk : PySem.W.keepIn X.K (.ref f) = true) (hb : Binds X.K fd ps []) (hx : ∀ σ, PassesAt CX X σ (E σ)) (ha : PA X (e :: es) t)
    (hdb : (x == ("__debug__" : Str)) = false := by decide) (hcd : (x == ("__classdict__" : Str)) = false := by decide)
    (he : starEach (e :: es) X.env = (false, eval e X.env) :: starEach es X.env := by rfl) (hpl : (backTo pos (starEach es X.env)).any (·.1) = false := by rfl) :
    PE X (.Call (.Name x q) (e :: es) [] pos) (fun σ H Q => σ[i]? = some (some (.ref f)) ∧ t σ H fun vs H1 => sp vs H1 Q (E σ)) := by
  refine ⟨fun pins s σ H Q I h => wpAny_Call_Name_kw (thn ((pe_var (pos := q) hN hv hdb hcd).run pins s σ H (fun v H1 => v = .ref f ∧ H1 = H) I ⟨.ref f, h.1, rfl, rfl⟩) fun u s1 ⟨v, H1, I1, r1, e1, e2⟩ => ?_)⟩
  subst e1 e2
  cases r1
  exact PySem.W.callWith_K (h₀ := X.base) I.ok.mod.kin hk (thn (ha.run pos pins s1 σ _ _ I1 h.2) fun us s2 ⟨vs, H2, I2, r, w⟩ => ⟨I2.kIn, run_fnS F hr hb (hx σ) I2 r w⟩) he hpl
/-- isinstance(e, c), e an exception of the class at D that the context holds -/
theorem call_isP {a D : Addr} {oe : Obj} (C : ExcC X.K D) (hp : (a, oe) ∈ X.pn) (hz : Zc (.ref D) none oe) (hf : ∃ vs, oe.data = .fields vs) : CallR X (.builtin "isinstance") (rIsE X.K D a) := by
  intro pins s σ H xs us Q I r h
  obtain ⟨c, cv, b, rfl, hcv, kit, w⟩ := h
  match us, r with
  | [_, _], .cons rx (.cons rt .nil) =>
    obtain rfl := hcv _ rt
    cases rx
    have there := (I.pin (a, oe) (List.mem_append_left _ hp)).1
    obtain ⟨vs, dat⟩ := hf
    obtain ⟨oc, od, oda, osl⟩ := oe
    obtain ⟨h1, h2⟩ := hz
    dsimp only at h1 h2 dat
    subst h1 h2 dat
    exact PySem.W.kia_one (PySem.W.handS_kitx_exc C.hg C.hk C.hs C.hd C.ha C.hn C.ht C.hm) I.kIn ⟨there, rfl, rfl, trivial⟩ kit (fun z => nomatch z) fun tk => ⟨.bl b, H, I.kept (t' := tk) fun _ _ z => z, rfl, w⟩
end
end Bp
namespace Bp
open PySem L2 Evl
/-! ### values of any kind, as a program that refuses looks at them -/
def Ty (K : PySem.W.Frag) (H : Hp) (v : V) (n : String) : Prop := ∀ H1, Ex H H1 → TyX K H1 v (.type n)
theorem Ty.mono {K : PySem.W.Frag} {H H' : Hp} {v : V} {n : String} (e : Ex H H') (h : Ty K H v n) : Ty K H' v n := fun H1 e1 => h H1 (e.trans e1)
inductive All2 {α β : Type} (R : α → β → Prop) : List α → List β → Prop
  | nil : All2 R [] []
  | cons {a : α} {b : β} {as : List α} {bs : List β} (h : R a b) (t : All2 R as bs) : All2 R (a :: as) (b :: bs)
section
variable {α β : Type} {R S : α → β → Prop}
theorem All2.imp {as : List α} {bs : List β} (h : All2 R as bs) (f : ∀ a b, R a b → S a b) : All2 S as bs := by
  induction h with
  | nil => exact .nil
  | cons h _ ih => exact .cons (f _ _ h) ih
theorem All2.len {as : List α} {bs : List β} (h : All2 R as bs) : as.length = bs.length := by
  induction h with
  | nil => rfl
  | cons _ _ ih => rw [List.length_cons, List.length_cons, ih]
theorem All2.get {as : List α} {bs : List β} (h : All2 R as bs) : ∀ {i : Nat} {a : α}, as[i]? = some a → ∃ b, bs[i]? = some b ∧ R a b := by
  induction h with
  | nil => intro i a h; cases h
  | @cons x y xs ys h _ ih =>
    intro i a hi
    cases i with
    | zero => exact ⟨y, rfl, by rw [← Option.some.inj hi]; exact h⟩
    | succ i => exact ih (i := i) hi
theorem All2.app {as as' : List α} {bs bs' : List β} (h : All2 R as bs) (h' : All2 R as' bs') : All2 R (as ++ as') (bs ++ bs') := by
  induction h with
  | nil => exact h'
  | cons h _ ih => exact .cons h ih
theorem All2.map {γ : Type} (f : γ → α) (g : γ → β) (l : List γ) (h : ∀ c ∈ l, R (f c) (g c)) : All2 R (l.map f) (l.map g) := by
  induction l with
  | nil => exact .nil
  | cons c l ih => exact .cons (h c List.mem_cons_self) (ih fun d hd => h d (List.mem_cons_of_mem _ hd))
end
section
variable {K : PySem.W.Frag} {H H' : Hp}
/-- kinds of values that are no whole numbers, no tuples, no lists -/
abbrev NonInt (n : String) : Prop := n ∈ ["bool", "NoneType", "str", "list", "tuple", "dict"]
abbrev NonTup (n : String) : Prop := n ∈ ["int", "bool", "NoneType", "str", "list", "dict"]
abbrev NonLst (n : String) : Prop := n ∈ ["int", "bool", "NoneType", "str", "tuple", "dict"]
theorem kit_int : ∀ n, NonInt n → ∃ b1 b2, kitB n "int" = some b1 ∧ kitB n "bool" = some b2 ∧ (b1 && !b2) = false := by
  intro n h
  simp only [NonInt, List.mem_cons, List.not_mem_nil, or_false] at h
  rcases h with rfl | rfl | rfl | rfl | rfl | rfl
  · exact ⟨true, true, by decide +kernel, by decide +kernel, rfl⟩
  all_goals exact ⟨false, false, by decide +kernel, by decide +kernel, rfl⟩
theorem kit_tup : ∀ n, NonTup n → kitB n "tuple" = some false := by
  intro n h
  simp only [NonTup, List.mem_cons, List.not_mem_nil, or_false] at h
  rcases h with rfl | rfl | rfl | rfl | rfl | rfl <;> decide +kernel
theorem kit_lst : ∀ n, NonLst n → kitB n "list" = some false := by
  intro n h
  simp only [NonLst, List.mem_cons, List.not_mem_nil, or_false] at h
  rcases h with rfl | rfl | rfl | rfl | rfl | rfl <;> decide +kernel
/-- whether v is a whole number; whether it is a length -/
def Wh (K : PySem.W.Frag) (H : Hp) (v : V) (b : Bool) : Prop := (∃ i : Int, v = .int i ∧ b = true) ∨ (b = false ∧ ∃ n, NonInt n ∧ Ty K H v n)
def Pt (K : PySem.W.Frag) (H : Hp) (v : V) (b : Bool) : Prop := (∃ i : Int, v = .int i ∧ b = decide (0 ≤ i)) ∨ (b = false ∧ ∃ n, NonInt n ∧ Ty K H v n)
/-- whether v is a thing -/
def Tg (K : PySem.W.Frag) (H : Hp) (v : V) (b : Bool) : Prop :=
  (∃ (a : Addr) (xs : List V) (bs : List Bool), v = .ref a ∧ SqT K H a xs ∧ xs.length ≤ 1000 ∧ All2 (Pt K H) xs bs ∧ b = (decide (xs.length = 3) && bs.all id)) ∨ (b = false ∧ ∃ n, NonTup n ∧ Ty K H v n)
/-- whether v is a list of things -/
def Tl (K : PySem.W.Frag) (H : Hp) (v : V) (b : Bool) : Prop :=
  (∃ (l : Addr) (xs : List V) (bs : List Bool), v = .ref l ∧ SqL K H l xs ∧ xs.length ≤ 1000 ∧ All2 (Tg K H) xs bs ∧ b = bs.all id) ∨ (b = false ∧ ∃ n, NonLst n ∧ Ty K H v n)
/-- what stands in a list that might be an order -/
def Sc (K : PySem.W.Frag) (H : Hp) (v : V) (o : Option Int) : Prop := (∃ i : Int, v = .int i ∧ o = some i) ∨ (o = none ∧ ∃ n, NonInt n ∧ Ty K H v n)
/-- v is no order of n things -/
def NoO (K : PySem.W.Frag) (H : Hp) (v : V) (n : Nat) : Prop :=
  (∃ (a : Addr) (xs : List V) (os : List (Option Int)), v = .ref a ∧ SqL K H a xs ∧ xs.length ≤ 1000 ∧ All2 (Sc K H) xs os ∧ ∀ is : List Int, os = is.map some → ordB n is = false) ∨ ∃ t, NonLst t ∧ Ty K H v t
theorem Wh.mono {v : V} {b : Bool} (e : Ex H H') (h : Wh K H v b) : Wh K H' v b := h.imp (fun h => h) fun ⟨h, n, k, t⟩ => ⟨h, n, k, t.mono e⟩
theorem Pt.mono {v : V} {b : Bool} (e : Ex H H') (h : Pt K H v b) : Pt K H' v b := h.imp (fun h => h) fun ⟨h, n, k, t⟩ => ⟨h, n, k, t.mono e⟩
theorem Sc.mono {v : V} {o : Option Int} (e : Ex H H') (h : Sc K H v o) : Sc K H' v o := h.imp (fun h => h) fun ⟨h, n, k, t⟩ => ⟨h, n, k, t.mono e⟩
theorem Tg.mono {v : V} {b : Bool} (e : Ex H H') (h : Tg K H v b) : Tg K H' v b := h.imp (fun ⟨a, xs, bs, h1, h2, h3, h4, h5⟩ => ⟨a, xs, bs, h1, ex_t e h2, h3, h4.imp fun _ _ p => p.mono e, h5⟩) fun ⟨h, n, k, t⟩ => ⟨h, n, k, t.mono e⟩
theorem Tl.mono {v : V} {b : Bool} (e : Ex H H') (h : Tl K H v b) : Tl K H' v b := h.imp (fun ⟨a, xs, bs, h1, h2, h3, h4, h5⟩ => ⟨a, xs, bs, h1, ex_l e h2, h3, h4.imp fun _ _ p => p.mono e, h5⟩) fun ⟨h, n, k, t⟩ => ⟨h, n, k, t.mono e⟩
theorem NoO.mono {v : V} {n : Nat} (e : Ex H H') (h : NoO K H v n) : NoO K H' v n := h.imp (fun ⟨a, xs, bs, h1, h2, h3, h4, h5⟩ => ⟨a, xs, bs, h1, ex_l e h2, h3, h4.imp fun _ _ p => p.mono e, h5⟩) fun ⟨n, k, t⟩ => ⟨n, k, t.mono e⟩
/-! ### values of the text -/
theorem ty_non : Ty K H .non "NoneType" := fun _ _ => .base .non
theorem ty_str {x : Str} : Ty K H (.str x) "str" := fun _ _ => .base (.str x)
theorem ty_bool {b : Bool} : Ty K H (.bl b) "bool" := fun _ _ => .base (.bl b)
theorem ty_dic {a : Addr} {kvs : List (Key × V)} (h : H a = some (.dK kvs)) : Ty K H (.ref a) "dict" := fun H1 e => .base (.dK (e _ _ h))
theorem pt_i {i : Int} {b : Bool} (h : decide (0 ≤ i) = b) : Pt K H (.int i) b := .inl ⟨i, rfl, h.symm⟩
theorem pt_n {v : V} {n : String} (h : Ty K H v n) (k : NonInt n := by decide) : Pt K H v false := .inr ⟨rfl, n, k, h⟩
theorem sc_i {i : Int} : Sc K H (.int i) (some i) := .inl ⟨i, rfl, rfl⟩
theorem sc_n {v : V} {n : String} (h : Ty K H v n) (k : NonInt n := by decide) : Sc K H v none := .inr ⟨rfl, n, k, h⟩
theorem tg_n {v : V} {n : String} (h : Ty K H v n) (k : NonTup n := by decide) : Tg K H v false := .inr ⟨rfl, n, k, h⟩
theorem tl_n {v : V} {n : String} (h : Ty K H v n) (k : NonLst n := by decide) : Tl K H v false := .inr ⟨rfl, n, k, h⟩
theorem tg_t {a : Addr} {xs : List V} {bs : List Bool} (h : H a = some (.tup xs)) (p : All2 (Pt K H) xs bs) (z : xs.length ≤ 1000 := by decide) : Tg K H (.ref a) (decide (xs.length = 3) && bs.all id) := .inl ⟨a, xs, bs, rfl, st_of h, z, p, rfl⟩
theorem tl_l {a : Addr} {xs : List V} {bs : List Bool} (h : SqL K H a xs) (p : All2 (Tg K H) xs bs) (z : xs.length ≤ 1000) : Tl K H (.ref a) (bs.all id) := .inl ⟨a, xs, bs, rfl, h, z, p, rfl⟩
theorem tg_thing {a : Addr} {t : Th} (h : SqT K H a (iv t)) (n : Nn t) : Tg K H (.ref a) true :=
  .inl ⟨a, iv t, [true, true, true], rfl, h, by show 3 ≤ 1000; decide, .cons (pt_i (decide_eq_true n.1)) (.cons (pt_i (decide_eq_true n.2.1)) (.cons (pt_i (decide_eq_true n.2.2)) .nil)), rfl⟩
theorem tgs_ths {l : Addr} {zs : List (Addr × Th)} (h : Ths K H l zs) : All2 (Tg K H) (tv zs) (zs.map fun _ => true) := All2.map _ _ _ fun z hz => tg_thing (h.it z hz) (h.nn z hz)
theorem all_yes {α : Type} (l : List α) : (l.map fun _ => true).all id = true := by
  induction l with
  | nil => rfl
  | cons _ _ ih => exact ih
theorem tl_ths {l : Addr} {zs : List (Addr × Th)} (h : Ths K H l zs) : Tl K H (.ref l) true := .inl ⟨l, _, _, rfl, h.ls, by rw [tv_len]; exact h.le, tgs_ths h, (all_yes zs).symm⟩
end
end Bp
namespace Bp
open PySem L2 Evl
/-! ### messages, calls that may raise -/
theorem fig_few : ∀ n < 1001, (toString ((n : Nat) : Int) : Str).length ≤ 100 := by decide +kernel
theorem fig_fits {i : Int} (h0 : 0 ≤ i) (h1 : i ≤ 1000) : (toString i : Str).length ≤ 100 := by
  obtain ⟨n, rfl⟩ : ∃ n : Nat, i = (n : Int) := ⟨i.toNat, by omega⟩
  exact fig_few n (by omega)
theorem log_few {i : Int} (h0 : 0 ≤ i) (h1 : i ≤ 1000) : i.natAbs.log2 < 1920 := by
  have : i.natAbs < 2 ^ 1920 := Nat.lt_of_lt_of_le (show i.natAbs < 2 ^ 10 by omega) (Nat.pow_le_pow_right (by decide) (by decide))
  rcases Nat.eq_zero_or_pos i.natAbs with h | h
  · rw [h]
    decide
  · exact (Nat.log2_lt (by omega)).mpr this
/-- f"a{i}b" -/
theorem js_num {σ : L2.St} {H : Hp} {te : TE} {a b : Str} {i : Int} {Q : Str → Hp → Prop} (h : Ev te σ H (.int i)) (h0 : 0 ≤ i) (h1 : i ≤ 1000) (ha : a.length ≤ 1000) (hb : b.length ≤ 1000) (q : ∀ out H1, Ex H H1 → Q out H1) : tJs [tC (.str a), tFmt te, tC (.str b)] Str.empty σ H Q := by
  have hf := fig_fits h0 h1
  have e0 : (Str.empty : Str).length = 0 := rfl
  have z : ∀ n, n ≤ 3000 → n ≤ sizeLine := fun n hn => by rw [sizeLine_eq]; omega
  refine ⟨a, rfl, z _ (by rw [Str.length_append, e0]; omega), h H (Ex.refl H) _ fun H1 e1 => .inr ⟨i, rfl, log_few h0 h1, _, rfl, z _ (by rw [Str.length_append, Str.length_append, e0]; omega), b, rfl, z _ (by rw [Str.length_append, Str.length_append, Str.length_append, e0]; omega), q _ H1 e1⟩⟩
/-- f(..) as a row -/
theorem q_ask {σ : L2.St} {H : Hp} {D : Ends} {tz : TS} {sp : Sp} {dvs vs : List V} {E : XK} {ta : TA} (h : EvA ta σ H vs) (k : ∀ H1, Ex H H1 → sp (vs ++ dvs) H1 (fun _ H2 => tz D σ H2) E) : tSeq (tDrop (tCall sp dvs E ta)) tz D σ H := h H (Ex.refl H) _ k
theorem s_ask {σ : L2.St} {H : Hp} {D : Ends} {sp : Sp} {dvs vs : List V} {E : XK} {ta : TA} (h : EvA ta σ H vs) (k : ∀ H1, Ex H H1 → sp (vs ++ dvs) H1 (fun _ H2 => D.nx σ H2) E) : tDrop (tCall sp dvs E ta) D σ H := h H (Ex.refl H) _ k
theorem s_giveX {σ : L2.St} {H : Hp} {D : Ends} {sp : Sp} {dvs vs : List V} {E : XK} {ta : TA} (h : EvA ta σ H vs) (k : ∀ H1, Ex H H1 → sp (vs ++ dvs) H1 D.rt E) : tRet (tCall sp dvs E ta) D σ H := h H (Ex.refl H) _ k
end Bp
namespace Bp
open PySem L2 Evl
/-! ### texts out of lists -/
def rJoin (K : PySem.W.Frag) : V → List V → Hp → VK → Prop := fun x xs H Q => ∃ a p, ∃ ys : List Str, x = .str a ∧ xs = [.ref p] ∧ (SqL K H p (ys.map V.str) ∨ SqT K H p (ys.map V.str)) ∧ (ys.map (·.length)).sum + ys.length * a.length ≤ 16777216 ∧ Q (.str (Txt.join a ys)) H
def rStrI : List V → Hp → VK → Prop := fun xs H Q => ∃ i, xs = [.int i] ∧ i.natAbs.log2 < 1920 ∧ Q (.str (toString i)) H
theorem ev_joinL {K : PySem.W.Frag} {σ : L2.St} {H : Hp} {te : TE} {a : Str} {ys : List Str} (h : EvL te σ H (ys.map V.str)) (hz : (ys.map (·.length)).sum + ys.length * a.length ≤ 16777216) : Ev (tM1 (rJoin K) (tC (.str a)) te) σ H (.str (Txt.join a ys)) := fun H1 e Q q =>
  ⟨⟨a, rfl⟩, h H1 e _ fun p H2 _ e2 hp => ⟨a, p, ys, rfl, rfl, .inl (sq_of hp), hz, q H2 e2⟩⟩
theorem rc_strI {i : Int} {H : Hp} (h : i.natAbs.log2 < 1920) : RC rStrI [.int i] H (.str (toString i)) := fun H1 e Q q => ⟨i, rfl, h, q H1 (Ex.refl H1)⟩
theorem log_of {i : Int} (h0 : 0 ≤ i) (h1 : i < 10 ^ 60) : i.natAbs.log2 < 1920 := by
  have : i.natAbs < 2 ^ 1920 := Nat.lt_of_lt_of_le (show i.natAbs < 10 ^ 60 by omega) (by decide +kernel)
  rcases Nat.eq_zero_or_pos i.natAbs with h | h
  · rw [h]
    decide
  · exact (Nat.log2_lt (by omega)).mpr this
theorem et_truL {K : PySem.W.Frag} {σ : L2.St} {H : Hp} {te : TE} {a : Addr} {xs : List V} (h : Ev te σ H (.ref a)) (hs : SqL K H a xs) : EvT (fun σ H Q => te σ H fun x H' => ∃ k, TruV K x H' k ∧ Q k H') σ H (!xs.isEmpty) := fun H1 e Q q =>
  h H1 e _ fun H2 e2 => ⟨_, .inl ⟨xs, ex_l (e.trans e2) hs, rfl⟩, q H2 e2⟩
/-- a thing as a text -/
def wTh (t : Th) : Str := Txt.join "/" [(toString t.1 : Str), (toString t.2.1 : Str), (toString t.2.2 : Str)]
def wThs (ts : List Th) : Str := Txt.join " " (ts.map wTh)
/-- a length of at most sixty figures -/
def Sh (t : Th) : Prop := t.1 < 10 ^ 60 ∧ t.2.1 < 10 ^ 60 ∧ t.2.2 < 10 ^ 60
theorem num_le {i : Int} (h0 : 0 ≤ i) (h1 : i < 10 ^ 60) : (toString i : Str).length ≤ 60 := PyProof.Rows.toString_length_le h0 (by decide) h1
theorem join_le (a : Str) : ∀ ys : List Str, (Txt.join a ys).length ≤ (ys.map (·.length)).sum + ys.length * a.length
  | [] => by
    rw [TL.join_eq]
    exact Nat.zero_le _
  | [y] => by
    rw [TL.join_eq]
    show y.length ≤ _
    simp only [List.map_cons, List.map_nil, List.sum_cons, List.sum_nil]
    omega
  | y :: z :: r => by
    have ih := join_le a (z :: r)
    rw [TL.join_eq] at ih ⊢
    show (y ++ a ++ Str.join a (z :: r)).length ≤ _
    rw [Str.length_append, Str.length_append, List.map_cons, List.sum_cons, List.length_cons, Nat.add_mul]
    omega
theorem wTh_le {t : Th} (n : Nn t) (s : Sh t) : (wTh t).length ≤ 183 := by
  have h := join_le "/" [(toString t.1 : Str), (toString t.2.1 : Str), (toString t.2.2 : Str)]
  have a := num_le n.1 s.1
  have b := num_le n.2.1 s.2.1
  have c := num_le n.2.2 s.2.2
  have d : ("/" : Str).length = 1 := rfl
  simp only [List.map_cons, List.map_nil, List.sum_cons, List.sum_nil, List.length_cons, List.length_nil] at h
  unfold wTh
  omega
theorem sum_le {α : Type} (f : α → Nat) (m : Nat) : ∀ l : List α, (∀ x ∈ l, f x ≤ m) → (l.map f).sum ≤ l.length * m
  | [], _ => Nat.zero_le _
  | x :: l, h => by
    have ih := sum_le f m l fun y hy => h y (List.mem_cons_of_mem _ hy)
    have h1 := h x List.mem_cons_self
    rw [List.map_cons, List.sum_cons, List.length_cons, Nat.add_mul]
    omega
end Bp
namespace Bp
open PySem L2 Evl
/-! ### displays whose parts are new objects: what is known of the parts -/
/-- a heap as it is looked at: the whole, or all but one list that is still written -/
structure Vw (H : Hp) (vw : Hp → Hp) : Prop where
  mono : ∀ A B, Ex A B → Ex (vw A) (vw B)
  new : ∀ A t o, Ex H A → A t = none → vw (upd A t o) t = some o
  less : ∀ A, Ex (vw A) A
theorem vw_id (H : Hp) : Vw H id := ⟨fun _ _ e => e, fun _ _ _ _ _ => upd_same, fun A => Ex.refl A⟩
/-- all but p -/
def wo (p : Addr) (H : Hp) : Hp := fun b => if b = p then none else H b
theorem wo_same {p : Addr} {H : Hp} : wo p H p = none := by unfold wo; rw [if_pos rfl]
theorem wo_ne {p b : Addr} {H : Hp} (h : b ≠ p) : wo p H b = H b := by unfold wo; rw [if_neg h]
theorem wo_upd {p : Addr} {H : Hp} {o : HO} : wo p (upd H p o) = wo p H := by
  funext b
  by_cases h : b = p
  · rw [h, wo_same, wo_same]
  · rw [wo_ne h, wo_ne h, upd_ne h]
theorem wo_none {p : Addr} {H : Hp} (h : H p = none) : wo p H = H := by
  funext b
  by_cases e : b = p
  · rw [e, wo_same, h]
  · exact wo_ne e
theorem wo_less (p : Addr) (H : Hp) : Ex (wo p H) H := fun b o h => by
  by_cases e : b = p
  · rw [e, wo_same] at h
    cases h
  · rw [wo_ne e] at h
    exact h
theorem wo_mono {p : Addr} {A B : Hp} (e : Ex A B) : Ex (wo p A) (wo p B) := fun b o h => by
  have n : b ≠ p := fun z => by
    rw [z, wo_same] at h
    cases h
  rw [wo_ne n] at h ⊢
  exact e b o h
theorem wo_into {p : Addr} {A B : Hp} (e : Ex A B) (n : A p = none) : Ex A (wo p B) := fun b o h => by
  rw [wo_ne (ne_of_none h n)]
  exact e b o h
theorem vw_wo {H : Hp} {p : Addr} {o : HO} (h : H p = some o) : Vw H (wo p) := ⟨fun _ _ e => wo_mono e, fun A t u e n => by
  have ne : t ≠ p := fun z => by rw [z, e _ _ h] at n; cases n
  rw [wo_ne ne, upd_same], fun A => wo_less p A⟩
section
variable {σ : L2.St} {H : Hp} {te : TE} {ta ts : TA} {β : Type} {R : Hp → V → β → Prop}
/-- e gives a value of which R holds -/
def EvR (te : TE) (σ : L2.St) (H : Hp) (R : Hp → V → Prop) : Prop := ∀ H1, Ex H H1 → ∀ Q : VK, (∀ v H2, Ex H1 H2 → R H2 v → Q v H2) → te σ H1 Q
def EvAR (ta : TA) (σ : L2.St) (H : Hp) (R : Hp → V → β → Prop) (bs : List β) : Prop := ∀ H1, Ex H H1 → ∀ Q : List V → Hp → Prop, (∀ vs H2, Ex H1 H2 → All2 (R H2) vs bs → Q vs H2) → ta σ H1 Q
def Grow (R : Hp → V → β → Prop) : Prop := ∀ A B v b, Ex A B → R A v b → R B v b
theorem ar_nil : EvAR tNil σ H R [] := fun H1 _ Q q => q [] H1 (Ex.refl H1) .nil
theorem ar_cons {b : β} {bs : List β} (g : Grow R) (h : EvR te σ H fun A v => R A v b) (hs : EvAR ts σ H R bs) : EvAR (tCons te ts) σ H R (b :: bs) := fun H1 e Q q =>
  h H1 e _ fun v H2 e2 r => hs H2 (e.trans e2) _ fun vs H3 e3 rs => q (v :: vs) H3 (e2.trans e3) (.cons (g _ _ _ _ e3 r) rs)
theorem er_v {S : Hp → V → Prop} {v : V} (h : Ev te σ H v) (r : ∀ H1, Ex H H1 → S H1 v) : EvR te σ H S := fun H1 e Q q => h H1 e _ fun H2 e2 => q v H2 e2 (r H2 (e.trans e2))
theorem er_l {S : Hp → V → Prop} {xs : List V} (h : EvL te σ H xs) (r : ∀ p H1, Ex H H1 → H1 p = some (.lst xs) → S H1 (.ref p)) : EvR te σ H S := fun H1 e Q q => h H1 e _ fun p H2 _ e2 hp => q _ H2 e2 (r p H2 (e.trans e2) hp)
theorem er_u {S : Hp → V → Prop} {xs : List V} (h : EvU te σ H xs) (r : ∀ p H1, Ex H H1 → H1 p = some (.tup xs) → S H1 (.ref p)) : EvR te σ H S := fun H1 e Q q => h H1 e _ fun p H2 _ e2 hp => q _ H2 e2 (r p H2 (e.trans e2) hp)
theorem er_imp {S S' : Hp → V → Prop} (h : EvR te σ H S) (i : ∀ H1 v, Ex H H1 → S H1 v → S' H1 v) : EvR te σ H S' := fun H1 e Q q => h H1 e Q fun v H2 e2 s => q v H2 e2 (i H2 v (e.trans e2) s)
theorem EvR.mono {S : Hp → V → Prop} {H' : Hp} (e : Ex H H') (h : EvR te σ H S) : EvR te σ H' S := fun H1 a Q q => h H1 (e.trans a) Q q
/-- [e, ..] -/
theorem er_lst {bs : List β} (g : Grow R) (h : EvAR ta σ H R bs) (hz : bs.length ≤ 100000) {S : Hp → V → Prop} (r : ∀ p A xs, Ex H A → A p = none → All2 (R A) xs bs → S (upd A p (.lst xs)) (.ref p)) : EvR (tLst ta) σ H S := fun H1 e Q q =>
  h H1 e _ fun xs H2 e2 rs => ⟨sz_of (by rw [rs.len]; exact hz), fun p np => q (.ref p) _ (e2.trans (Ex.new np)) (r p H2 xs (e.trans e2) np rs)⟩
/-- (e, ..) -/
theorem er_tup {bs : List β} (g : Grow R) (h : EvAR ta σ H R bs) (hz : bs.length ≤ 100000) {S : Hp → V → Prop} (r : ∀ p A xs, Ex H A → A p = none → All2 (R A) xs bs → S (upd A p (.tup xs)) (.ref p)) : EvR (tTup ta) σ H S := fun H1 e Q q =>
  h H1 e _ fun xs H2 e2 rs => ⟨sz_of (by rw [rs.len]; exact hz), fun p np => q (.ref p) _ (e2.trans (Ex.new np)) (r p H2 xs (e.trans e2) np rs)⟩
end
section
variable {K : PySem.W.Frag} {σ : L2.St} {H : Hp} {te : TE} {ta ts : TA} {vw : Hp → Hp}
theorem grow_pt (w : Vw H vw) : Grow fun A v b => Pt K (vw A) v b := fun A B v b e h => h.mono (w.mono A B e)
theorem grow_tg (w : Vw H vw) : Grow fun A v b => Tg K (vw A) v b := fun A B v b e h => h.mono (w.mono A B e)
theorem grow_tl (w : Vw H vw) : Grow fun A v b => Tl K (vw A) v b := fun A B v b e h => h.mono (w.mono A B e)
theorem grow_sc (w : Vw H vw) : Grow fun A v b => Sc K (vw A) v b := fun A B v b e h => h.mono (w.mono A B e)
theorem grow_no (w : Vw H vw) : Grow fun A v n => NoO K (vw A) v n := fun A B v b e h => h.mono (w.mono A B e)
/-- a part -/
theorem p_i {i : Int} {b : Bool} (h : Ev te σ H (.int i)) (hb : decide (0 ≤ i) = b) : EvR te σ H fun A v => Pt K (vw A) v b := er_v h fun _ _ => pt_i hb
theorem p_s {v : V} {n : String} (h : Ev te σ H v) (t : ∀ A, Ty K A v n) (k : NonInt n := by decide) : EvR te σ H fun A v => Pt K (vw A) v false := er_v h fun _ _ => pt_n (t _) k
/-- a would-be thing -/
theorem g_tup {bs : List Bool} (w : Vw H vw) (h : EvAR ta σ H (fun A v b => Pt K (vw A) v b) bs) (hz : bs.length ≤ 1000) {b : Bool} (hb : (decide (bs.length = 3) && bs.all id) = b) : EvR (tTup ta) σ H fun A v => Tg K (vw A) v b :=
  er_tup (grow_pt w) h (by omega) fun p A xs e np rs => by
    have l := rs.len
    refine .inl ⟨p, xs, bs, rfl, st_of (w.new A p _ e np), by omega, rs.imp fun v c r => r.mono (w.mono _ _ (Ex.new np)), by rw [l, hb]⟩
theorem g_s {v : V} {n : String} (h : Ev te σ H v) (t : ∀ A, Ty K A v n) (k : NonTup n := by decide) : EvR te σ H fun A v => Tg K (vw A) v false := er_v h fun _ _ => tg_n (t _) k
theorem ty_l {A : Hp} {p : Addr} {xs : List V} (h : A p = some (.lst xs)) : Ty K A (.ref p) "list" := ty_lst (sq_of h)
theorem ty_t {A : Hp} {p : Addr} {xs : List V} (h : A p = some (.tup xs)) : Ty K A (.ref p) "tuple" := ty_tup (st_of h)
theorem g_lst {β : Type} {R : Hp → V → β → Prop} {bs : List β} (w : Vw H vw) (g : Grow R) (h : EvAR ta σ H R bs) (hz : bs.length ≤ 1000) : EvR (tLst ta) σ H fun A v => Tg K (vw A) v false :=
  er_lst g h (by omega) fun p A xs e np _ => tg_n (ty_l (w.new A p _ e np))
/-- would-be things -/
theorem l_lst {bs : List Bool} (w : Vw H vw) (h : EvAR ta σ H (fun A v b => Tg K (vw A) v b) bs) (hz : bs.length ≤ 1000) {b : Bool} (hb : bs.all id = b) : EvR (tLst ta) σ H fun A v => Tl K (vw A) v b :=
  er_lst (grow_tg w) h (by omega) fun p A xs e np rs => by
    have l := rs.len
    exact .inl ⟨p, xs, bs, rfl, sq_of (w.new A p _ e np), by omega, rs.imp fun v c r => r.mono (w.mono _ _ (Ex.new np)), hb.symm⟩
theorem l_s {v : V} {n : String} (h : Ev te σ H v) (t : ∀ A, Ty K A v n) (k : NonLst n := by decide) : EvR te σ H fun A v => Tl K (vw A) v false := er_v h fun _ _ => tl_n (t _) k
theorem l_tup {β : Type} {R : Hp → V → β → Prop} {bs : List β} (w : Vw H vw) (g : Grow R) (h : EvAR ta σ H R bs) (hz : bs.length ≤ 1000) : EvR (tTup ta) σ H fun A v => Tl K (vw A) v false :=
  er_tup g h (by omega) fun p A xs e np _ => tl_n (ty_t (w.new A p _ e np))
theorem er_dic {S : Hp → V → Prop} (r : ∀ p A, Ex H A → A p = none → S (upd A p (.dK [])) (.ref p)) : EvR tDNewK σ H S := fun H1 e Q q p np => q (.ref p) _ (Ex.new np) (r p H1 e np)
theorem l_dic (w : Vw H vw) : EvR tDNewK σ H fun A v => Tl K (vw A) v false := er_dic fun p A e np => tl_n (ty_dic (w.new A p _ e np))
/-- no order -/
theorem o_s {v : V} {n : String} {m : Nat} (h : Ev te σ H v) (t : ∀ A, Ty K A v n) (k : NonLst n := by decide) : EvR te σ H fun A v => NoO K (vw A) v m := er_v h fun _ _ => .inr ⟨n, k, t _⟩
theorem o_dic {m : Nat} (w : Vw H vw) : EvR tDNewK σ H fun A v => NoO K (vw A) v m := er_dic fun p A e np => .inr ⟨"dict", by decide, ty_dic (w.new A p _ e np)⟩
theorem no_ints {A : Hp} {p : Addr} {is : List Int} {m : Nat} (h : A p = some (.lst (is.map V.int))) (hz : is.length ≤ 1000) (no : ordB m is = false) : NoO K A (.ref p) m :=
  .inl ⟨p, is.map V.int, is.map some, rfl, sq_of h, by rw [List.length_map]; exact hz, All2.map _ _ _ fun _ _ => sc_i, fun js e => by
    have : is = js := by
      have := congrArg (List.map fun o : Option Int => o.getD 0) e
      simpa [List.map_map, Function.comp_def] using this
    rw [← this]
    exact no⟩
/-- a list with a place that holds no number -/
theorem no_none {A : Hp} {p : Addr} {xs : List V} {os : List (Option Int)} {m : Nat} (h : A p = some (.lst xs)) (hz : xs.length ≤ 1000) (r : All2 (Sc K A) xs os) (no : none ∈ os) : NoO K A (.ref p) m :=
  .inl ⟨p, xs, os, rfl, sq_of h, hz, r, fun js e => by
    rw [e] at no
    obtain ⟨j, _, hj⟩ := List.mem_map.mp no
    cases hj⟩
theorem scs_ints {A : Hp} (is : List Int) : All2 (Sc K A) (is.map V.int) (is.map some) := All2.map _ _ _ fun _ _ => sc_i
end
/-- text * number -/
def rMulS : R2 := fun x y H Q => ∃ (z : Str) (n : Int), x = .str z ∧ y = .int n ∧ PySem.MulOk z n ∧ Q (.str (Txt.mul z n)) H
theorem op_mulS {X : Cx} : OpR X (binaryOp .Mult) rMulS := by
  intro pins s σ H x y v u Q I rx ry h
  obtain ⟨z, n, rfl, rfl, ok, q⟩ := h
  obtain ⟨t, rfl⟩ := rx
  obtain ⟨t', rfl⟩ := ry
  exact PySem.SB.mul ok fun t' k => ⟨.str _, H, I.tok _, ⟨_, rfl⟩, q⟩
end Bp
namespace Bp
open PySem L2 Evl
/-! ### texts of figures -/
abbrev num (n : Nat) : Str := (toString ((n : Nat) : Int) : Str)
theorem num_tl (n : Nat) : (num n).cps.toList = TL.numL n := TL.tl_num n
theorem str_ext {x y : Str} (h : x.cps.toList = y.cps.toList) : x = y := by
  obtain ⟨⟨a⟩⟩ := x
  obtain ⟨⟨b⟩⟩ := y
  have : a = b := h
  rw [this]
def figB (c : Nat) : Bool := decide (48 ≤ c ∧ c ≤ 57)
/-- a length as it is written -/
def wlB (z : Str) : Bool := decide (1 ≤ z.length ∧ z.length ≤ 60) && (z.cps.toList.all figB && (decide (z = "0") || decide (z.cps.toList.head? ≠ some 48)))
theorem numL_fig (n : Nat) : (TL.numL n).all figB = true := by
  induction n using Nat.strongRecOn with
  | _ n ih =>
    rcases Nat.lt_or_ge n 10 with h | h
    · rw [TL.numL_lt h]
      show (figB (48 + n) && true) = true
      rw [Bool.and_true]
      exact decide_eq_true ⟨by omega, by omega⟩
    · rw [TL.numL_step h, List.all_append, ih (n / 10) (by omega)]
      show (true && (figB (48 + n % 10) && true)) = true
      rw [Bool.true_and, Bool.and_true]
      exact decide_eq_true ⟨by omega, by omega⟩
theorem numL_head {n : Nat} (h : 0 < n) : (TL.numL n).head? ≠ some 48 := by
  induction n using Nat.strongRecOn with
  | _ n ih =>
    rcases Nat.lt_or_ge n 10 with h1 | h1
    · rw [TL.numL_lt h1]
      show some (48 + n) ≠ some 48
      intro z
      have := Option.some.inj z
      omega
    · rw [TL.numL_step h1]
      have i := ih (n / 10) (by omega) (by omega)
      cases e : TL.numL (n / 10) with
      | nil => exact absurd e (TL.numL_ne _)
      | cons x xs =>
        rw [e] at i
        exact i
/-- every list of figures without a 0 ahead is some number's -/
theorem numL_of : ∀ (k : Nat) (l : List Nat), l.length = k → l ≠ [] → l.all figB = true → l.head? ≠ some 48 → ∃ n, 0 < n ∧ TL.numL n = l := by
  intro k
  induction k with
  | zero => intro l hl h; exact absurd (List.length_eq_zero_iff.mp hl) h
  | succ k ih =>
    intro l hl hne hf hh
    obtain ⟨l', c, rfl⟩ : ∃ l' c, l = l' ++ [c] := ⟨l.dropLast, l.getLast hne, (List.dropLast_concat_getLast hne).symm⟩
    rw [List.length_append] at hl
    have hl' : l'.length = k := by simpa using hl
    rw [List.all_append] at hf
    have hf' := Bool.and_eq_true_iff.mp hf
    have hc : figB c = true := by
      have := hf'.2
      simpa using this
    have hc2 := of_decide_eq_true hc
    cases l' with
    | nil =>
      have : c ≠ 48 := fun z => hh (by rw [z]; rfl)
      exact ⟨c - 48, by omega, by rw [TL.numL_lt (by omega), show 48 + (c - 48) = c by omega]; rfl⟩
    | cons x xs =>
      obtain ⟨n, h0, hn⟩ := ih (x :: xs) hl' (by simp) hf'.1 hh
      refine ⟨n * 10 + (c - 48), by omega, ?_⟩
      rw [TL.numL_step (by omega), show (n * 10 + (c - 48)) / 10 = n by omega, show (n * 10 + (c - 48)) % 10 = c - 48 by omega, hn, show 48 + (c - 48) = c by omega]
theorem numL_low : ∀ (k n : Nat), (TL.numL n).length ≤ k → n < 10 ^ k := by
  intro k
  induction k with
  | zero =>
    intro n h
    have := TL.numL_ne n
    cases e : TL.numL n with
    | nil => exact absurd e this
    | cons x xs => rw [e] at h; simp at h
  | succ k ih =>
    intro n h
    rcases Nat.lt_or_ge n 10 with h1 | h1
    · exact Nat.lt_of_lt_of_le h1 (by rw [Nat.pow_succ]; have := Nat.pow_pos (n := k) (show 0 < 10 by decide); omega)
    · rw [TL.numL_step h1, List.length_append] at h
      have := ih (n / 10) (by simpa using h)
      rw [Nat.pow_succ]
      omega
theorem num_len (n : Nat) : (num n).length = (TL.numL n).length := by
  rw [← num_tl]
  show (num n).cps.size = _
  rw [Array.length_toList]
theorem zero_num : num 0 = "0" := by decide
/-- a text is a length's exactly if it is that of a number below 10 ** 60 -/
theorem wl_num {z : Str} (h : wlB z = true) : ∃ n : Nat, n < 10 ^ 60 ∧ z = num n := by
  unfold wlB at h
  simp only [Bool.and_eq_true, Bool.or_eq_true, decide_eq_true_eq] at h
  obtain ⟨⟨h1, h2⟩, h3, h4⟩ := h
  rcases h4 with rfl | h4
  · exact ⟨0, by decide, zero_num.symm⟩
  · have hl : z.cps.toList.length = z.length := Array.length_toList
    obtain ⟨n, h0, hn⟩ := numL_of _ z.cps.toList rfl (fun e => by rw [e] at hl; simp at hl; omega) h3 h4
    have e : z = num n := str_ext (by rw [num_tl, hn])
    refine ⟨n, numL_low 60 n ?_, e⟩
    rw [hn, hl]
    exact h2
theorem num_wl {n : Nat} (h : n < 10 ^ 60) : wlB (num n) = true := by
  have hl := num_le (i := (n : Int)) (by omega) (by omega)
  have h1 : 1 ≤ (num n).length := by
    rw [num_len]
    cases e : TL.numL n with
    | nil => exact absurd e (TL.numL_ne n)
    | cons x xs => simp
  unfold wlB
  rw [num_tl, numL_fig, decide_eq_true (show 1 ≤ (num n).length ∧ (num n).length ≤ 60 from ⟨h1, hl⟩)]
  rcases Nat.eq_zero_or_pos n with rfl | h0
  · rw [zero_num]
    decide
  · rw [decide_eq_true (numL_head h0)]
    simp
theorem num_int {n : Nat} (h : n < 10 ^ 60) : intText? (num n) = some (n : Int) := TL.int_num (by
  have := num_le (i := (n : Int)) (by omega) (by omega)
  have e := num_len n
  have : (num n).length ≤ 60 := this
  omega)
theorem num_inj {n m : Nat} (h : num n = num m) (hn : n < 10 ^ 60) (hm : m < 10 ^ 60) : n = m := by
  have a := num_int hn
  rw [h, num_int hm] at a
  have := Option.some.inj a
  omega
/-- what a text writes -/
noncomputable def dec (z : Str) : Option Nat := if h : wlB z = true then some (wl_num h).choose else none
theorem dec_yes {z : Str} (h : wlB z = true) : ∃ n : Nat, n < 10 ^ 60 ∧ z = num n ∧ dec z = some n := by
  have p := (wl_num h).choose_spec
  exact ⟨_, p.1, p.2, by unfold dec; rw [dif_pos h]⟩
theorem dec_no {z : Str} (h : wlB z = false) : dec z = none := by
  unfold dec
  rw [dif_neg (by rw [h]; decide)]
theorem dec_num {n : Nat} (h : n < 10 ^ 60) : dec (num n) = some n := by
  obtain ⟨m, h1, h2, h3⟩ := dec_yes (num_wl h)
  rw [h3, num_inj h2 h h1]
end Bp
namespace Bp
open PySem L2 Evl
/-! ### texts of things, read -/
theorem join_more {y : Str} (h1 : y.length = 1) : ∀ ps : List Str, ps.length ≤ (Str.join y ps).length + 1 ∧ ∀ p ∈ ps, p.length ≤ (Str.join y ps).length
  | [] => ⟨Nat.zero_le _, fun _ h => nomatch h⟩
  | [p] => ⟨by show 1 ≤ _; omega, fun x h => by rw [List.mem_singleton.mp h]; exact Nat.le_refl _⟩
  | p :: q :: r => by
    obtain ⟨a, b⟩ := join_more h1 (q :: r)
    have e : (Str.join y (p :: q :: r)).length = p.length + y.length + (Str.join y (q :: r)).length := by
      show (p ++ y ++ Str.join y (q :: r)).length = _
      rw [Str.length_append, Str.length_append]
    refine ⟨by rw [List.length_cons, e]; omega, fun x h => ?_⟩
    rw [e]
    rcases List.mem_cons.mp h with rfl | h
    · omega
    · have := b x h
      omega
theorem split_few {z y : Str} (h1 : y.length = 1) : (Txt.split z y).length ≤ z.length + 1 ∧ ∀ p ∈ Txt.split z y, p.length ≤ z.length := by
  have := join_more h1 (Txt.split z y)
  rw [StrLaws.join_split] at this
  exact this
noncomputable def rdW (w : Str) : Option Th := match (Txt.split w "/").map dec with
  | [some a, some b, some c] => some ((a : Int), (b : Int), (c : Int))
  | _ => none
theorem rdW_yes {w : Str} (h3 : (Txt.split w "/").length = 3) (ha : (Txt.split w "/").all wlB = true) : ∃ a b c : Nat, (a < 10 ^ 60 ∧ b < 10 ^ 60 ∧ c < 10 ^ 60) ∧ Txt.split w "/" = [num a, num b, num c] ∧ rdW w = some ((a : Int), (b : Int), (c : Int)) := by
  unfold rdW
  match hp : Txt.split w "/", h3, ha with
  | [p, q, r], _, ha =>
    simp only [List.all_cons, List.all_nil, Bool.and_true, Bool.and_eq_true] at ha
    obtain ⟨a, a1, a2, a3⟩ := dec_yes ha.1
    obtain ⟨b, b1, b2, b3⟩ := dec_yes ha.2.1
    obtain ⟨c, c1, c2, c3⟩ := dec_yes ha.2.2
    refine ⟨a, b, c, ⟨a1, b1, c1⟩, by rw [← a2, ← b2, ← c2], ?_⟩
    rw [List.map_cons, List.map_cons, List.map_cons, List.map_nil, a3, b3, c3]
theorem rdW_no {w : Str} (h : ¬ ((Txt.split w "/").length = 3 ∧ (Txt.split w "/").all wlB = true)) : rdW w = none := by
  unfold rdW
  match hp : Txt.split w "/", h with
  | [], _ => rfl
  | [p], _ => cases e : dec p <;> simp [e]
  | [p, q], _ => cases e : dec p <;> cases e2 : dec q <;> simp [e, e2]
  | [p, q, r], h =>
    have hn : ¬ ((wlB p && (wlB q && (wlB r && true))) = true) := fun z => h ⟨rfl, z⟩
    rcases Bool.eq_false_or_eq_true (wlB p) with h1 | h1
    · rcases Bool.eq_false_or_eq_true (wlB q) with h2 | h2
      · rcases Bool.eq_false_or_eq_true (wlB r) with h3 | h3
        · rw [h1, h2, h3] at hn
          exact absurd rfl hn
        · cases e : dec p <;> cases e2 : dec q <;> simp [e, e2, dec_no h3]
      · cases e : dec p <;> simp [e, dec_no h2]
    · simp [dec_no h1]
  | p :: q :: r :: s :: t, _ => cases e : dec p <;> cases e2 : dec q <;> cases e3 : dec r <;> simp [e, e2, e3]
theorem rdW_nn {w : Str} {t : Th} (h : rdW w = some t) : Nn t ∧ Sh t ∧ wTh t = w := by
  by_cases g : (Txt.split w "/").length = 3 ∧ (Txt.split w "/").all wlB = true
  · obtain ⟨a, b, c, ⟨h1, h2, h3⟩, hp, hr⟩ := rdW_yes g.1 g.2
    rw [hr] at h
    obtain rfl := Option.some.inj h
    refine ⟨⟨by show (0 : Int) ≤ (a : Int); omega, by show (0 : Int) ≤ (b : Int); omega, by show (0 : Int) ≤ (c : Int); omega⟩, ⟨by show (a : Int) < 10 ^ 60; omega, by show (b : Int) < 10 ^ 60; omega, by show (c : Int) < 10 ^ 60; omega⟩, ?_⟩
    unfold wTh
    rw [TL.join_eq]
    have := StrLaws.join_split w "/"
    rw [hp] at this
    exact this
  · rw [rdW_no g] at h
    cases h
/-- all, or none -/
def allOf {α : Type} : List (Option α) → Option (List α)
  | [] => some []
  | none :: _ => none
  | some a :: r => (allOf r).map (a :: ·)
theorem allOf_some {α : Type} : ∀ {l : List (Option α)} {r : List α}, allOf l = some r ↔ l = r.map some
  | [], r => by
    cases r with
    | nil => simp [allOf]
    | cons x xs => simp [allOf]
  | none :: l, r => by
    cases r <;> simp [allOf]
  | some a :: l, r => by
    cases r with
    | nil => cases h : allOf l <;> simp [allOf, h]
    | cons x xs =>
      have ih := @allOf_some α l xs
      cases h : allOf l with
      | none =>
        simp only [allOf, h, Option.map_none, List.map_cons, List.cons.injEq, Option.some.injEq]
        refine ⟨(fun z => by cases z), fun ⟨_, z⟩ => ?_⟩
        have := ih.mpr z
        rw [h] at this
        cases this
      | some y =>
        rw [h] at ih
        simp only [allOf, h, Option.map_some, Option.some.injEq, List.cons.injEq, List.map_cons]
        exact ⟨fun z => ⟨z.1, ih.mp (by rw [z.2])⟩, fun z => ⟨z.1, Option.some.inj (ih.mpr z.2)⟩⟩
/-- a text of things -/
noncomputable def rdT (z : Str) : Option (List Th) := if z = "-" then some [] else allOf ((Txt.split z " ").map rdW)
theorem rdT_words {z : Str} {ts : List Th} (hz : z ≠ "-") (h : rdT z = some ts) : (Txt.split z " ").map rdW = ts.map some := by
  unfold rdT at h
  rw [if_neg hz] at h
  exact allOf_some.mp h
theorem rdT_nn {z : Str} {ts : List Th} (h : rdT z = some ts) : (∀ t ∈ ts, Nn t ∧ Sh t) ∧ (if ts = [] then ("-" : Str) else wThs ts) = z := by
  by_cases hz : z = "-"
  · subst hz
    have : rdT "-" = some [] := by unfold rdT; rw [if_pos rfl]
    rw [this] at h
    obtain rfl := Option.some.inj h
    exact ⟨(fun t ht => nomatch ht), rfl⟩
  · have e := rdT_words hz h
    have hw : ∀ (ws : List Str) (ts : List Th), ws.map rdW = ts.map some → (∀ t ∈ ts, Nn t ∧ Sh t) ∧ ts.map wTh = ws := by
      intro ws
      induction ws with
      | nil =>
        intro ts h
        cases ts with
        | nil => exact ⟨(fun t ht => nomatch ht), rfl⟩
        | cons _ _ => cases h
      | cons w ws ih =>
        intro ts h
        cases ts with
        | nil => cases h
        | cons t ts =>
          rw [List.map_cons, List.map_cons] at h
          obtain ⟨h1, h2⟩ := List.cons.inj h
          obtain ⟨i1, i2⟩ := ih ts h2
          obtain ⟨n, s, e⟩ := rdW_nn h1
          exact ⟨fun x hx => (List.mem_cons.mp hx).elim (fun z => by rw [z]; exact ⟨n, s⟩) (i1 x), by rw [List.map_cons, e, i2]⟩
    obtain ⟨h1, h2⟩ := hw _ _ e
    refine ⟨h1, ?_⟩
    have j := StrLaws.join_split z " "
    have hne : ts ≠ [] := fun q => by
      rw [q] at h2
      rw [← h2] at j
      have : Txt.split z " " = [] := by rw [← h2]; rfl
      have l := congrArg List.length (congrArg (List.map TL.tl) this)
      rw [TL.split_spl z " " (by decide) (TL.kind_ok (by decide +kernel))] at l
      revert l
      have : ∀ (S : List Nat) (k : Nat) (acc l : List Nat), (TL.spl S k acc l).length ≠ 0 := by
        intro S k acc l
        induction l generalizing k acc with
        | nil => unfold TL.spl; simp
        | cons c r ih =>
          cases k with
          | zero =>
            unfold TL.spl
            split
            · simp
            · exact ih _ _
          | succ k => unfold TL.spl; exact ih _ _
      exact fun l => this _ _ _ _ l
    rw [if_neg hne]
    unfold wThs
    rw [h2, TL.join_eq]
    exact j
end Bp
namespace Bp
open PySem L2 Evl
/-! ### readings of texts -/
section
variable {K : PySem.W.Frag} {σ : L2.St} {H : Hp} {te : TE}
/-- over a text, sign by sign -/
theorem el_lcS {z : Str} {tl : TE} {t : TT} {j : Nat} {vs : List Nat} (f : Nat → Bool) (v : Nat → V) (h : Ev tl σ H (.str z)) (hz : z.length ≤ 40000) (hw : ∀ x, wipe ((wipe σ vs).set j (some x)) vs = wipe σ vs)
    (ht : ∀ (i c : Nat) H1, Ex H H1 → z.cps[i]? = some c → EvT t ((wipe σ vs).set j (some (.str ⟨#[c]⟩))) H1 (f i)) (he : ∀ (i c : Nat) H1, Ex H H1 → z.cps[i]? = some c → f i = true → Ev te ((wipe σ vs).set j (some (.str ⟨#[c]⟩))) H1 (v i)) :
    EvL (tLc (iStr tl) (gName j) t te vs) σ H (given z.length f v) := fun H0 e Q q => h H0 e _ fun H1 e1 => ⟨z, rfl, fun Dl hD =>
  lc_it walk_str (Cw H1 f v Dl) ⟨hD, Ex.new hD, upd_same⟩ (fun i H' _ p => trivial) (fun i x H' H'' hi p y => by
    obtain ⟨rfl, c, hc, rfl⟩ := y
    have hi : i < z.length := hi
    exact ⟨hw _, cw_turn p (by omega) (ht i c H1 (e.trans e1) hc) (fun hf => he i c H1 (e.trans e1) hc hf)⟩)
    (fun H' p => q Dl H' (fresh_back e1 p.1) (e1.trans p.2.1) p.2.2)⟩
def rSplit : V → List V → Hp → VK → Prop := fun x xs H Q => ∃ a b, x = .str a ∧ xs = [.str b] ∧ (b.length == 0) = false ∧ a.length + 2 ≤ sizeLine ∧ rNewStrs (Txt.split a b) H Q
theorem el_split {z b : Str} {to tb : TE} (h : Ev to σ H (.str z)) (hb : ∀ H1, Ex H H1 → Ev tb σ H1 (.str b)) (h1 : (b.length == 0) = false) (hz : z.length ≤ 40000) : EvL (tM1 rSplit to tb) σ H ((Txt.split z b).map V.str) := fun H1 e Q q =>
  h H1 e _ fun H2 e2 => ⟨⟨z, rfl⟩, hb H2 (e.trans e2) H2 (Ex.refl H2) _ fun H3 e3 => ⟨z, b, rfl, rfl, h1, by rw [sizeLine_eq]; omega, fun p np => q p _ (fresh_back (e2.trans e3) np) ((e2.trans e3).trans (Ex.new np)) upd_same⟩⟩
theorem rc_lenS {z : Str} (hz : z.length ≤ 40000) : RC (fun xs H Q => ∃ z, xs = [V.str z] ∧ z.length ≤ sizeLine ∧ Q (.int z.length) H) [.str z] H (.int (z.length : Int)) := fun H1 e Q q => ⟨z, rfl, by rw [sizeLine_eq]; omega, q H1 (Ex.refl H1)⟩
theorem rc_intS {z : Str} {n : Int} (h : intText? z = some n) (hz : z.length ≤ 640) : RC (fun xs H Q => ∃ a n, xs = [V.str a] ∧ PySem.intText? a = some n ∧ a.length ≤ 640 ∧ Q (.int n) H) [.str z] H (.int n) := fun H1 e Q q => ⟨z, n, rfl, h, hz, q H1 (Ex.refl H1)⟩
theorem rv_inS {c : Nat} {z : Str} : RV (fun x y H Q => ∃ (c : Nat) (z : Str), x = .str ⟨#[c]⟩ ∧ y = .str z ∧ Q (.bl (decide (c ∈ z.cps.toList))) H) (.str ⟨#[c]⟩) (.str z) H (.bl (decide (c ∈ z.cps.toList))) := fun H1 e Q q => ⟨c, z, rfl, rfl, q H1 (Ex.refl H1)⟩
def rItem : R2 := fun x y H Q => ∃ z i c, x = .str z ∧ y = .int i ∧ 0 ≤ i ∧ i < 2 ^ 63 ∧ i < z.length ∧ z.cps[i.toNat]? = some c ∧ Q (.str ⟨#[c]⟩) H
theorem rv_item0 {z : Str} {c : Nat} (h : z.cps[0]? = some c) : RV rItem (.str z) (.int 0) H (.str ⟨#[c]⟩) := fun H1 e Q q => ⟨z, 0, c, rfl, rfl, by decide, by decide, by
  have : 0 < z.cps.size := (Array.getElem?_eq_some_iff.mp h).1
  show (0 : Int) < (z.cps.size : Int)
  omega, h, q H1 (Ex.refl H1)⟩
def FIG : Str := "0123456789"
theorem fig_mem (c : Nat) : decide (c ∈ FIG.cps.toList) = figB c := by
  have e : FIG.cps.toList = [48, 49, 50, 51, 52, 53, 54, 55, 56, 57] := by decide +kernel
  rw [e]
  unfold figB
  refine decide_eq_decide.mpr ?_
  simp only [List.mem_cons, List.not_mem_nil, or_false]
  omega
theorem one_zero (c : Nat) : decide (V.str (⟨#[c]⟩ : Str) = V.str "0") = decide (c = 48) := by
  refine decide_eq_decide.mpr ⟨fun h => ?_, fun h => by rw [h]; rfl⟩
  have h1 := V.str.inj h
  have h2 : (#[c] : Array Nat) = #[48] := congrArg Str.cps h1
  have h3 := congrArg Array.toList h2
  exact (List.cons.inj h3).1
end
end Bp
namespace Bp
open PySem L2 Evl
theorem tw_less {α : Type} (p : α → Bool) : ∀ l : List α, l.all p = false → (l.takeWhile p).length < l.length ∧ (l.drop (l.takeWhile p).length).all p = false
  | [], h => by cases h
  | x :: l, h => by
    cases e : p x with
    | true =>
      rw [List.all_cons, e, Bool.true_and] at h
      obtain ⟨a, b⟩ := tw_less p l h
      rw [List.takeWhile_cons, e]
      simp only [if_true, List.length_cons, List.drop_succ_cons]
      exact ⟨by omega, b⟩
    | false =>
      rw [List.takeWhile_cons, e]
      simp only [Bool.false_eq_true, if_false, List.length_nil, List.drop_zero, List.length_cons]
      exact ⟨by omega, h⟩
theorem tw_all {α : Type} (p : α → Bool) : ∀ l : List α, l.all p = true → l.takeWhile p = l
  | [], _ => rfl
  | x :: l, h => by
    rw [List.all_cons, Bool.and_eq_true] at h
    rw [List.takeWhile_cons, h.1, if_pos rfl, tw_all p l h.2]
theorem fig_goes : (FIG.cps.contains : Nat → Bool) = figB := by
  funext c
  rw [← fig_mem]
  by_cases h : c ∈ FIG.cps.toList
  · rw [decide_eq_true h]
    exact Array.contains_iff_mem.mpr (Array.mem_toList_iff.mp h)
  · rw [decide_eq_false h]
    cases e : FIG.cps.contains c with
    | false => rfl
    | true => exact absurd (Array.mem_toList_iff.mpr (Array.contains_iff_mem.mp e)) h
theorem sub_len (z : Str) (i j : Nat) : (Builtin.Str.strSub z i j).length = min j z.length - i := by
  show (z.cps.extract i j).size = _
  rw [Array.size_extract]
  rfl
/-- strip("0123456789") leaves nothing exactly of figures -/
theorem strip_fig {z : Str} (hz : 1 ≤ z.length) : decide (V.str (Txt.stripChars z FIG) = V.str "") = z.cps.toList.all figB := by
  have zl : z.cps.toList.length = z.length := Array.length_toList
  have len0 : ∀ x : Str, (decide (V.str x = V.str "")) = decide (x.length = 0) := fun x => decide_eq_decide.mpr ⟨fun h => by rw [V.str.inj h]; rfl, fun h => by
    have : x = "" := str_ext (by
      have : x.cps.toList.length = 0 := by rw [Array.length_toList]; exact h
      rw [List.length_eq_zero_iff.mp this]
      rfl)
    rw [this]⟩
  rw [len0]
  unfold Txt.stripChars Txt.stripBy
  rw [fig_goes]
  cases e : z.cps.toList.all figB with
  | true =>
    have lo : stripLo figB true z = z.length := by
      unfold stripLo
      rw [if_pos rfl, tw_all _ _ e, zl]
    have ns : stripSame figB true true z = false := by
      unfold stripSame
      rw [lo]
      have : (z.length == 0) = false := by
        cases q : z.length == 0 with
        | false => rfl
        | true => have := eq_of_beq q; omega
      rw [this]
      rfl
    rw [ns]
    simp only [Bool.false_eq_true, if_false]
    refine decide_eq_true ?_
    unfold stripped
    rw [lo, sub_len]
    omega
  | false =>
    refine decide_eq_false ?_
    obtain ⟨h1, h2⟩ := tw_less figB _ e
    by_cases q : stripSame figB true true z = true
    · rw [if_pos q]
      omega
    · rw [if_neg q]
      have lo : stripLo figB true z = (z.cps.toList.takeWhile figB).length := by
        unfold stripLo
        rw [if_pos rfl]
      have hi : stripHi figB true z (stripLo figB true z) = z.length - ((z.cps.toList.drop (z.cps.toList.takeWhile figB).length).reverse.takeWhile figB).length := by
        unfold stripHi
        rw [if_pos rfl, lo]
      have h3 : (z.cps.toList.drop (z.cps.toList.takeWhile figB).length).reverse.all figB = false := by
        rw [List.all_reverse]
        exact h2
      have h4 := (tw_less figB _ h3).1
      rw [List.length_reverse, List.length_drop] at h4
      unfold stripped
      rw [sub_len, hi, lo]
      rw [zl] at h1 h4
      omega
end Bp
set_option maxHeartbeats 2000000
namespace Bp
open PySem PySem.Spec PySem.Calls PyProof.Rows L2 L2H HotX
/-! ### any(list) while an exception is handled -/
section
variable {prog : Program} {w : World} {A : Around} {E : Value → Shared → Prop} {s : Shared}
theorem list_end_hot {I L x1 : Addr} {n : Nat} {vals : Array Value} {Q : Option Value → Shared → Prop} (hot : HotAt A x1 s.heap) (apart : x1 ≠ I) (here : s.heap.IsListIter I L n) (list : s.heap.IsList L vals) (over : vals[n]? = none)
    (q : ∀ h', (∀ b o, b ≠ I → s.heap.get? b = some o → h'.get? b = some o) → Q none { s with heap := h' }) : wpAny (model prog w) A (pyNext (.ref I)) Q E s := by
  obtain ⟨oI, gI, cI, dI⟩ := id here
  obtain ⟨oL, gL, _, _, dL⟩ := list
  obtain ⟨hand, o1, vs1, g1, d1, c1⟩ := hot
  have kept : ∀ (f : Obj → Obj) b u, b ≠ I → s.heap.get? b = some u → (s.heap.update I f).get? b = some u := fun f b u ne z => (Heap.get?_update_other _ _ (Ne.symm ne)).trans z
  unfold pyNext
  refine wpAny_bind (wpAny_attempt (wpAny_callSpecial?_slot (name := Str.ofString "__next__") here.typeIs slot_listiter_next (wpAny_call_entry slot_listiter_next here.typeIs entry_listiter_next ?_ (args_listiter_next _))))
  refine wpAny_bind (m := field (.ref I) 0) (wpAny_field gI dI (x := .ref L) rfl ?_)
  show wpAny _ _ (if (Value.ref L == Value.none) = true then _ else _) _ _ s
  rw [if_neg (show ¬ ((Value.ref L == Value.none) = true) from Bool.false_ne_true)]
  refine wpAny_bind (m := field (.ref I) 1) (wpAny_field gI dI (x := .int n 0) rfl (wpAny_bind (m := seqItems? (.ref L)) (wpAny_seqItems gL dL ?_)))
  simp only [Int.toNat_natCast, over]
  refine wpAny_bind (wpAny_rule (wpAny_bind (wpAny_setField gI dI (by simp) (wpAny_bind (m := newExc (.type "StopIteration") []) ?_))))
  simp only [newExc, newTuple]
  refine wpAny_bind (wpAny_newObj_type (wpAny_bind (m := firstArgMember _ _) (wpAny_of_eq (a := Value.none) (by first | rfl | (simp only [firstArgMember]; rfl)) (wpAny_newObj_type ?_ (by size_fits)))) (by size_fits))
  refine raiseNew_hot ⟨hand, o1, vs1, Heap.get?_push_of_some _ (Heap.get?_push_of_some _ (kept _ _ _ apart g1)), d1, c1⟩ (Nat.ne_of_lt (Heap.lt_size (Heap.get?_push_of_some _ (kept _ _ _ apart g1)))) (Heap.get?_push_size _ rfl) rfl (by first | (simp; done) | (simp; omega)) ?_
  refine wpAny_bind (wpAny_isInstance (T := "StopIteration") (b := true) ⟨_, Heap.get?_update_self _ (Heap.get?_push_size _ rfl) rfl, rfl⟩ isSubtype_stop (wpAny_pure (q _ fun b u ne z => ?_)))
  exact (Heap.get?_update_other _ _ (Nat.ne_of_gt (Heap.lt_size (Heap.get?_push_of_some _ (kept _ _ _ ne z))))).trans (Heap.get?_push_of_some _ (Heap.get?_push_of_some _ (kept _ _ _ ne z)))
/-- a walk over a list, the handled exception at x1 -/
theorem walks_hot {x1 : Addr} {o1 : Obj} {vs1 : Array Value} (hh : A.handled = some (.ref x1)) (d1 : o1.data = .fields vs1) (c1 : vs1[2]? = some .none) (I ax : Addr) (hne : ax ≠ I) (hx : x1 ≠ I) (items : Array Value) :
    Walks prog w A I [I, ax, x1] [I] items.size (fun i v => items[i]? = some v) (fun i h => h.IsListIter I ax i ∧ h.IsList ax items ∧ h.get? x1 = some o1) where
  sub := fun b hb => by
    have e : b = I := by simpa using hb
    rw [e]
    exact List.mem_cons_self
  frame := fun i h h' was k => ⟨was.1.at fun o z => k I (by simp) o z, was.2.1.at fun o z => k ax (by simp) o z, k x1 (by simp) _ was.2.2⟩
  item := fun n s Q E lt was q => wpAny_pyNext_list_item was.1 was.2.1 (x := items[n]) (by simp [lt]) fun h' now sb =>
    q _ h' s.toks (by simp [lt]) ⟨now, was.2.1.extBut sb.extBut hne, sb.extBut x1 _ hx was.2.2⟩ fun b o off z => sb.extBut b o (fun y => off (by simp [y])) z
  done := fun s Q E was q => list_end_hot ⟨hh, o1, vs1, was.2.2, d1, c1⟩ hx was.1 was.2.1 (by simp) fun h' k => q h' s.toks fun b o off z => k b o (fun y => off (by simp [y])) z
  self := fun _ _ _ _ was q => wpAny_pyIter_listiter was.1 q
end
theorem cr_anyH {X : Cx} (hc : HotC X) : CallR X (.builtin "any") (rAny X.K) := by
  intro pins s σ H vs us Q J rel ask
  obtain ⟨a, bs, rfl, seq, q⟩ := ask
  obtain ⟨its, rv, isL, _⟩ := J.list seq
  obtain ⟨x1, hand, o1, vs1, g1, d1, c1⟩ := hc.at J
  rw [Vals.ref1 rel]
  refine call_any_walk (iter_any isL.isList fun s2 e2 was ne => ?_)
  subst e2
  refine ⟨_, _, _, _, _, _, _, rfl, walks_hot (A := X.A.in1) hand d1 c1 _ a ne (Nat.ne_of_lt (Heap.lt_size g1)) its.toArray, ⟨was.1, was.2, Heap.get?_push_of_some _ g1⟩, truth_bools rv.bls, fun h' tk k => ⟨.bl _, H, J.kept fun b o z => k b o (fun mem => ?_) (Heap.get?_push_of_some _ z), ?_, q⟩⟩
  · have : b = s.heap.objs.size := by simpa using mem
    rw [this] at z
    exact absurd (Heap.lt_size z) (Nat.lt_irrefl _)
  · show Value.bool _ = Value.bool _
    rw [← L2.any_range, rv.bls, List.size_toArray, List.length_map]
end Bp
set_option maxHeartbeats 4000000
namespace Bp
open PySem PySem.Spec PySem.Calls PyProof.Rows L2
/-! ### a list display whose element may raise -/
theorem note_same {x : Value} {e1 e2 : Env} (h : e1.frame = e2.frame) : noteFrame x e1 = noteFrame x e2 := by
  unfold noteFrame PySem.frameOf
  rw [h]
/-- what the block is to leave: the names go, then the list or the exception -/
def cPost (M : Model) (A : Around) (E Q : Value → Shared → Prop) (acc : Value) (C : Addr) (fr : Option Addr) (r : Result) (s' : Shared) : Prop :=
  ∃ m, s'.heap.Ns C m ∧ ∀ h', Heap.SameBut C s'.heap h' → match r with
    | .ok _ => Q acc { s' with heap := h' }
    | .error x => ∀ env : Env, env.frame = fr → wpAny M A (passOn "comprehension.variables-let-go" x env : Sem Value) (fun _ _ => False) E { s' with heap := h' }
theorem comp_frame {M : Model} {A : Around} {E Q : Value → Shared → Prop} {s : Shared} {env : Env} {e : Expr} {scope : Scope} {pos : Pos} {newAcc first : Sem Value} {g : Comprehension} {gs : List Comprehension} {cl : List (Str × Addr)}
    (hcl : clausesOf e = g :: gs) (hs : ∀ x, foldedSetIterable g.iter env x = pure x) (hclos : closureFor scope env = pure cl) (hkind : scope.kind = .function) (hnames : ∀ x ∈ scope.names, x.2 = .local → scope.names.lookup x.1 = some .local)
    (h : wpAny M A first (fun x s1 => wpAny M A (pyIter x) (fun it s2 => wpAny M A newAcc (fun acc s3 => wpAny M A (newFunctionEnv scope env.globals cl [] env.qual none .none (some env)) (fun ce s4 =>
      codeAny M A (.compStart e 0 it acc { ce with scope := relabel scope env }) (cPost M A E Q acc ce.locals ce.frame) s4) E s3) E s2) E s1) E s) : wpAny M A (comprehension e scope env pos newAcc false first) Q E s := by
  unfold comprehension
  rw [hclos, hcl]
  refine wpAny_bind (wpAny_mono h (fun x s1 k1 => wpAny_bind (wpAny_standAt (wpAny_bind (wpAny_of_eq (hs x) (wpAny_bind (wpAny_holding (wpAny_mono k1 (fun it s2 k2 => wpAny_standIf (wpAny_bind (wpAny_mono k2 (fun acc s3 k3 =>
    wpAny_bind (wpAny_pure (wpAny_bind (wpAny_mono k3 (fun ce s4 k4 => ?_) fun _ _ z => z)))) fun _ _ z => z))) fun _ _ z => z))))))) fun _ _ z => z)
  dsimp only
  have loc : ∀ y ∈ (scope.names.filter fun y => (y.2 == .local || y.2 == .cell) && y.1 != (".0" : Str)).reverse, y.2 = .local → Env.kindOf { ce with scope := relabel scope env } y.1 = some .local :=
    fun y hy len8 => lookup_relabel_local (hnames y (List.mem_filter.mp (List.mem_reverse.mp hy)).1 len8)
  refine wpAny_holding (wpAny_bind (wpAny_attempt (wpAny_holding (wpAny_run (codeAny_mono k4 fun r s' hr => ?_)))))
  obtain ⟨m, nsC, hr⟩ := hr
  cases r with
  | ok f => exact wpAny_bind (wpAny_holding (wpAny_comp_letGo (cenv := { ce with scope := relabel scope env }) hkind _ s' m loc nsC fun h' m' _ sb => wpAny_pure (hr h' sb)))
  | error x => exact wpAny_bind (wpAny_holding (wpAny_comp_letGo (cenv := { ce with scope := relabel scope env }) hkind _ s' m loc nsC fun h' m' _ sb => wpAny_mono (hr h' sb _ rfl) (fun _ _ f => f.elim) fun _ _ y => y))
end Bp
namespace Bp
open PySem PySem.Spec PySem.Calls PyProof.Rows L2
theorem ff_to {h h' ground ground' : Heap} (n : ∀ b, ground.get? b = none → ground'.get? b = none) : ∀ {l : List Env}, (∀ b ∈ frs l, ∀ o, h.get? b = some o → h'.get? b = some o) → h.FunFrames ground l → h'.FunFrames ground' l
  | [], _, _ => trivial
  | e :: l, k, ⟨q1, ⟨L, o, f1, f2, near3, f4⟩, q3⟩ => ⟨q1, ⟨L, o, f1, n L f2, k L (List.mem_filterMap.mpr ⟨e, List.mem_cons_self, f1⟩) o near3, f4⟩, ff_to n (fun b hb => k b (by
      obtain ⟨x, hx, hf⟩ := List.mem_filterMap.mp hb
      exact List.mem_filterMap.mpr ⟨x, List.mem_cons_of_mem _ hx, hf⟩)) q3⟩
section
variable {X : Cx} {pins pins' : List (Addr × Obj)} {σ σ' : L2.St} {H3 H' : Hp} {s3 sj s' : Shared} {fp : List Addr} {scope : Scope} {ce : Env} {E : XK} {xe : Value → Shared → Prop} {Q : Value → Shared → Prop} {acc e : Value}
/-- what a call within the block lets out goes on as an exception of the def itself -/
theorem comp_out (J3 : Inv X pins σ H3 s3) (near3 : ∀ b ∈ fp, FpOk X pins H3 b ∧ b < s3.heap.objs.size) (cL : ce.locals = s3.heap.objs.size) (cF : ce.frame = X.env.frame) (hst : X.stack = X.env :: X.outer) (hfr : X.env.frame = some X.env.locals) (tk : L2N.Takes X fun cls d _ H => E cls d H)
    (J : Inv ((X.blk s3 H3 scope ce fp).wish xe) pins' σ' H' sj) (c : L2N.CX X.prog X.w X.stack H' sj E e s') :
    notedBy (model X.prog X.w) X.A ce (fun x s2 => cPost (model X.prog X.w) X.A X.xe Q acc s3.heap.objs.size X.env.frame (.error x) s2) e s' := by
  have frA : X.A.frames = some (X.env :: X.outer) := by rw [J3.ok.frames, hst]
  have out := L2N.XE.of_call (X := (X.blk s3 H3 scope ce fp).wish xe) (W := fun cls d _ H => E cls d H) J (fun _ _ _ h => h) c
  obtain ⟨a, B, sI, pI, sg, G', cls, d, rfl, JI, nb, up, sky, na, os, ag, hE⟩ := out
  have fl : HandSPX.FlyingZ B (X.env :: X.outer) a (L2N.Zn cls d) s'.heap := by
    rw [← hst]
    obtain ⟨a2, B2, _, _, _, e2, fl2, _⟩ := c
    obtain rfl := Value.ref.inj e2
    obtain ⟨_, _, _, oe, vs, T, oT, ts, g1, g2, g3, g4, g5, g6, g7, g8, g9⟩ := fl2
    rcases sky with ⟨_, _, _, ox, ws, k1, _, k3, k4⟩ | z | ⟨_, _, _, ox, ws, U, oU, us, k1, k2, k3, k4, k5, k6, k7, k8, k9⟩
    · rw [g1] at k1
      obtain rfl := Option.some.inj k1
      rw [g3] at k3
      obtain rfl := Data.fields.inj k3
      rw [g4] at k4
      cases k4
    · exact z
    · rw [g1] at k1
      obtain rfl := Option.some.inj k1
      rw [g3] at k3
      obtain rfl := Data.fields.inj k3
      rw [g4] at k4
      obtain rfl := Value.ref.inj (Option.some.inj k4)
      rw [g7] at k7
      obtain rfl := Option.some.inj k7
      rw [g8] at k8
      obtain rfl := Data.fields.inj k8
      rw [g9] at k9
      cases k9
  show wpAny _ X.A (noteFrame (.ref a) ce) _ _ s'
  rw [note_same cF]
  refine PXN.looks_onZ L2N.Zn.steady frA hfr fl fun h1 hh up1 => ?_
  obtain ⟨C, hC⟩ : ∃ C, C = s3.heap.objs.size := ⟨_, rfl⟩
  rw [← hC] at cL ⊢
  have notF : C ∉ frs X.stack := fun hm => by
    obtain ⟨_, o, z, _⟩ := J3.stack.mem hm
    have h0 := Heap.lt_size z
    rw [← hC] at h0
    exact Nat.lt_irrefl _ h0
  obtain ⟨m, nsC, _⟩ := JI.loc
  have nsC : sI.heap.Ns ce.locals m := nsC
  rw [cL] at nsC
  obtain ⟨oC, es, ep, gC, rest⟩ := nsC
  have bC := nb C oC gC notF
  have bne : ∀ b, B.get? b = none → b ≠ C := fun b z q => by
    rw [q, bC] at z
    cases z
  refine ⟨m, ⟨oC, es, ep, hh.1 _ _ bC, rest⟩, fun h2 sb env0 hf0 => ?_⟩
  have same : ∀ b, b ≠ C → h2.get? b = h1.get? b := sb.2
  obtain ⟨G, g1, g2⟩ := restrict sI.heap fun b => decide (b ≠ C)
  obtain ⟨B1, b1, b2⟩ := restrict B fun b => decide (b ≠ C)
  have gk : ∀ b, b ≠ C → G.get? b = sI.heap.get? b := fun b n => g1 b (decide_eq_true n)
  have gC0 : G.get? C = none := g2 C (by simp)
  have bk : ∀ b, b ≠ C → B1.get? b = B.get? b := fun b n => b1 b (decide_eq_true n)
  have bC0 : B1.get? C = none := b2 C (by simp)
  have offC : ∀ {K : Heap} {b : Addr} {o : Obj}, K.get? C = none → K.get? b = some o → b ≠ C := fun z q n => by
    rw [n, z] at q
    cases q
  have J7 : Inv X pins σ G' sI := J3.call' (ch := fp) JI.os JI.base JI.hok JI.bare fun b hb => ⟨(near3 b hb).1.2.2.2.1, (near3 b hb).1.2.1, (near3 b hb).1.2.2.2.2.1, (near3 b hb).1.2.2.2.2.2⟩
  have offC0 : G' C = none := by
    have z : G' ce.locals = none := JI.free
    rw [cL] at z
    exact z
  obtain ⟨p0, p1, p2, p3, p4, p5⟩ := J3.fpOk (Nat.le_of_eq hC.symm) offC0
  have J8 : Inv X pins σ G' { sI with heap := G, toks := sI.toks } := J7.turned (t' := sI.toks) (fun b o n q => (gk b n).trans q) p0 p1 p3 p4 p5
  have k1 : B1.StaysIn h2 := fun b o q => by
    have n := offC bC0 q
    rw [same b n]
    rw [bk b n] at q
    exact hh.1 b o q
  have k2 : h2.FunFrames B1 (X.env :: X.outer) := ff_to (fun b z => (bk b (bne b z)).trans z) (fun b hb o q => (same b fun n => notF (by rw [hst, ← n]; exact hb)).trans q) hh.2.2.1
  have aB : B.get? a = none := hh.2.1
  have k3 : HandSPX.TracedZ h2 B1 a (L2N.Zn cls d) (rawInt X.env.locals) := by
    obtain ⟨oe, vs, T, oT, ts, t1, t2, t3, t4, t5, t6, t7, t8, t9⟩ := hh.2.2.2
    exact ⟨oe, vs, T, oT, ts, (same a (bne a aB)).trans t1, t2, t3, t4, (bk T (bne T t5)).trans t5, t6, (same T (bne T t5)).trans t7, t8, t9⟩
  obtain ⟨oe, vs, T, oT, ts, t1, t2, t3, t4, t5⟩ := id k3
  unfold PySem.passOn
  refine wpAny_bind (wpAny_field t1 t3 t4 ?_)
  rw [if_neg (show ¬ ((Value.ref T == .none) = true) from by simp)]
  have fin : wpAny (model X.prog X.w) X.A (setFlight (.ref a) env0.frame) (fun _ s4 => wpAny (model X.prog X.w) X.A (throw (.ref a) : Sem Value) (fun _ _ => False) X.xe s4) X.xe { s' with heap := h2 } := by
    rw [hf0, hfr]
    refine HandSPX.setFlight_anyZ k1 k2 k3 fun h4 q1 q2 q3 up4 => wpAny_throw (tk _ _ ⟨a, B1, { sI with heap := G, toks := sI.toks }, pins, σ, G', cls, d, rfl, J8, fun b o q n => ?_, fun b o q n => ?_, .inr (.inr ⟨q1, (bk a (bne a aB)).trans aB, by rw [hst]; exact q2, q3⟩), na, os, ag, hE⟩)
    · have z := offC gC0 q
      rw [bk b z]
      exact nb b o ((gk b z).symm.trans q) n
    · have z := offC gC0 q
      obtain ⟨l1, w1⟩ := up b o ((gk b z).symm.trans q) n
      obtain ⟨l2, w2⟩ := up1 b _ w1 n
      obtain ⟨l3, w3⟩ := up4 b _ ((same b z).trans w2) n
      exact ⟨l3, w3⟩
  first
    | exact wpAny_bind fin
    | (refine wpAny_bind (wpAny_pure ?_); exact wpAny_bind fin)
end
end Bp
namespace Bp
open PySem PySem.Spec PySem.Calls PyProof.Rows L2
section
variable {X : Cx}
/-- [elt for target in iter], elt a call that may let out what E says -/
theorem pe_lcE {elt tg iter : Expr} {scope : Scope} {own : List (Str × Nat)} {pos : Pos} {wi : TI} {g : TG} {te : TE} {E : XK} (hc : X.calm = true) (hst : X.stack = X.env :: X.outer) (hfr : X.env.frame = some X.env.locals) (nodup : X.N.Nodup) (tk : L2N.Takes X fun cls d _ H => E cls d H) (hi : PI X tg iter wi) (ok : BlkOk X.N X.env.scope scope own)
    (hg : ∀ (s : Shared) (H : Hp) (C : Addr) (cl : List (Str × Addr)) (fp : List Addr) (xe : Value → Shared → Prop), PG ((X.blk s H scope (compEnvC scope cl C X.env) fp).wish xe) tg g)
    (he : ∀ (s : Shared) (H : Hp) (C : Addr) (cl : List (Str × Addr)) (fp : List Addr) (xe : Value → Shared → Prop), Passes (L2N.CX X.prog X.w) ((X.blk s H scope (compEnvC scope cl C X.env) fp).wish xe) E → PE ((X.blk s H scope (compEnvC scope cl C X.env) fp).wish xe) elt te)
    (hs : ∀ x, foldedSetIterable iter X.env x = pure x := by intro _; rfl) : PE X (.ListComp elt [⟨tg, iter, [], 0⟩] scope pos) (tLc wi g tYes te (own.map (·.2))) := by
  refine ⟨fun pins s σ H Q I asked => ?_⟩
  rw [eval_ListComp]
  have has : ∀ y ∈ scope.names, y.2 = .free → ∃ c, X.env.cells.lookup y.1 = some c := fun y hy z => (ok.free y hy z).elim (fun k => I.ok.has _ (.inl k)) fun k => I.ok.has _ (.inr k)
  refine comp_frame rfl hs (closure_ok has) ok.kind (fun y hy z => by rw [ok.uniq y hy, z]) (thn (hi.run pins s σ H _ I asked) fun xv s1 hx => thn hx fun itv s2 k2 => ?_)
  obtain ⟨it, fp, tn, J, H2, rfl, I2, T, st2, f2, q⟩ := k2
  refine wpAny_newObj_type (newEnv_comp ?_) (Nat.zero_le sizeLine)
  obtain ⟨D, hD⟩ : ∃ D, D = s2.heap.objs.size := ⟨_, rfl⟩
  obtain ⟨W, ⟨m0, w0⟩, turn⟩ := q D (I2.hok.fresh (Nat.le_of_eq hD.symm))
  obtain ⟨s3, hs3⟩ : ∃ s3 : Shared, s3 = { s2 with heap := s2.heap.push { cls := .type "list", data := .seq ([] : List Value).toArray } } := ⟨_, rfl⟩
  have hp3 : s3.heap = s2.heap.push { cls := .type "list", data := .seq ([] : List Value).toArray } := by rw [hs3]
  have J3 : Inv X pins σ (upd H2 D (.lst [])) s3 := by
    rw [hs3]
    exact I2.laid (t' := s2.toks) (fun b o z => Heap.get?_push_of_some _ z) (Nat.le_of_eq hD.symm) ⟨Nat.zero_le _, [], 0, .nil, by rw [hD]; exact Heap.get?_push_size _ rfl⟩
  have near3 : ∀ b ∈ fp, FpOk X pins (upd H2 D (.lst [])) b ∧ b < s3.heap.objs.size := fun b hb => by
    obtain ⟨o, z, _⟩ := T.obj _ _ st2 b hb
    have lt := Heap.lt_size z
    have ne : b ≠ D := fun x => by
      rw [x, hD] at lt
      exact Nat.lt_irrefl _ lt
    exact ⟨⟨by rw [upd_ne ne]; exact (f2 b hb).1, (f2 b hb).2⟩, by rw [hp3, Heap.size_push]; exact Nat.lt_succ_of_lt lt⟩
  have st3 : tn 0 s3.heap := T.keep _ _ _ st2 fun b _ o z => by rw [hp3]; exact Heap.get?_push_of_some _ z
  have J4 := block_start J3 ok nodup near3
  obtain ⟨cl, hcl⟩ : ∃ cl, cl = cellsFrom (s3.heap.objs.size + 1) scope.names (cloFrom X.env.cells scope.names []) := ⟨_, rfl⟩
  rw [← hcl] at J4
  obtain ⟨C, hC⟩ : ∃ C, C = s3.heap.objs.size := ⟨_, rfl⟩
  obtain ⟨ce, hce⟩ : ∃ ce, ce = compEnvC scope cl C X.env := ⟨_, rfl⟩
  have cL : ce.locals = s3.heap.objs.size := by rw [hce]; exact hC
  have cF : ce.frame = X.env.frame := by rw [hce]; rfl
  rw [← hC, ← hce] at J4
  obtain ⟨R, hR⟩ : ∃ R : Result → Shared → Prop, R = cPost (model X.prog X.w) X.A X.xe (EP X pins σ Q) (.ref D) s3.heap.objs.size X.env.frame := ⟨_, rfl⟩
  suffices go : codeAny (model X.prog X.w) X.A (.compStart (.ListComp elt [⟨tg, iter, [], 0⟩] scope pos) 0 (.ref it) (.ref D) ce) R { s3 with heap := pushCells (s3.heap.push { cls := .type "dict", data := .dict #[] }) scope.names } by
    rw [hR, hce, hC, hcl, hs3, hD] at go
    exact go
  obtain ⟨xe, hxe⟩ : ∃ xe : Value → Shared → Prop, xe = notedBy (model X.prog X.w) X.A ce fun x s5 => R (.error x) s5 := ⟨_, rfl⟩
  obtain ⟨H3, hH3⟩ : ∃ H3, H3 = upd H2 D (.lst []) := ⟨_, rfl⟩
  have offp : ∀ b ∈ fp, (upd H2 D (.lst [])) b = none := fun b hb => (near3 b hb).1.1
  rw [← hH3] at J3 J4 near3 w0 offp
  have pass : Passes (L2N.CX X.prog X.w) ((X.blk s3 H3 scope ce fp).wish xe) E := fun pI sI HI s5 x s6 JJ cc => by
    show xe x s6
    rw [hxe, hR]
    exact comp_out J3 near3 cL cF hst hfr tk JJ cc
  have pg : PG ((X.blk s3 H3 scope ce fp).wish xe) tg g := by
    rw [hce]
    exact hg s3 H3 C cl fp xe
  have pe : PE ((X.blk s3 H3 scope ce fp).wish xe) elt te := by
    rw [hce] at pass ⊢
    exact he s3 H3 C cl fp xe pass
  obtain ⟨s4, hs4⟩ : ∃ s4 : Shared, s4 = { s3 with heap := pushCells (s3.heap.push { cls := .type "dict", data := .dict #[] }) scope.names } := ⟨_, rfl⟩
  rw [← hs4] at J4 ⊢
  have st4 : tn 0 s4.heap := T.keep _ _ _ st3 fun b _ o z => by rw [hs4]; exact pushCells_keeps _ _ _ _ (Heap.get?_push_of_some _ z)
  have K4 : Inv ((X.blk s3 H3 scope ce fp).wish xe) [] (wipe σ (own.map (·.2))) H3 s4 := J4.wish xe
  have stat : ∀ {σ5 : L2.St} {H5 : Hp} {s5 : Shared}, Inv ((X.blk s3 H3 scope ce fp).wish xe) [] σ5 H5 s5 → (∀ b ∈ fp, H5 b = none) → ∀ b ∈ fp, FpOk ((X.blk s3 H3 scope ce fp).wish xe) [] H5 b := fun {σ5 H5 s5} J5 nsC b hb =>
    ⟨nsC b hb, (J5.ok.exf b hb).1, J5.ok.exfs b hb, .inl hb, fun x c z => (J5.ok.exf b hb).2 x c z, fun p hp => by cases hp⟩
  have loop : codeAny (model X.prog X.w) X.A (.compLoop (.ListComp elt [⟨tg, iter, [], 0⟩] scope pos) 0 (.ref it) (.ref D) ce) R s4 := by
    refine compLoop_any (fun n s5 => ∃ i H5, Inv ((X.blk s3 H3 scope ce fp).wish xe) [] (wipe σ (own.map (·.2))) H5 s5 ∧ tn i s5.heap ∧ (∀ b ∈ fp, H5 b = none) ∧ W i n H5) ?_ m0 ⟨0, H3, K4, st4, offp, w0⟩
    rw [← hxe]
    rintro n s5 ⟨i, H5, J5, was5, off5, meas5⟩
    rcases turn i n H5 meas5 with ⟨stop, last⟩ | ⟨go, Nx, hNx, step⟩
    · refine thnF (T.done ((X.blk s3 H3 scope ce fp).wish xe) rfl rfl rfl hc i [] s5 _ H5 (fun _ _ => False) J5 (stat J5 off5) was5 stop) fun r s6 ⟨hr, J6⟩ => ?_
      subst hr
      have J7 : Inv X pins σ H5 s6 := J3.call' (ch := fp) J6.os J6.base J6.hok J6.bare fun b hb => ⟨(near3 b hb).1.2.2.2.1, (near3 b hb).1.2.1, (near3 b hb).1.2.2.2.2.1, (near3 b hb).1.2.2.2.2.2⟩
      have offC0 : H5 s3.heap.objs.size = none := by
        have z : H5 ce.locals = none := J6.free
        rw [cL] at z
        exact z
      obtain ⟨m, nsC, _⟩ := J6.loc
      have nsC : s6.heap.Ns ce.locals m := nsC
      rw [cL] at nsC
      obtain ⟨p0, p1, p2, p3, p4, p5⟩ := J3.fpOk (Nat.le_refl _) offC0
      show R (.ok .next) s6
      rw [hR]
      exact ⟨m, nsC, fun h7 sb => ⟨.ref D, H5, J7.turned (t' := s6.toks) (fun b o nb z => (sb.2 b nb).trans z) p0 p1 p3 p4 p5, rfl, last⟩⟩
    · refine thnF (T.item ((X.blk s3 H3 scope ce fp).wish xe) rfl rfl rfl hc i [] s5 _ H5 (fun _ _ => False) J5 (stat J5 off5) was5 go) fun r s6 ⟨u, hr, k6⟩ => ?_
      subst hr
      refine thnF k6 fun _ s7 ⟨x, H7, J7, r7, y7, st7, n7⟩ => ?_
      have P7 := J7.pinned (stat J7 n7) (T.obj _ _ st7)
      refine thn (pg.run _ s7 _ H7 x u _ P7 r7 (step x H7 y7)) fun _ s8 ⟨σ8, H8, J8, hw8, q8⟩ => ?_
      refine wpAny_pure ?_
      simp only [if_true] at q8 ⊢
      refine thn (pe.run _ s8 σ8 H8 _ J8 q8) fun z s9 ⟨yv, H9, I9, r9, ac, hD9, hz9, nx⟩ => ?_
      refine app_ok (X := (X.blk s3 H3 scope ce fp).wish xe) I9 hD9 hz9 r9 fun s10 I10 => ?_
      obtain ⟨m', lt, w'⟩ := hNx _ nx
      have pinned : ∀ b ∈ fp, ∀ o, s7.heap.get? b = some o → s10.heap.get? b = some o ∧ (upd H9 D (.lst (ac ++ [yv]))) b = none := fun b hb o z =>
        let w := I10.pin (b, o) (List.mem_append_right _ (List.mem_append_right _ (mem_pinsAt hb z)))
        ⟨w.1, w.2.1⟩
      have len8 : (wipe σ (own.map (·.2))).length = σ8.length := by rw [← hw8, wipe_length]
      refine ⟨m', lt, i + 1, _, (I10.unpinned (pins := [])).weak len8 (fun j v z => ?_), T.keep _ _ _ st7 fun b hb o z => (pinned b hb o z).1, fun b hb => ?_, w'⟩
      · rw [← hw8] at z
        exact (wipe_some z).1
      · obtain ⟨o, z, _⟩ := T.obj _ _ st7 b hb
        exact (pinned b hb o z).2
  exact codeAny_compStart_list loop ((T.self X.A 0 _ _ _ st4) loop)
end
end Bp
namespace Bp
open PySem PySem.Spec PyProof.Rows L2
/-! ### defs that raise, the exception's context kept -/
section
variable {P : Program} {w : World} {K : PySem.W.Frag} {mg : Str → Option Value} {base : Heap}
theorem okXN {x qual : Str} {st : Stmt} {f : Addr} {fd : FuncData} {N ps : List Str} {k : Nat} {sp : Sp} (F : Fun K x qual st f fd) (S : FnScope N ps (defScope st)) (many : ∀ vs H Q E, sp vs H Q E → vs.length = ps.length)
    (body : ∀ (cdv : Value) (A : Around) (outer : List Env) (s : Shared) (H : Hp) (vs : List V) (Q : VK) (E : XK), Room k (A.deeper (envOfC qual (defScope st) s.heap.objs.size f cdv)) → sp vs H Q E → ∃ t, PSs (cxOf (L2N.CX P w) P w K mg base N qual (defScope st) f cdv A outer s H E) (defBody st) t ∧ t { nx := fun _ H' => Q .non H', rt := Q } (L2.start N vs) H) :
    FnOk P w K mg base (L2N.CX P w) (k + 1) f fd ps sp := by
  obtain ⟨oc, od, kV, doc, pm, an, cdv, ct, osl, rfl, lk, hcd⟩ := F.ex
  exact fn_of lk hcd S many fun A outer s H vs Q E hr h => body cdv A outer s H vs Q E hr h
end
/-- X(e) -/
theorem pmk_own1N {X : Cx} {C : Addr} {bmB : List Value} {B newId initId : String} {x : Str} {e : Expr} {ta : TE} {p pos : Pos} (F : ExcBaseFacts B newId initId bmB) (q : PySem.W.excIn X.K C bmB newId = true) (gC : X.mg x = some (.ref C)) (kC : PySem.W.keepIn X.K (.ref C) = true) (r : Raises X (.ref C)) (hg : Gl X x)
    (he : PE X e ta) (hs : starEach [e] X.env = (false, eval e X.env) :: starEach [] X.env := by rfl) (hdb : (x == ("__debug__" : Str)) = false := by decide) : L2N.PMk X (.Call (.Name x p) [e] [] pos) (fun σ H Q => ta σ H fun _ H1 => Q (.ref C) none H1) := by
  intro pins s σ H Q I asked
  refine wpAny_Call_Name_kw (ld_glob I hg gC (PySem.W.callWith_K (h₀ := X.base) I.ok.mod.kin kC ?_ hs (by rfl)) hdb)
  rw [hs]
  show wpAny _ X.A (spliced ((false, eval e X.env) :: backTo pos (starEach [] X.env))) _ _ s
  refine Calls.spliced_cons (thn (he.run pins s σ H _ I asked) fun u s1 ⟨v, H1, J, r1, q1⟩ => Calls.spliced_nil ⟨J.kIn, ?_⟩)
  show wpAny _ X.A (call (.ref C) [u]) _ _ _
  obtain ⟨bm, N, nm, qn, bs, hdct, sn, sub, ab, col, dd, k0, k1, k2, k3, k5, mN, hC, hN, hni, T⟩ := exc_obj J.kIn q
  exact wpAny_call_exc_subT F T hC hN hni (fun h' a hm => L2N.mk_of J hm r q1 (J.hok.gone hm.new)) (by show 1 ≤ sizeLine; rw [sizeLine_eq]; omega)
/-- isinstance of the exception that the suite holds, its class told behind -/
def rIsQ (K : PySem.W.Frag) (cls : Value) (d : Option Addr) (a : Addr) : List V → Hp → VK → Prop := fun xs H Q => ∃ D : Addr, cls = .ref D ∧ d = none ∧ ExcC K D ∧ rIsE K D a xs H Q
theorem call_isQ {X : Cx} {a : Addr} {oe : Obj} {cls : Value} {d : Option Addr} (hp : (a, oe) ∈ X.pn) (hz : L2N.Zn cls d oe) (hf : ∃ vs, oe.data = .fields vs) : CallR X (.builtin "isinstance") (rIsQ X.K cls d a) := fun pins s σ H xs us Q I r ⟨D, e1, e2, C, q⟩ => by
  subst e1 e2
  exact call_isP C hp hz.zc hf pins s σ H xs us Q I r q
end Bp
namespace Bp
open PySem L2 Evl
/-! ### the text by places -/
def top (i : Nat) : Stmt := PySem.Challenge.pw_benchpair_k05_written.main.body.getD i (.Pass ⟨0, 0, 0, 0⟩)
abbrev sWhole : Stmt := top 7
abbrev sLen : Stmt := top 8
abbrev sThing : Stmt := top 9
abbrev sCkT : Stmt := top 10
abbrev sShort : Stmt := top 14
abbrev sCkS : Stmt := top 15
abbrev sWritten : Stmt := top 16
abbrev sIsWL : Stmt := top 17
abbrev sReadT : Stmt := top 18
abbrev sRead : Stmt := top 19
abbrev sCell : Stmt := top 21
abbrev sDraw : Stmt := top 22
abbrev sThings : Stmt := top 23
abbrev sLdone : Stmt := top 24
abbrev sLorder : Stmt := top 25
abbrev sLworth : Stmt := top 26
abbrev sLwhole : Stmt := top 27
abbrev sNumber : Stmt := top 28
abbrev sIn : Stmt := top 29
abbrev sRefused : Stmt := top 30
abbrev sRight : Stmt := top 31
abbrev sFew : Stmt := top 32
abbrev sLaw : Stmt := top 33
end Bp
namespace Bp
open PySem L2 Evl
/-! ### what the program's defs promise of values of any kind -/
/-- an own class of errors -/
structure XC (K : PySem.W.Frag) (mg : Str → Option Value) (x : Str) (C : Addr) : Prop where
  g : mg x = some (.ref C)
  q : PySem.W.excIn K C [.type "ValueError", .type "Exception", .type "BaseException", .type "object"] "ValueError.__new__" = true
  k : PySem.W.keepIn K (.ref C) = true
  b : PySem.W.subIn K (.ref C) (.type "BaseException") = some true
  t : PySem.W.typeIn K (.ref C) = some (.type "type")
def Refuse (C : Addr) (H : Hp) (E : XK) : Prop := ∀ H1, Ex H H1 → E (.ref C) none H1
theorem Refuse.go {C : Addr} {H H1 : Hp} {E : XK} (r : Refuse C H E) (e : Ex H H1) : E (.ref C) none H1 := r H1 e
/-- the built-ins that the text names -/
structure Bn (mg : Str → Option Value) : Prop where
  isi : mg "isinstance" = none
  int : mg "int" = none
  bool : mg "bool" = none
  tuple : mg "tuple" = none
  len : mg "len" = none
  all : mg "all" = none
  list : mg "list" = none
  enum : mg "enumerate" = none
  range : mg "range" = none
  str : mg "str" = none
  verr : mg "ValueError" = none
def spWholeX (K : PySem.W.Frag) : Sp := fun vs H Q _ => ∃ (v : V) (b : Bool), vs = [v] ∧ Wh K H v b ∧ RetV (.bl b) H Q
def spLenX (K : PySem.W.Frag) : Sp := fun vs H Q _ => ∃ (v : V) (b : Bool), vs = [v] ∧ Pt K H v b ∧ RetV (.bl b) H Q
def spThingX (K : PySem.W.Frag) : Sp := fun vs H Q _ => ∃ (v : V) (b : Bool), vs = [v] ∧ Tg K H v b ∧ RetV (.bl b) H Q
def spNoOrder (K : PySem.W.Frag) : Sp := fun vs H Q _ => ∃ (v : V) (n : Nat), vs = [v, .int (n : Int)] ∧ n ≤ 1000 ∧ NoO K H v n ∧ RetV (.bl false) H Q
def spCkTX (K : PySem.W.Frag) (C : Addr) : Sp := fun vs H Q E => ∃ (v : V) (b : Bool), vs = [v] ∧ Tl K H v b ∧ (b = true → RetV .non H Q) ∧ (b = false → Refuse C H E)
def spCkOX (K : PySem.W.Frag) (C : Addr) : Sp := fun vs H Q E => ∃ (v : V) (n : Nat), vs = [v, .int (n : Int)] ∧ n ≤ 1000 ∧ NoO K H v n ∧ Refuse C H E
section
variable {P : Program} {w : World} {K : PySem.W.Frag} {mg : Str → Option Value} {base : Heap}
theorem scWhole : FnScope ["value"] ["value"] (defScope sWhole) := ⟨rfl, rfl, rfl, by decide +kernel, rfl, by decide +kernel, by decide +kernel⟩
theorem ok_whole {f : Addr} {fd : FuncData} (F : Fun K "is_whole" "is_whole" sWhole f fd) (T : Bn mg) : FnOk P w K mg base CX0 1 f fd ["value"] (spWholeX K) := by
  refine F.ok scWhole (fun vs H Q E h => ?_) (fun cdv A outer s H vs Q E hr h => ?_)
  · obtain ⟨v, b, rfl, _⟩ := h
    rfl
  · obtain ⟨v, b, rfl, hv, k⟩ := h
    refine ⟨_, pss_one (ps_ret (pe_and (pe_callB call_isi (by rfl) T.isi (by decide +kernel) (pa_cons (pv 0) (pa_cons (pe_bltn (v := .ty "int") (by rfl) T.int PyProof.Rows.boot_int rfl) pa_nil)))
      (pe_one (pe_not (pe_callB call_isi (by rfl) T.isi (by decide +kernel) (pa_cons (pv 0) (pa_cons (pe_bltn (v := .ty "bool") (by rfl) T.bool PyProof.Rows.boot_bool rfl) pa_nil))))))), ?_⟩
    obtain ⟨n, b1, b2, k1, k2, hb, ty⟩ : ∃ n b1 b2, kitB n "int" = some b1 ∧ kitB n "bool" = some b2 ∧ (b1 && !b2) = b ∧ Ty K H v n := by
      rcases hv with ⟨i, rfl, rfl⟩ | ⟨rfl, n, hn, ty⟩
      · exact ⟨"int", true, false, by decide +kernel, by decide +kernel, rfl, ty_int⟩
      · obtain ⟨b1, b2, k1, k2, k3⟩ := kit_int n hn
        exact ⟨n, b1, b2, k1, k2, k3, ty⟩
    subst hb
    exact s_ret (v := .bl (b1 && !b2)) (ev_andV (ev_cb (ea_cons (ev_var rfl) (ea_cons ev_c ea_nil)) (rc_isi ty k1)) fun _ =>
      ev_notV (ev_cb (ea_cons (ev_var rfl) (ea_cons ev_c ea_nil)) (rc_isi ty k2))) fun H1 e => k.go e
theorem scLen : FnScope ["value"] ["value"] (defScope sLen) := ⟨rfl, rfl, rfl, by decide +kernel, rfl, by decide +kernel, by decide +kernel⟩
theorem ok_len {f fW : Addr} {fd fdW : FuncData} (F : Fun K "is_length" "is_length" sLen f fd) (T : Bn mg) (gW : mg "is_whole" = some (.ref fW)) (FW : Fun K "is_whole" "is_whole" sWhole fW fdW) (bW : Binds K fdW ["value"] []) : FnOk P w K mg base CX0 2 f fd ["value"] (spLenX K) := by
  have GW : FnOk P w K mg base CX0 1 fW fdW ["value"] (spWholeX K) := ok_whole FW T
  refine F.ok scLen (fun vs H Q E h => ?_) (fun cdv A outer s H vs Q E hr h => ?_)
  · obtain ⟨v, b, rfl, _⟩ := h
    rfl
  · obtain ⟨v, b, rfl, hv, k⟩ := h
    refine ⟨_, pss_one (ps_ret (pe_and (pe_call GW hr (by rfl) gW FW.kp bW .nil pass0 (pa_cons (pv 0) pa_nil)) (pe_one (pe_cmpR op_ge (pv 0) pe_int (nomark _))))), ?_⟩
    rcases hv with ⟨i, rfl, rfl⟩ | ⟨rfl, n, hn, ty⟩
    · exact s_ret (v := .bl (true && decide (0 ≤ i))) (ev_andV (ev_call (ea_cons (ev_var rfl) ea_nil) fun H1 e Q q E => ⟨_, _, rfl, .inl ⟨i, rfl, rfl⟩, q⟩) fun _ => ev_op (ev_var rfl) ev_c rv_I0) fun H1 e => k.go e
    · exact s_ret (v := .bl (false && true)) (ev_andV (ev_call (ea_cons (ev_var rfl) ea_nil) fun H1 e Q q E => ⟨_, _, rfl, .inr ⟨rfl, n, hn, ty.mono e⟩, q⟩) fun q => by cases q) fun H1 e => k.go e
theorem scThing : FnScope ["value", "part"] ["value"] (defScope sThing) := ⟨rfl, rfl, rfl, by decide +kernel, rfl, by decide +kernel, by decide +kernel⟩
theorem ok_thing {f fL : Addr} {fd fdL : FuncData} (F : Fun K "is_thing" "is_thing" sThing f fd) (T : Bn mg) (gL : mg "is_length" = some (.ref fL)) (FL : Fun K "is_length" "is_length" sLen fL fdL) (bL : Binds K fdL ["value"] []) (GL : FnOk P w K mg base CX0 2 fL fdL ["value"] (spLenX K)) : FnOk P w K mg base CX0 3 f fd ["value"] (spThingX K) := by
  refine F.ok scThing (fun vs H Q E h => ?_) (fun cdv A outer s H vs Q E hr h => ?_)
  · obtain ⟨v, b, rfl, _⟩ := h
    rfl
  · obtain ⟨v, b, rfl, hv, k⟩ := h
    refine ⟨_, pss_cons (ps_if (PW.pt (pw_or (pt_not (pt_val (pe_callB call_isi (by rfl) T.isi (by decide +kernel) (pa_cons (pv 0) (pa_cons (pe_bltn (v := .ty "tuple") (by rfl) T.tuple PyProof.Rows.boot_tuple rfl) pa_nil)))))
        (pw_or1 (pt_cmpR op_ne (pe_callB call_len_seq (by rfl) T.len PySem.boot_len (pa_cons (pv 0) pa_nil)) pe_int (nomark _))))) (pss_one (ps_ret pe_bl)) pss_nil)
      (pss_one (ps_ret (pe_callB (cr_all rfl) (by rfl) T.all (by decide +kernel) (pa_cons (pe_lc (own := [("part", 1)]) (g := gName 1) (tt := tYes) rfl scThing.nd (pi_tup (pv 0)) (blkOk_by (N := ["value", "part"]) (sc := defScope sThing) (by decide +kernel))
        (fun _ _ _ _ _ => pg_name (i := 1) scThing.nd rfl (Or.inl rfl)) (fun _ _ _ _ _ => pts_nil) (fun _ _ _ _ _ => pe_call GL hr (by rfl) gL FL.kp bL .nil pass0 (pa_cons (pv 1) pa_nil))) pa_nil)))), ?_⟩
    rcases hv with ⟨a, xs, bs, rfl, hS, hz, hp, rfl⟩ | ⟨rfl, n, hn, ty⟩
    · refine q_when (et_or (et_not (et_B (ev_cb (ea_cons (ev_var rfl) (ea_cons ev_c ea_nil)) (rc_isi (ty_tup hS) (b := true) (by decide +kernel))))) fun _ =>
        et_test (ev_op (ev_cb (ea_cons (ev_var rfl) ea_nil) (rc_lenT hS)) ev_c (rv_ne rfl))) (fun hb H1 e1 => ?_) (fun hb H1 e1 => ?_)
      · have h3 : xs.length ≠ 3 := fun z => by
          rw [z] at hb
          revert hb
          decide +kernel
        rw [decide_eq_false h3] at k
        exact s_ret ev_c fun H2 e2 => k.go (e1.trans e2)
      · have h3 : xs.length = 3 := by
          have : decide (V.int (xs.length : Int) = V.int 3) = true := by simpa using hb
          have := V.int.inj (of_decide_eq_true this)
          omega
        rw [decide_eq_true h3, Bool.true_and] at k
        refine s_ret (ev_cbL (el_lcT (xs := xs) (fun _ => true) (fun i => .bl (bs.getD i false)) (ev_var rfl) (ex_t e1 hS) (by omega) (fun x => rfl) (fun i x H2 e2 hi => et_yes) fun i x H2 e2 hi _ => ?_) fun p H2 e2 h2 => ?_) fun H2 e2 => k.go (e1.trans e2)
        · obtain ⟨c, hc, pc⟩ := hp.get hi
          rw [List.getD_eq_getElem?_getD, hc]
          exact ev_call (ea_cons (ev_var rfl) ea_nil) fun H3 e3 Q q E => ⟨x, c, rfl, pc.mono ((e1.trans e2).trans e3), q⟩
        · have hl := hp.len
          rw [hl, given_bools bs false (fun b => b), List.map_id'] at h2
          exact rc_all (sq_of h2)
    · refine q_when (b := true) (et_is (et_or (a := true) (b := true) (et_is (et_not (et_B (ev_cb (ea_cons (ev_var rfl) (ea_cons ev_c ea_nil)) (rc_isi ty (kit_tup n hn))))) rfl) fun q => by cases q) rfl) (fun _ H1 e1 => ?_) (fun q => by cases q)
      exact s_ret ev_c fun H2 e2 => k.go (e1.trans e2)
end
end Bp
namespace Bp
open PySem L2 Evl
/-! ### the defs that refuse -/
def spCkTimeX (K : PySem.W.Frag) (C : Addr) : Sp := fun vs H Q E => ∃ v : V, vs = [v] ∧ Wh K H v false ∧ Refuse C H E
/-- a part of more than sixty figures -/
def shB (t : Th) : Bool := decide (t.1 < 10 ^ 60) && (decide (t.2.1 < 10 ^ 60) && decide (t.2.2 < 10 ^ 60))
def spShort : Sp := fun vs H Q _ => ∃ i : Int, vs = [.int i] ∧ RetV (.bl (decide (i < 10 ^ 60))) H Q
def spCkSX (K : PySem.W.Frag) (C : Addr) : Sp := fun vs H Q E => ∃ (l : Addr) (zs : List (Addr × Th)), vs = [.ref l] ∧ Ths K H l zs ∧ ((ths zs).all shB = true → RetV .non H Q) ∧ ((ths zs).all shB = false → Refuse C H E)
def spDoneX (K : PySem.W.Frag) (CT CO : Addr) : Sp := fun vs H Q E => ∃ (v o : V) (b : Bool), vs = [v, o] ∧ Tl K H v b ∧ (b = false → Refuse CT H E) ∧ (b = true → ∃ (l : Addr) (xs : List V), v = .ref l ∧ SqL K H l xs ∧ xs.length ≤ 1000 ∧ NoO K H o xs.length ∧ Refuse CO H E)
def spSoonestX (K : PySem.W.Frag) (CT : Addr) : Sp := fun vs H Q E => ∃ v : V, vs = [v] ∧ Tl K H v false ∧ Refuse CT H E
def spWithinX (K : PySem.W.Frag) (CT CM : Addr) : Sp := fun vs H Q E => ∃ (v t : V) (b : Bool), vs = [v, t] ∧ Tl K H v b ∧ (b = false → Refuse CT H E) ∧ (b = true → Wh K H t false ∧ Refuse CM H E)
section
variable {P : Program} {w : World} {K : PySem.W.Frag} {mg : Str → Option Value} {base : Heap}
theorem scCkT : FnScope ["things", "count", "thing"] ["things"] (defScope sCkT) := ⟨rfl, rfl, rfl, by decide +kernel, rfl, by decide +kernel, by decide +kernel⟩
theorem ok_ckT {f fT C : Addr} {fd fdT : FuncData} (F : Fun K "check_things" "check_things" sCkT f fd) (T : Bn mg) (N : XC K mg "BadThings" C) (gT : mg "is_thing" = some (.ref fT)) (FT : Fun K "is_thing" "is_thing" sThing fT fdT) (bT : Binds K fdT ["value"] []) (GT : FnOk P w K mg base CX0 3 fT fdT ["value"] (spThingX K)) : FnOk P w K mg base (L2N.CX P w) 4 f fd ["things"] (spCkTX K C) := by
  refine okXN F scCkT (fun vs H Q E h => ?_) (fun cdv A outer s H vs Q E hr h => ?_)
  · obtain ⟨v, b, rfl, _⟩ := h
    rfl
  · obtain ⟨v, b, rfl, hv, kg, kb⟩ := h
    refine ⟨_, pss_cons (ps_if (pt_not (pt_val (pe_callB call_isi (by rfl) T.isi (by decide +kernel) (pa_cons (pv 0) (pa_cons (pe_bltn (v := .ty "list") (by rfl) T.list PyProof.Rows.boot_list rfl) pa_nil)))))
        (pss_one (L2N.ps_raise rfl (L2N.takes_of rfl rfl rfl rfl) (L2N.pmk_own PySem.F.excBase_ValueError N.q N.g N.k (raises_own N.b N.t) rfl))) pss_nil)
      (pss_one (ps_for (passes_of rfl) rfl (pi_enum (by rfl) T.enum (pa_cons (pv 0) pa_nil)) (pg_tup rfl (pgs_cons (pg_name (i := 1) scCkT.nd rfl (Or.inl rfl)) (pgs_cons (pg_name (i := 2) scCkT.nd rfl (Or.inl rfl)) pgs_nil)))
        (pss_one (ps_if (pt_not (pt_val (pe_call GT hr (by rfl) gT FT.kp bT .nil pass0 (pa_cons (pv 2) pa_nil))))
          (pss_one (L2N.ps_raise rfl (L2N.takes_of rfl rfl rfl rfl) (pmk_own1N PySem.F.excBase_ValueError N.q N.g N.k (raises_own N.b N.t) rfl (pe_joined (.cons pe_str (.cons (pe_fmt (pv 1)) (.cons pe_str .nil))))))) pss_nil)))), ?_⟩
    rcases hv with ⟨l, xs, bs, rfl, hS, hz, hp, rfl⟩ | ⟨rfl, n, hn, ty⟩
    · refine q_when (b := false) (et_is (et_not (et_B (ev_cb (ea_cons (ev_var rfl) (ea_cons ev_c ea_nil)) (rc_isi (ty_lst hS) (b := true) (by decide +kernel))))) rfl) (fun q => by cases q) fun _ H1 e1 => ?_
      refine s_forE (a := l) (xs := xs) (ea_cons (ev_var rfl) ea_nil) (ex_l e1 hS) (fun i σ' H' => ∃ v1 v2 : Option V, σ' = [some (.ref l), v1, v2] ∧ Ex H H' ∧ (bs.take i).all id = true) (fun H2 e2 => ⟨none, none, rfl, e1.trans e2, rfl⟩) (fun i σ' H' _ ⟨_, _, _, e', _⟩ => ex_l e' hS) ?_ ?_
      · rintro i x t σ' H' hi ⟨v1, v2, rfl, e', hb⟩ nt
        obtain ⟨c, hc, hx⟩ := hp.get hi
        have hin : i < xs.length := (List.getElem?_eq_some_iff.mp hi).1
        refine ⟨t, _, rfl, st_of upd_same, rfl, _, _, rfl, _, _, rfl, rfl, ?_⟩
        have e2 : Ex H (upd H' t (.tup [.int (i : Int), x])) := e'.trans (Ex.new nt)
        refine s_when (b := !c) (et_not (et_B (ev_call (z := .bl c) (ea_cons (ev_var rfl) ea_nil) fun H3 e3 Q q E => ⟨_, c, rfl, hx.mono (e2.trans e3), q⟩))) (fun h H3 e3 => ?_) fun h H3 e3 => ⟨_, _, rfl, e2.trans e3, ?_⟩
        · obtain rfl : c = false := by simpa using h
          have hall : bs.all id = false := by
            cases hq : bs.all id with
            | false => rfl
            | true => exact absurd (List.all_eq_true.mp hq false (List.mem_of_getElem? hc)) (by decide)
          exact js_num (ev_var rfl) (by omega) (by omega) (by decide) (by decide) fun _ H4 e4 => (kb hall).go ((e2.trans e3).trans e4)
        · obtain rfl : c = true := by simpa using h
          rw [take_snoc hc, List.all_append, hb]
          rfl
      · rintro σ' H' ⟨v1, v2, rfl, e', hb⟩
        rw [hp.len, List.take_length] at hb
        exact (kg hb).go e'
    · refine q_when (b := true) (et_is (et_not (et_B (ev_cb (ea_cons (ev_var rfl) (ea_cons ev_c ea_nil)) (rc_isi ty (kit_lst n hn))))) rfl) (fun _ H1 e1 => ?_) (fun q => by cases q)
      exact (kb rfl).go e1
theorem scShort : FnScope ["length"] ["length"] (defScope sShort) := ⟨rfl, rfl, rfl, by decide +kernel, rfl, by decide +kernel, by decide +kernel⟩
theorem ok_short {f : Addr} {fd : FuncData} (F : Fun K "is_short" "is_short" sShort f fd) : FnOk P w K mg base CX0 1 f fd ["length"] spShort := by
  refine F.ok scShort (fun vs H Q E h => ?_) (fun cdv A outer s H vs Q E hr h => ?_)
  · obtain ⟨i, rfl, _⟩ := h
    rfl
  · obtain ⟨i, rfl, k⟩ := h
    refine ⟨_, pss_one (ps_ret (pe_cmpR op_lt (pv 0) (pe_op op_pow pe_int pe_int) (nomark _))), ?_⟩
    exact s_ret (ev_op (ev_var rfl) (ev_is (ev_op ev_c ev_c (rv_I ⟨by decide, by decide, by decide⟩)) (by rfl)) rv_I0) fun H1 e => k.go e
theorem scCkS : FnScope ["things", "count", "thing", "part"] ["things"] (defScope sCkS) := ⟨rfl, rfl, rfl, by decide +kernel, rfl, by decide +kernel, by decide +kernel⟩
theorem ok_ckS {f fT C : Addr} {fd fdT : FuncData} (F : Fun K "check_short" "check_short" sCkS f fd) (T : Bn mg) (N : XC K mg "BadThings" C) (gT : mg "is_short" = some (.ref fT)) (FT : Fun K "is_short" "is_short" sShort fT fdT) (bT : Binds K fdT ["length"] []) : FnOk P w K mg base (L2N.CX P w) 2 f fd ["things"] (spCkSX K C) := by
  have GT : FnOk P w K mg base CX0 1 fT fdT ["length"] spShort := ok_short FT
  refine okXN F scCkS (fun vs H Q E h => ?_) (fun cdv A outer s H vs Q E hr h => ?_)
  · obtain ⟨l, zs, rfl, _⟩ := h
    rfl
  · obtain ⟨l, zs, rfl, hT, kg, kb⟩ := h
    refine ⟨_, pss_one (ps_for (passes_of rfl) rfl (pi_enum (by rfl) T.enum (pa_cons (pv 0) pa_nil)) (pg_tup rfl (pgs_cons (pg_name (i := 1) scCkS.nd rfl (Or.inl rfl)) (pgs_cons (pg_name (i := 2) scCkS.nd rfl (Or.inl rfl)) pgs_nil)))
        (pss_one (ps_if (pt_not (pt_val (pe_callB (cr_all rfl) (by rfl) T.all (by decide +kernel) (pa_cons (pe_lc (own := [("part", 3)]) (g := gName 3) (tt := tYes) rfl scCkS.nd (pi_tup (pv 2)) (blkOk_by (N := ["things", "count", "thing", "part"]) (sc := defScope sCkS) (by decide +kernel))
            (fun _ _ _ _ _ => pg_name (i := 3) scCkS.nd rfl (Or.inl rfl)) (fun _ _ _ _ _ => pts_nil) (fun _ _ _ _ _ => pe_call GT hr (by rfl) gT FT.kp bT .nil pass0 (pa_cons (pv 3) pa_nil))) pa_nil))))
          (pss_one (L2N.ps_raise rfl (L2N.takes_of rfl rfl rfl rfl) (pmk_own1N PySem.F.excBase_ValueError N.q N.g N.k (raises_own N.b N.t) rfl (pe_joined (.cons pe_str (.cons (pe_fmt (pv 1)) (.cons pe_str .nil))))))) pss_nil))), ?_⟩
    have hle := hT.le
    refine s_forE (a := l) (xs := tv zs) (ea_cons (ev_var rfl) ea_nil) hT.ls (fun i σ' H' => ∃ v1 v2 : Option V, σ' = [some (.ref l), v1, v2, none] ∧ Ex H H' ∧ ((ths zs).take i).all shB = true) (fun H2 e2 => ⟨none, none, rfl, e2, rfl⟩) (fun i σ' H' _ ⟨_, _, _, e', _⟩ => ex_l e' hT.ls) ?_ ?_
    · rintro i x t σ' H' hi ⟨v1, v2, rfl, e', hb⟩ nt
      obtain ⟨z, hzi, rfl⟩ := tv_get hi
      have hin : i < zs.length := (List.getElem?_eq_some_iff.mp hzi).1
      have hti : (ths zs)[i]? = some z.2 := by
        unfold ths
        rw [List.getElem?_map, hzi]
        rfl
      have hZ := hT.it z (List.mem_of_getElem? hzi)
      refine ⟨t, _, rfl, st_of upd_same, rfl, _, _, rfl, _, _, rfl, rfl, ?_⟩
      have e2 : Ex H (upd H' t (.tup [.int (i : Int), .ref z.1])) := e'.trans (Ex.new nt)
      refine s_when (b := !shB z.2) (et_not (et_B (ev_cbL (el_lcT (xs := iv z.2) (fun _ => true) (fun j => .bl ([decide (z.2.1 < 10 ^ 60), decide (z.2.2.1 < 10 ^ 60), decide (z.2.2.2 < 10 ^ 60)].getD j false)) (ev_var rfl) (ex_t e2 hZ) (by show 3 ≤ 40000; decide) (fun x => rfl) (fun j x H3 e3 hj => et_yes) fun j x H3 e3 hj _ => ?_) fun p H3 e3 h3 => ?_))) (fun h H3 e3 => ?_) fun h H3 e3 => ⟨_, _, rfl, e2.trans e3, ?_⟩
      · refine ev_call (ea_cons (ev_var rfl) ea_nil) fun H4 e4 Q q E => ?_
        match j, hj with
        | 0, hj => obtain rfl := Option.some.inj hj; exact ⟨_, rfl, q⟩
        | 1, hj => obtain rfl := Option.some.inj hj; exact ⟨_, rfl, q⟩
        | 2, hj => obtain rfl := Option.some.inj hj; exact ⟨_, rfl, q⟩
        | j + 3, hj => cases hj
      · have := rc_all (K := K) (bs := [decide (z.2.1 < 10 ^ 60), decide (z.2.2.1 < 10 ^ 60), decide (z.2.2.2 < 10 ^ 60)]) (sq_of h3)
        have e : shB z.2 = [decide (z.2.1 < 10 ^ 60), decide (z.2.2.1 < 10 ^ 60), decide (z.2.2.2 < 10 ^ 60)].all id := by
          show _ = (id _ && (id _ && (id _ && true)))
          rw [Bool.and_true]
          rfl
        rw [e]
        exact this
      · have h : shB z.2 = false := by simpa using h
        have hall : (ths zs).all shB = false := by
          cases hq : (ths zs).all shB with
          | false => rfl
          | true =>
            have := List.all_eq_true.mp hq z.2 (List.mem_of_getElem? hti)
            rw [h] at this
            cases this
        exact js_num (ev_var rfl) (by omega) (by omega) (by decide) (by decide) fun _ H4 e4 => (kb hall).go ((e2.trans e3).trans e4)
      · have h : shB z.2 = true := by simpa using h
        rw [take_snoc hti, List.all_append, hb]
        show (true && (shB z.2 && true)) = true
        rw [h]
        rfl
    · rintro σ' H' ⟨v1, v2, rfl, e', hb⟩
      rw [tv_len, ← ths_len zs, List.take_length] at hb
      exact (kg hb).go e'
end
end Bp
namespace Bp
open PySem L2 Evl
/-! ### the doors -/
theorem Refuse.mono {C : Addr} {H H1 : Hp} {E : XK} (r : Refuse C H E) (e : Ex H H1) : Refuse C H1 E := fun H2 e2 => r H2 (e.trans e2)
def spWrittenX (K : PySem.W.Frag) (CT : Addr) : Sp := fun vs H Q E => ∃ (v : V) (b : Bool), vs = [v] ∧ Tl K H v b ∧ (b = false → Refuse CT H E) ∧ (b = true → ∃ (l : Addr) (zs : List (Addr × Th)), v = .ref l ∧ Ths K H l zs ∧ ((ths zs).all shB = false → Refuse CT H E) ∧ ((ths zs).all shB = true → RetV (.str (if zs = [] then "-" else wThs (ths zs))) H Q))
theorem sh_of {t : Th} (h : shB t = true) : Sh t := by
  unfold shB at h
  simp only [Bool.and_eq_true, decide_eq_true_eq] at h
  exact h
/-- the kind of the outer list display -/
def innerSc (st : Stmt) : Scope := match (defBody st).getLast? with
  | some (.Return (some (.Call _ [.ListComp _ _ sc _] _ _)) _) => sc
  | _ => defScope st
/-- a check's promises, as the doors use them -/
structure Chk (P : Program) (w : World) (K : PySem.W.Frag) (mg : Str → Option Value) (base : Heap) (fT fS CT : Addr) (dT dS : FuncData) : Prop where
  gT : mg "check_things" = some (.ref fT)
  kT : PySem.W.keepIn K (.ref fT) = true
  bT : Binds K dT ["things"] []
  okT : FnOk P w K mg base (L2N.CX P w) 4 fT dT ["things"] (spCkTX K CT)
  gS : mg "check_short" = some (.ref fS)
  kS : PySem.W.keepIn K (.ref fS) = true
  bS : Binds K dS ["things"] []
  okS : FnOk P w K mg base (L2N.CX P w) 2 fS dS ["things"] (spCkSX K CT)
section
variable {P : Program} {w : World} {K : PySem.W.Frag} {mg : Str → Option Value} {base : Heap} {fT fS CT : Addr} {dT dS : FuncData}
theorem scWritten : FnScope ["things", "thing", "part"] ["things"] (defScope sWritten) := ⟨rfl, rfl, rfl, by decide +kernel, rfl, by decide +kernel, by decide +kernel⟩
theorem ok_written {f : Addr} {fd : FuncData} (F : Fun K "written" "written" sWritten f fd) (T : Bn mg) {uN : Value} (gN : mg "NOTHING" = some uN) (rN : RelV (.str "-") uN) (Kk : Chk P w K mg base fT fS CT dT dS) : FnOk P w K mg base (L2N.CX P w) 5 f fd ["things"] (spWrittenX K CT) := by
  refine okXN F scWritten (fun vs H Q E h => ?_) (fun cdv A outer s H vs Q E hr h => ?_)
  · obtain ⟨v, b, rfl, _⟩ := h
    rfl
  · obtain ⟨v, b, rfl, hv, kb, kg⟩ := h
    refine ⟨_, pss_cons (ps_expr (pe_call Kk.okT hr (by rfl) Kk.gT Kk.kT Kk.bT .nil (L2N.passes_call (L2N.takes_of rfl rfl rfl rfl) fun _ _ _ _ h => h) (pa_cons (pv 0) pa_nil)))
      (pss_cons (ps_expr (pe_call Kk.okS (hr.mono (by decide)) (by rfl) Kk.gS Kk.kS Kk.bS .nil (L2N.passes_call (L2N.takes_of rfl rfl rfl rfl) fun _ _ _ _ h => h) (pa_cons (pv 0) pa_nil)))
      (pss_cons (ps_if (pt_not (pt_truth (pv 0) (by intro _; rfl))) (pss_one (ps_ret (pe_glob (v := .str "-") (by rfl) gN rN))) pss_nil)
      (pss_one (ps_ret (pe_join pe_str (pe_lc (own := [("thing", 1)]) (g := gName 1) (tt := tYes) (te := tM1 (rJoin K) (tC (.str "/")) (tLc (iTup K (tVar 1)) (gName 2) tYes (tCB rStrI (tCons (tVar 2) tNil)) [2])) rfl scWritten.nd (pi_list (pv 0)) (blkOk_by (N := ["things", "thing", "part"]) (sc := defScope sWritten) (by decide +kernel))
        (fun _ _ _ _ _ => pg_name (i := 1) scWritten.nd rfl (Or.inl rfl)) (fun _ _ _ _ _ => pts_nil)
        (fun _ _ _ _ _ => ?el))))))), ?go⟩
    case el =>
      refine pe_join pe_str ?_
      exact pe_lc (own := [("part", 2)]) (g := gName 2) (tt := tYes) rfl scWritten.nd (pi_tup (pv 1)) (blkOk_by (N := ["things", "thing", "part"]) (sc := innerSc sWritten) (by decide +kernel))
          (fun _ _ _ _ _ => pg_name (i := 2) scWritten.nd rfl (Or.inl rfl)) (fun _ _ _ _ _ => pts_nil) (fun _ _ _ _ _ => pe_callTy call_str_int (by rfl) T.str PyProof.Rows.boot_str (pa_cons (pv 2) pa_nil))
    refine q_ask (ea_cons (ev_var rfl) ea_nil) fun H1 e1 => ⟨v, b, rfl, hv.mono e1, fun hb H2 e2 => ?_, fun hb => (kb hb).mono e1⟩
    obtain ⟨l, zs, rfl, hT, kr, ks⟩ := kg hb
    have e12 := e1.trans e2
    refine q_ask (ea_cons (ev_var rfl) ea_nil) fun H3 e3 => ⟨l, zs, rfl, hT.mono (e12.trans e3), fun hs H4 e4 => ?_, fun hs => (kr hs).mono (e12.trans e3)⟩
    have e34 := (e12.trans e3).trans e4
    have hT4 := hT.mono e34
    have ky := ks hs
    refine q_when (et_not (et_truL (ev_var rfl) hT4.ls)) (fun h H5 e5 => ?_) (fun h H5 e5 => ?_)
    · have z : zs = [] := by
        cases zs with
        | nil => rfl
        | cons _ _ => cases h
      rw [if_pos z] at ky
      exact s_ret ev_c fun H6 e6 => ky.go ((e34.trans e5).trans e6)
    · have z : zs ≠ [] := fun z => by
        rw [z] at h
        cases h
      rw [if_neg z] at ky
      have shz : ∀ t ∈ ths zs, Sh t := fun t ht => sh_of (List.all_eq_true.mp hs t ht)
      have nnz := ths_nn hT4
      have hle := hT4.le
      refine s_ret (ev_joinL (K := K) (a := " ") (ys := (ths zs).map wTh) ?_ ?_) fun H6 e6 => ky.go ((e34.trans e5).trans e6)
      · have hE := el_lcL (K := K) (σ := [some (.ref l), none, none]) (xs := tv zs) (j := 1) (vs := [1]) (tl := tVar 0) (t := tYes) (te := tM1 (rJoin K) (tC (.str "/")) (tLc (iTup K (tVar 1)) (gName 2) tYes (tCB rStrI (tCons (tVar 2) tNil)) [2])) (H := H5) (fun _ => true) (fun i => .str (wTh ((ths zs).getD i th0))) (ev_var rfl) (ex_l e5 hT4.ls) (by rw [tv_len]; omega) (fun x => rfl) (fun i x H6 e6 hi => et_yes) fun i x H6 e6 hi _ => ?_
        · rw [tv_len, ← ths_len zs, given_all, show (List.range (ths zs).length).map (fun i => V.str (wTh ((ths zs).getD i th0))) = (ths zs).map fun t => V.str (wTh t) from range_map (ths zs) th0 fun t => V.str (wTh t)] at hE
          rw [List.map_map]
          exact hE
        · obtain ⟨z, hz, rfl⟩ := tv_get hi
          have hti : (ths zs).getD i th0 = z.2 := by
            unfold ths
            rw [List.getD_eq_getElem?_getD, List.getElem?_map, hz]
            rfl
          have hm : z.2 ∈ ths zs := List.mem_map.mpr ⟨z, List.mem_of_getElem? hz, rfl⟩
          have n := nnz _ hm
          have s := shz _ hm
          rw [hti]
          refine ev_joinL (K := K) (a := "/") (ys := [(toString z.2.1 : Str), (toString z.2.2.1 : Str), (toString z.2.2.2 : Str)]) ?_ ?_
          · refine el_lcT (K := K) (xs := iv z.2) (fun _ => true) (fun j => .str ([(toString z.2.1 : Str), (toString z.2.2.1 : Str), (toString z.2.2.2 : Str)].getD j "")) (ev_var rfl) (ex_t (e5.trans e6) (hT4.it z (List.mem_of_getElem? hz))) (by show 3 ≤ 40000; decide) (fun x => rfl) (fun j x H7 e7 hj => et_yes) fun j x H7 e7 hj _ => ?_
            match j, hj with
            | 0, hj => obtain rfl := Option.some.inj hj; exact ev_cb (ea_cons (ev_var rfl) ea_nil) (rc_strI (log_of n.1 s.1))
            | 1, hj => obtain rfl := Option.some.inj hj; exact ev_cb (ea_cons (ev_var rfl) ea_nil) (rc_strI (log_of n.2.1 s.2.1))
            | 2, hj => obtain rfl := Option.some.inj hj; exact ev_cb (ea_cons (ev_var rfl) ea_nil) (rc_strI (log_of n.2.2 s.2.2))
            | j + 3, hj => cases hj
          · have a := num_le n.1 s.1
            have b := num_le n.2.1 s.2.1
            have c := num_le n.2.2 s.2.2
            have d : ("/" : Str).length = 1 := rfl
            simp only [List.map_cons, List.map_nil, List.sum_cons, List.sum_nil, List.length_cons, List.length_nil]
            omega
      · have d : (" " : Str).length = 1 := rfl
        have := sum_le (fun y : Str => y.length) 183 ((ths zs).map wTh) fun y hy => by
          obtain ⟨t, ht, rfl⟩ := List.mem_map.mp hy
          exact wTh_le (nnz t ht) (shz t ht)
        rw [List.length_map, ths_len] at this
        rw [List.length_map, ths_len, d]
        omega
end
end Bp
namespace Bp
open PySem L2 Evl
/-! ### draws -/
def primes : List Int := [1000003, 1000033, 1000037, 1000039, 1000081, 1000099, 1000117, 1000121, 1000133, 1000151, 1000159, 1000171, 1000183, 1000187, 1000193, 1000199]
def drawF (c k m : Int) : Int := (c * 48271 + k * 69621) % primes.getD (k % 16).toNat 1 % m
theorem drawF_lt {c k m : Int} (h : 0 < m) : 0 ≤ drawF c k m ∧ drawF c k m < m := ⟨Int.emod_nonneg _ (by omega), Int.emod_lt_of_pos _ h⟩
theorem prime_pos (j : Nat) : 0 < primes.getD j 1 := by
  rw [List.getD_eq_getElem?_getD]
  cases e : primes[j]? with
  | none => decide
  | some p =>
    have : ∀ p ∈ primes, 0 < p := by decide
    exact this p (List.mem_of_getElem? e)
theorem prime_at (k : Int) : atI (primes.map V.int) (k % 16) = some (.int (primes.getD (k % 16).toNat 1)) := by
  have h1 : 0 ≤ k % 16 := Int.emod_nonneg _ (by decide)
  have h2 : k % 16 < 16 := Int.emod_lt_of_pos _ (by decide)
  have h3 : (k % 16).toNat < primes.length := by show (k % 16).toNat < 16; omega
  refine at_of (j := (k % 16).toNat) (by omega) ?_
  rw [List.getElem?_map, List.getD_eq_getElem?_getD, List.getElem?_eq_getElem h3]
  rfl
/-! ### the promises of the law's own helpers -/
def spCell (K : PySem.W.Frag) : Sp := fun vs H Q _ => ∃ (a : Addr) (ns : List Int) (k : Nat), vs = [.ref a, .int (k : Int)] ∧ SqL K H a (ns.map V.int) ∧ RetV (.int (ns.getD k 0)) H Q
def spDraw : Sp := fun vs H Q _ => ∃ c k m : Int, vs = [.int c, .int k, .int m] ∧ 0 < m ∧ RetV (.int (drawF c k m)) H Q
def spThings (K : PySem.W.Frag) : Sp := fun vs H Q _ => ∃ (a : Addr) (ns : List Int), vs = [.ref a] ∧ SqL K H a (ns.map V.int) ∧ ns.length ≤ 63 ∧
  ∀ (l : Addr) (zs : List (Addr × Th)) (H' : Hp), Ex H H' → H l = none → H' l = some (.lst (tv zs)) → (∀ z ∈ zs, H' z.1 = some (.tup (iv z.2)) ∧ Bd z.2) → zs.length ≤ 189 → Q (.ref l) H'
section
variable {P : Program} {w : World} {K : PySem.W.Frag} {mg : Str → Option Value} {base : Heap}
theorem scCell : FnScope ["_law_script", "_law_k"] ["_law_script", "_law_k"] (defScope sCell) := ⟨rfl, rfl, rfl, by decide +kernel, rfl, by decide +kernel, by decide +kernel⟩
theorem ok_cell {f : Addr} {fd : FuncData} (F : Fun K "_law_cell_at" "_law_cell_at" sCell f fd) (T : Bn mg) : FnOk P w K mg base CX0 1 f fd ["_law_script", "_law_k"] (spCell K) := by
  refine F.ok scCell (fun vs H Q E h => ?_) (fun cdv A outer s H vs Q E hr h => ?_)
  · obtain ⟨a, ns, k, rfl, _⟩ := h
    rfl
  · obtain ⟨a, ns, k, rfl, hS, q⟩ := h
    refine ⟨_, pss_cons (ps_if (pt_cmpR op_lt (pv 1) (pe_callB call_len_seq (by rfl) T.len PySem.boot_len (pa_cons (pv 0) pa_nil)) (nomark _)) (pss_one (ps_ret (pe_ix ix_list (pv 0) (pv 1) (fun _ _ => rfl)))) pss_nil)
      (pss_one (ps_ret pe_int)), ?_⟩
    refine q_when (b := decide ((k : Int) < ((ns.map V.int).length : Int))) (et_test (ev_op (ev_var rfl) (ev_cb (ea_cons (ev_var rfl) ea_nil) (rc_lenL hS)) rv_I0)) (fun hb H1 e1 => ?_) (fun hb H1 e1 => ?_)
    · have hk : k < ns.length := by
        have := of_decide_eq_true hb
        rw [List.length_map] at this
        omega
      refine s_ret (ev_op (ev_var rfl) (ev_var rfl) (rv_ixL (v := .int (ns.getD k 0)) (ex_l e1 hS) (atI_nat ?_))) fun H2 e2 => q.go (e1.trans e2)
      rw [List.getElem?_map, List.getD_eq_getElem?_getD, List.getElem?_eq_getElem hk]
      rfl
    · have hk : ns.length ≤ k := by
        have := of_decide_eq_false hb
        rw [List.length_map] at this
        omega
      have e0 : ns.getD k 0 = 0 := by rw [List.getD_eq_getElem?_getD, List.getElem?_eq_none hk]; rfl
      rw [e0] at q
      exact s_ret ev_c fun H2 e2 => q.go (e1.trans e2)
theorem scDraw : FnScope ["_law_cell", "_law_k", "_law_many", "_law_primes"] ["_law_cell", "_law_k", "_law_many"] (defScope sDraw) := ⟨rfl, rfl, rfl, by decide +kernel, rfl, by decide +kernel, by decide +kernel⟩
theorem ok_draw {f : Addr} {fd : FuncData} (F : Fun K "_law_draw" "_law_draw" sDraw f fd) : FnOk P w K mg base CX0 1 f fd ["_law_cell", "_law_k", "_law_many"] spDraw := by
  refine F.ok scDraw (fun vs H Q E h => ?_) (fun cdv A outer s H vs Q E hr h => ?_)
  · obtain ⟨c, k, m, rfl, _⟩ := h
    rfl
  · obtain ⟨c, k, m, rfl, hm, q⟩ := h
    refine ⟨_, pss_cons (ps_set (i := 3) scDraw.nd rfl (Or.inl rfl) (pe_tup (pa_cons pe_int (pa_cons pe_int (pa_cons pe_int (pa_cons pe_int (pa_cons pe_int (pa_cons pe_int (pa_cons pe_int (pa_cons pe_int (pa_cons pe_int (pa_cons pe_int (pa_cons pe_int (pa_cons pe_int (pa_cons pe_int (pa_cons pe_int (pa_cons pe_int (pa_cons pe_int pa_nil))))))))))))))))))
      (pss_one (ps_ret (pe_op op_mod (pe_op op_mod (pe_op op_add (pe_op op_mul (pv 0) pe_int) (pe_op op_mul (pv 1) pe_int)) (pe_ix ix_tup (pv 3) (pe_op op_mod (pv 1) pe_int) (fun _ _ => rfl))) (pv 2)))), ?_⟩
    refine q_asgU (xs := primes.map V.int) (eu_tup (ea_cons ev_c (ea_cons ev_c (ea_cons ev_c (ea_cons ev_c (ea_cons ev_c (ea_cons ev_c (ea_cons ev_c (ea_cons ev_c (ea_cons ev_c (ea_cons ev_c (ea_cons ev_c (ea_cons ev_c (ea_cons ev_c (ea_cons ev_c (ea_cons ev_c (ea_cons ev_c ea_nil)))))))))))))))) (by decide)) fun p H1 np e1 hp => ?_
    refine s_ret (v := .int (drawF c k m)) (ev_op (ev_op (ev_op (ev_op (ev_var rfl) ev_c (rv_I (.inr (by decide)))) (ev_op (ev_var rfl) ev_c (rv_I (.inr (by decide)))) rv_I0)
      (ev_op (ev_var rfl) (ev_op (ev_var rfl) ev_c (rv_I (by decide))) (rv_ixT (st_of hp) (prime_at k))) (rv_I (prime_pos _))) (ev_var rfl) (rv_I hm)) fun H2 e2 => q.go (e1.trans e2)
end
end Bp
namespace Bp
open PySem L2 Evl
abbrev nThings : List Str := ["_law_script", "_law_kind", "_law_found", "_law_k", "_law_cell", "_law_three", "_law_most", "_law_one", "_law_rest", "_law_dry", "_law_other"]
theorem scThings : FnScope nThings ["_law_script"] (defScope sThings) := ⟨rfl, rfl, rfl, by decide +kernel, rfl, by decide +kernel, by decide +kernel⟩
section
variable {P : Program} {w : World} {K : PySem.W.Frag} {mg : Str → Option Value} {base : Heap}
theorem ok_things {f fC fD : Addr} {fd fdC fdD : FuncData} (F : Fun K "_law_things" "_law_things" sThings f fd) (T : Bn mg) (gC : mg "_law_cell_at" = some (.ref fC)) (FC : Fun K "_law_cell_at" "_law_cell_at" sCell fC fdC) (bC : Binds K fdC ["_law_script", "_law_k"] []) (GC : FnOk P w K mg base CX0 1 fC fdC ["_law_script", "_law_k"] (spCell K))
    (gD : mg "_law_draw" = some (.ref fD)) (FD : Fun K "_law_draw" "_law_draw" sDraw fD fdD) (bD : Binds K fdD ["_law_cell", "_law_k", "_law_many"] []) (GD : FnOk P w K mg base CX0 1 fD fdD ["_law_cell", "_law_k", "_law_many"] spDraw) : FnOk P w K mg base CX0 2 f fd ["_law_script"] (spThings K) := by
  refine F.ok scThings (fun vs H Q E h => ?_) (fun cdv A outer s H vs Q E hr h => ?_)
  · obtain ⟨a, ns, rfl, _⟩ := h
    rfl
  · obtain ⟨a, ns, rfl, hS, hz, q⟩ := h
    refine ⟨_, pss_cons (ps_set (i := 0) scThings.nd rfl (Or.inl rfl) (pe_slice sl_list (pv 0) po_none (po_some pe_int)))
      (pss_cons (ps_par (i := 1) (j := 2) (by rfl) scThings.nd rfl rfl (by decide) rfl rfl (pa_cons (pe_call GD hr (by rfl) gD FD.kp bD .nil pass0 (pa_cons (pe_call GC hr (by rfl) gC FC.kp bC .nil pass0 (pa_cons (pv 0) (pa_cons pe_int pa_nil))) (pa_cons pe_int (pa_cons pe_int pa_nil)))) (pa_cons (pe_lst pa_nil) pa_nil)) (by rfl))
      (pss_cons (ps_if (pt_cmpR op_eq (pe_op op_mod (pe_callB call_len_seq (by rfl) T.len PySem.boot_len (pa_cons (pv 0) pa_nil)) pe_int) pe_int (nomark _))
        (pss_cons (ps_for PassesOwn.never rfl (pi_range3 rfl T.range (pa_cons pe_int (pa_cons (pe_callB call_len_seq (by rfl) T.len PySem.boot_len (pa_cons (pv 0) pa_nil)) (pa_cons pe_int pa_nil)))) (pg_name (i := 3) scThings.nd rfl (Or.inl rfl))
          (pss_cons (ps_setLc (i := 5) (own := [("_law_cell", 4)]) (g := gName 4) (tt := tYes) (by rfl) scThings.nd rfl rfl (sw_true rfl rfl rfl (by decide +kernel)) (pi_list (pe_slice sl_list (pv 0) (po_some (pv 3)) (po_some (pe_op op_add (pv 3) pe_int)))) (blkOk_by (N := nThings) (sc := defScope sThings) (by decide +kernel))
            (fun _ _ _ _ _ => pg_name (i := 4) scThings.nd rfl (Or.inl rfl)) (fun _ _ _ _ _ => pts_nil) (fun _ _ _ _ _ => pe_op op_mod (pv 4) (pe_op op_pow pe_int pe_int)))
          (pss_one (ps_expr (pe_bm PySem.F.plainAttrs_list PySem.F.slot_list_append PySem.F.type_list_append mt_append (pv 2) (pa_cons (pe_tup (pa_cons (pe_ix ix_list (pv 5) pe_int (fun _ _ => rfl)) (pa_cons (pe_ix ix_list (pv 5) pe_int (fun _ _ => rfl)) (pa_cons (pe_ix ix_list (pv 5) pe_int (fun _ _ => rfl)) pa_nil)))) pa_nil))))))
        (pss_one (ps_ret (pv 2)))) pss_nil)
      (pss_cons (ps_set (i := 6) scThings.nd rfl (Or.inl rfl) (pe_ix ix_tup (pe_tup (pa_cons pe_int (pa_cons pe_int (pa_cons (pe_op op_pow pe_int pe_int) pa_nil)))) (pe_call GD hr (by rfl) gD FD.kp bD .nil pass0 (pa_cons (pe_call GC hr (by rfl) gC FC.kp bC .nil pass0 (pa_cons (pv 0) (pa_cons pe_int pa_nil))) (pa_cons pe_int (pa_cons pe_int pa_nil)))) (fun _ _ => rfl)))
      (pss_cons (ps_for PassesOwn.never rfl (pi_range1 rfl T.range (pa_cons (pe_op op_mul (pe_callB call_len_seq (by rfl) T.len PySem.boot_len (pa_cons (pv 0) pa_nil)) (pe_ifExp (pt_cmpR op_eq (pv 1) pe_int (nomark _)) pe_int pe_int)) pa_nil)) (pg_name (i := 3) scThings.nd rfl (Or.inl rfl))
        (pss_cons (ps_set (i := 4) scThings.nd rfl (Or.inl rfl) (pe_op op_add (pe_ix ix_list (pv 0) (pe_op op_mod (pv 3) (pe_callB call_len_seq (by rfl) T.len PySem.boot_len (pa_cons (pv 0) pa_nil))) (fun _ _ => rfl)) (pe_op op_mul pe_int (pe_op op_fdiv (pv 3) (pe_callB call_len_seq (by rfl) T.len PySem.boot_len (pa_cons (pv 0) pa_nil))))))
        (pss_cons (ps_par (i := 7) (j := 8) (by rfl) scThings.nd rfl rfl (by decide) rfl rfl (pa_cons (pe_op op_mod (pv 4) (pv 6)) (pa_cons (pe_op op_fdivW (pv 4) (pv 6)) pa_nil)) (by rfl))
        (pss_cons (ps_par (i := 9) (j := 10) (by rfl) scThings.nd rfl rfl (by decide) rfl rfl (pa_cons (pe_op op_mod (pv 8) (pv 6)) (pa_cons (pe_op op_mod (pe_op op_fdivW (pv 8) (pv 6)) (pv 6)) pa_nil)) (by rfl))
        (pss_cut (ps_if (pt_cmpR op_gt (pv 1) pe_int (nomark _))
          (pss_cons (ps_set (i := 7) scThings.nd rfl (Or.inl rfl) (pe_op op_fdiv (pe_op op_mul (pe_call GD hr (by rfl) gD FD.kp bD .nil pass0 (pa_cons (pv 4) (pa_cons (pe_op op_add (pe_op op_mod (pv 3) pe_int) pe_int) (pa_cons pe_int pa_nil)))) (pv 6)) pe_int))
          (pss_cons (ps_set (i := 9) scThings.nd rfl (Or.inl rfl) (pe_op op_fdiv (pe_op op_mul (pe_call GD hr (by rfl) gD FD.kp bD .nil pass0 (pa_cons (pe_op op_add (pe_op op_mul (pv 4) pe_int) (pv 3)) (pa_cons (pe_op op_add (pe_op op_mod (pv 3) pe_int) pe_int)
              (pa_cons (pe_ix ix_tup (pe_tup (pa_cons pe_int (pa_cons pe_int (pa_cons pe_int pa_nil)))) (pe_call GD hr (by rfl) gD FD.kp bD .nil pass0 (pa_cons (pv 4) (pa_cons pe_int (pa_cons pe_int pa_nil)))) (fun _ _ => rfl)) pa_nil)))) (pv 6)) pe_int))
          (pss_one (ps_set (i := 10) scThings.nd rfl (Or.inl rfl) (pe_op op_fdiv (pe_op op_mul (pe_call GD hr (by rfl) gD FD.kp bD .nil pass0 (pa_cons (pe_op op_add (pe_op op_mul (pv 4) pe_int) pe_int) (pa_cons (pe_op op_add (pe_op op_mod (pv 3) pe_int) pe_int) (pa_cons pe_int pa_nil)))) (pv 6)) pe_int))))) pss_nil)
        (pss_cut (ps_if (pt_cmpR op_eq (pv 1) pe_int (nomark _)) (pss_one (ps_set (i := 9) scThings.nd rfl (Or.inl rfl) pe_int)) pss_nil)
        (pss_cut (ps_if (PW.pt (pw_and (pt_cmpR op_eq (pv 1) pe_int (nomark _)) (pw_and1 (pt_cmpR op_lt (pv 7) (pv 10) (nomark _))))) (pss_one (ps_par (i := 7) (j := 10) (by rfl) scThings.nd rfl rfl (by decide) rfl rfl (pa_cons (pv 10) (pa_cons (pv 7) pa_nil)) (by rfl))) pss_nil)
        (pss_one (ps_expr (pe_bm PySem.F.plainAttrs_list PySem.F.slot_list_append PySem.F.type_list_append mt_append (pv 2) (pa_cons (pe_tup (pa_cons (pv 7) (pa_cons (pv 9) (pa_cons (pv 10) pa_nil)))) pa_nil)))))))))))
      (pss_one (ps_ret (pv 2))))))), ?_⟩
    have hzl : (ns.map V.int).length ≤ 63 := by rw [List.length_map]; exact hz
    -- script = script[:63]
    refine q_asgL (xs := ns.map V.int) (fun H1 e Q qq => (el_sl (ev_var rfl) eo_none (eo_some ev_c) (ex_l e hS)) H1 (Ex.refl H1) Q fun p H2 np e2 hp => qq p H2 np e2 (by rw [hp, cut63 hzl])) fun c H1 nc e1 hc => ?_
    have nc0 : H c = none := nc
    have hC : SqL K H1 c (ns.map V.int) := sq_of hc
    -- kind, found = draw(..), []
    have cellv : ∀ {σ : L2.St} {H2 : Hp} {tl tk : TE} (k : Nat), Ex H1 H2 → Ev tl σ H2 (.ref c) → Ev tk σ H2 (.int (k : Int)) → Ev (tCall (spCell K) [] E0 (tCons tl (tCons tk tNil))) σ H2 (.int (ns.getD k 0)) := fun k e2 h1 h2 =>
      ev_call (ea_cons h1 (ea_cons h2 ea_nil)) fun H3 e3 Q q E => ⟨c, ns, k, rfl, ex_l (e2.trans e3) hC, q⟩
    have drawv : ∀ {σ : L2.St} {H2 : Hp} {t1 t2 t3 : TE} {x y z : Int}, 0 < z → Ev t1 σ H2 (.int x) → Ev t2 σ H2 (.int y) → Ev t3 σ H2 (.int z) → Ev (tCall spDraw [] E0 (tCons t1 (tCons t2 (tCons t3 tNil)))) σ H2 (.int (drawF x y z)) := fun hp h1 h2 h3 =>
      ev_call (ea_cons h1 (ea_cons h2 (ea_cons h3 ea_nil))) fun H3 e3 Q q E => ⟨_, _, _, rfl, hp, q⟩
    refine drawv (z := 6) (by decide) (cellv 0 (Ex.refl H1) (ev_var rfl) ev_c) ev_c ev_c H1 (Ex.refl H1) _ fun H2 e2 => ?_
    have hk := drawF_lt (c := ns.getD 0 0) (k := 6) (m := 6) (by decide)
    generalize drawF (ns.getD 0 0) 6 6 = kind at hk
    refine ⟨Nat.zero_le _, fun l nl => ⟨_, _, rfl, ?_⟩⟩
    have nl0 : H1 l = none := fresh_back e2 nl
    have m0 : Made H1 (upd H2 l (.lst [])) l [] := ⟨e2.trans (Ex.new nl), upd_same, fun z hz => nomatch hz⟩
    have eC := m0.ex
    generalize hH3 : upd H2 l (.lst []) = H3 at m0 eC
    clear hH3
    refine q_when (b := decide (V.int ((ns.map V.int).length % 3 : Int) = V.int 0)) (et_test (ev_op (ev_op (ev_cb (ea_cons (ev_var rfl) ea_nil) (rc_lenL (ex_l eC hC))) ev_c (rv_I (by decide))) ev_c (rv_eq rfl))) (fun hb H4 e4 => ?_) (fun hb H4 e4 => ?_)
    · -- by threes
      have h3 : ns.length % 3 = 0 := by
        have := V.int.inj (of_decide_eq_true hb)
        rw [List.length_map] at this
        omega
      obtain ⟨r1, r2⟩ := rgc3 ns.length (by omega) h3
      refine q_forR3 (lo := 0) (hi := (ns.length : Int)) (c := 3) (n := ns.length / 3) (ea_cons ev_c (ea_cons (ev_is (ev_cb (ea_cons (ev_var rfl) ea_nil) (rc_lenL (ex_l (eC.trans e4) hC))) (by rw [List.length_map])) (ea_cons ev_c ea_nil))) ⟨by decide, by decide, r1, r2⟩
        (fun i σ' H' => ∃ (zs : List (Addr × Th)) (v3 v5 : Option V), σ' = [some (.ref c), some (.int kind), some (.ref l), v3, none, v5, none, none, none, none, none] ∧ Made H1 H' l zs ∧ zs.length = i)
        (fun H5 e5 => ⟨[], none, none, rfl, m0.more (e4.trans e5), rfl⟩) ?_ ?_
      · rintro i σ' H' hi ⟨zs, v3, v5, rfl, m, hzs⟩
        have eC' := m.ex
        have hi3 : i * 3 + 3 ≤ ns.length := by omega
        have e0 : (0 : Int) + (i : Int) * 3 = ((i * 3 : Nat) : Int) := by omega
        rw [e0]
        have hcs : ((ns.drop (i * 3)).take 3).length = 3 := by rw [List.length_take, List.length_drop]; omega
        refine q_asgL (xs := given 3 (fun _ => true) fun j => .int (((ns.drop (i * 3)).take 3).getD j 0 % 10 ^ 59)) ?_ fun p H5 np e5 hp => ?_
        · have hE : EvL _ _ H' (((ns.drop (i * 3)).take 3).map V.int) := fun H5 e5 Q qq => el_sl (σ := [some (.ref c), some (.int kind), some (.ref l), some (.int ((i * 3 : Nat) : Int)), none, v5, none, none, none, none, none]) (tl := tPart (tVar 3)) (th := tPart (tOp (rI0 fun i j => .int (i + j)) (tVar 3) (tC (.int 3)))) (te := tVar 0) (ev_var rfl) (eo_some (ev_var rfl)) (eo_some (ev_op (ev_var rfl) ev_c rv_I0)) (ex_l (eC'.trans e5) hC) H5 (Ex.refl H5) Q fun p H6 np e6 hp => qq p H6 np e6 (by
            rw [hp, cut3 (by rw [List.length_map]; exact hi3), List.map_take, List.map_drop])
          have := el_lcNL (K := K) (j := 4) (vs := [4]) (t := tYes) (te := tOp (rI (fun _ j => 0 < j) fun i j => .int (i % j)) (tVar 4) (tOp (rI CPow fun i j => .int (i ^ j.toNat)) (tC (.int 10)) (tC (.int 59)))) (fun _ => true) (fun j => V.int (((ns.drop (i * 3)).take 3).getD j 0 % 10 ^ 59)) hE (by rw [List.length_map, hcs]; decide) (fun x => rfl) (fun j x H5 e5 hj => et_yes) (fun j x H5 e5 hj _ => ?_)
          · rw [List.length_map, hcs] at this
            exact this
          · rw [List.getElem?_map] at hj
            cases hq : ((ns.drop (i * 3)).take 3)[j]? with
            | none => rw [hq] at hj; cases hj
            | some y =>
              rw [hq] at hj
              obtain rfl := Option.some.inj hj
              rw [List.getD_eq_getElem?_getD, hq]
              exact ev_op (ev_var rfl) (ev_op ev_c ev_c (rv_I ⟨by decide, by decide, by decide⟩)) (rv_I (by decide))
        · generalize ((ns.drop (i * 3)).take 3) = cs at hp
          have hb : ∀ x : Int, 0 ≤ x % 10 ^ 59 ∧ x % 10 ^ 59 < 10 ^ 59 := fun x => ⟨Int.emod_nonneg _ (by decide), Int.emod_lt_of_pos _ (by decide)⟩
          refine s_made (t := (cs.getD 0 0 % 10 ^ 59, cs.getD 1 0 % 10 ^ 59, cs.getD 2 0 % 10 ^ 59)) (m.more e5) nl0 (by omega) (ev_var rfl)
            (ea_cons (ev_op (ev_var rfl) ev_c (rv_ixL (sq_of hp) rfl)) (ea_cons (ev_op (ev_var rfl) ev_c (rv_ixL (sq_of hp) rfl)) (ea_cons (ev_op (ev_var rfl) ev_c (rv_ixL (sq_of hp) rfl)) ea_nil))) ⟨hb _, hb _, hb _⟩ fun t H6 m6 => ⟨_, _, _, rfl, m6, ?_⟩
          rw [List.length_append, hzs]
          rfl
      · rintro σ' H' ⟨zs, v3, v5, rfl, m, hzs⟩
        exact s_ret (ev_var rfl) fun H5 e5 => q l zs H5 ((e1.trans m.ex).trans e5) (fresh_back e1 nl0) (e5 _ _ m.ls) (fun z hz => ⟨e5 _ _ (m.it z hz).1, (m.it z hz).2⟩) (by omega)
    · -- one for each number
      have hL : 0 < (ns.map V.int).length := by
        have := of_decide_eq_false hb
        rw [List.length_map] at this ⊢
        rcases Nat.eq_zero_or_pos ns.length with h | h
        · rw [h] at this
          exact absurd rfl this
        · exact h
      have hd := drawF_lt (c := ns.getD 1 0) (k := 7) (m := 3) (by decide)
      have hdr := drawv (σ := [some (.ref c), some (.int kind), some (.ref l), none, none, none, none, none, none, none, none]) (z := 3) (by decide) (cellv 1 (eC.trans e4) (tl := tVar 0) (tk := tC (.int 1)) (ev_var rfl) ev_c) (t2 := tC (.int 7)) (t3 := tC (.int 3)) ev_c ev_c
      generalize drawF (ns.getD 1 0) 7 3 = d at hd hdr
      obtain ⟨most, am, hm0, hm1⟩ := pick3 (a := 3) (b := 10) (c := 10 ^ 20) hd.1 hd.2 (10 ^ 20) (by decide) (by decide) (by decide)
      refine q_asg (v := .int most) (ev_opU1 (xs := [.int 3, .int 10, .int (10 ^ 20)]) (eu_tup (ea_cons ev_c (ea_cons ev_c (ea_cons (ev_is (ev_op ev_c ev_c (rv_I ⟨by decide, by decide, by decide⟩)) rfl) ea_nil))) (by show 3 ≤ 100000; decide)) (fun H5 e5 => hdr.mono e5) fun p H5 hp e5 => rv_ixT (st_of hp) am) fun H5 e5 => ?_
      obtain ⟨mult, hm3, ht, hf⟩ : ∃ mult : Nat, (mult = 3 ∨ mult = 1) ∧ (decide (V.int kind = V.int 5) = true → mult = 3) ∧ (decide (V.int kind = V.int 5) = false → mult = 1) := by
        cases decide (V.int kind = V.int 5) with
        | true => exact ⟨3, .inl rfl, fun _ => rfl, fun h => by cases h⟩
        | false => exact ⟨1, .inr rfl, fun h => (by cases h), fun _ => rfl⟩
      obtain ⟨N, hN, hN2⟩ : ∃ N : Nat, ((ns.map V.int).length : Int) * (mult : Int) = (N : Int) ∧ N ≤ 189 := by
        rcases hm3 with rfl | rfl
        · exact ⟨(ns.map V.int).length * 3, by omega, by omega⟩
        · exact ⟨(ns.map V.int).length, by omega, by omega⟩
      have m4 : Made H1 H5 l [] := m0.more (e4.trans e5)
      refine q_forR1 (n := (N : Int)) (ea_cons (ev_is (ev_op (ev_cb (ea_cons (ev_var rfl) ea_nil) (rc_lenL (ex_l m4.ex hC))) (ev_if (v := .int (mult : Int)) (et_test (ev_op (ev_var rfl) ev_c (rv_eq rfl))) (fun h => by rw [ht h]; exact ev_c) (fun h => by rw [hf h]; exact ev_c)) (rv_I (.inl (by omega)))) (by rw [hN])) ea_nil) (by omega)
        (fun i σ' H' => ∃ (zs : List (Addr × Th)) (v3 v4 v7 v8 v9 v10 : Option V), σ' = [some (.ref c), some (.int kind), some (.ref l), v3, v4, none, some (.int most), v7, v8, v9, v10] ∧ Made H1 H' l zs ∧ zs.length = i)
        (fun H6 e6 => ⟨[], none, none, none, none, none, none, rfl, m4.more e6, rfl⟩) ?_ ?_
      · rintro i σ' H' hi ⟨zs, v3, v4, v7, v8, v9, v10, rfl, m, hzs⟩
        have hLi : 0 < ((ns.map V.int).length : Int) := by omega
        have hr1 : 0 ≤ (i : Int) % ((ns.map V.int).length : Int) := Int.emod_nonneg _ (by omega)
        have hr2 : (i : Int) % ((ns.map V.int).length : Int) < ((ns.map V.int).length : Int) := Int.emod_lt_of_pos _ hLi
        obtain ⟨j, hj⟩ : ∃ j : Nat, (i : Int) % ((ns.map V.int).length : Int) = (j : Int) := ⟨((i : Int) % ((ns.map V.int).length : Int)).toNat, by omega⟩
        have hjl : j < ns.length := by
          rw [List.length_map] at hr2 hj
          omega
        have hat : (ns.map V.int)[j]? = some (.int ns[j]) := by
          rw [List.getElem?_map, List.getElem?_eq_getElem hjl]
          rfl
        generalize ns[j] = nj at hat
        have hw70 : most.natAbs < 2 ^ 70 := Nat.lt_of_le_of_lt (by omega : most.natAbs ≤ 100000000000000000000) (by decide)
        refine q_asg (ev_op (ev_op (ev_var rfl) (ev_op (ev_var rfl) (ev_cb (ea_cons (ev_var rfl) ea_nil) (rc_lenL (ex_l m.ex hC))) (rv_I hLi)) (rv_ixL (ex_l m.ex hC) (at_of hj hat))) (ev_op ev_c (ev_op (ev_var rfl) (ev_cb (ea_cons (ev_var rfl) ea_nil) (rc_lenL (ex_l m.ex hC))) (rv_I ⟨hLi, by omega⟩)) (rv_I (.inl (by decide)))) rv_I0) fun H6 e6 => ?_
        generalize nj + 977 * ((i : Int) / ((ns.map V.int).length : Int)) = cell
        refine q_par (ea_cons (ev_op (ev_var rfl) (ev_var rfl) (rv_I hm0)) (ea_cons (ev_op (ev_var rfl) (ev_var rfl) (rv_I (wide_div hm0 hw70 (by decide) (by decide)))) ea_nil)) fun H7 e7 => ?_
        refine q_par (ea_cons (ev_op (ev_var rfl) (ev_var rfl) (rv_I hm0)) (ea_cons (ev_op (ev_op (ev_var rfl) (ev_var rfl) (rv_I (wide_div hm0 hw70 (by decide) (by decide)))) (ev_var rfl) (rv_I hm0)) ea_nil)) fun H8 e8 => ?_
        have m8 := m.more ((e6.trans e7).trans e8)
        have bd : ∀ x : Int, 0 ≤ x % most ∧ x % most < 10 ^ 59 := fun x => by
          have h1 := Int.emod_nonneg x (show most ≠ 0 by omega)
          have h2 := Int.emod_lt_of_pos x hm0
          omega
        refine q_cut (M := fun σ2 H2 => ∃ (x y z : Int) (v8 : Option V), σ2 = [some (.ref c), some (.int kind), some (.ref l), some (.int (i : Int)), some (.int cell), none, some (.int most), some (.int x), v8, some (.int y), some (.int z)] ∧ Made H1 H2 l zs ∧ Bd (x, y, z)) ?_ ?_
        · refine s_when (et_test (ev_op (ev_var rfl) ev_c rv_I0)) (fun _ H9 e9 => ?_) (fun _ H9 e9 => ⟨_, _, _, _, rfl, m8.more e9, bd _, bd _, bd _⟩)
          have d1 := drawF_lt (c := cell) (k := (i : Int) % 5 + 1) (m := 30) (by decide)
          refine q_asg (ev_op (ev_op (drawv (z := 30) (by decide) (ev_var rfl) (ev_op (ev_op (ev_var rfl) ev_c (rv_I (by decide))) ev_c rv_I0) ev_c) (ev_var rfl) (rv_I (.inl (by omega)))) ev_c (rv_I ⟨by decide, by decide⟩)) fun H10 e10 => ?_
          have d2 := drawF_lt (c := cell) (k := 3) (m := 3) (by decide)
          obtain ⟨p2, a2, q0, q1⟩ := pick3 (a := 1) (b := 30) (c := 200) d2.1 d2.2 200 (by decide) (by decide) (by decide)
          have d3 := drawF_lt (c := cell * 3 + (i : Int)) (k := (i : Int) % 7 + 2) (m := p2) q0
          refine q_asg (ev_op (ev_op (drawv (z := p2) q0 (ev_op (ev_op (ev_var rfl) ev_c (rv_I (.inr (by decide)))) (ev_var rfl) rv_I0) (ev_op (ev_op (ev_var rfl) ev_c (rv_I (by decide))) ev_c rv_I0)
            (ev_opU1 (xs := [.int 1, .int 30, .int 200]) (eu_tup (ea_cons ev_c (ea_cons ev_c (ea_cons ev_c ea_nil))) (by show 3 ≤ 100000; decide)) (fun H5 e5 => drawv (z := 3) (by decide) (ev_var rfl) ev_c ev_c) fun p H5 hp e5 => rv_ixT (st_of hp) a2)) (ev_var rfl) (rv_I (.inl (by omega)))) ev_c (rv_I ⟨by decide, by decide⟩)) fun H11 e11 => ?_
          have d4 := drawF_lt (c := cell * 7 + 1) (k := (i : Int) % 3 + 9) (m := 30) (by decide)
          refine s_asg (ev_op (ev_op (drawv (z := 30) (by decide) (ev_op (ev_op (ev_var rfl) ev_c (rv_I (.inr (by decide)))) ev_c rv_I0) (ev_op (ev_op (ev_var rfl) ev_c (rv_I (by decide))) ev_c rv_I0) ev_c) (ev_var rfl) (rv_I (.inl (by omega)))) ev_c (rv_I ⟨by decide, by decide⟩)) fun H12 e12 => ?_
          exact ⟨_, _, _, _, rfl, m8.more (((e9.trans e10).trans e11).trans e12), part_ok d1.1 (by omega) hm0 hm1, part_ok d3.1 (by omega) hm0 hm1, part_ok d4.1 (by omega) hm0 hm1⟩
        · rintro σ2 H2 ⟨x, y, z, v8', rfl, m2, hb2⟩
          refine q_cut (M := fun σ2 H2 => ∃ (x y z : Int) (v8 : Option V), σ2 = [some (.ref c), some (.int kind), some (.ref l), some (.int (i : Int)), some (.int cell), none, some (.int most), some (.int x), v8, some (.int y), some (.int z)] ∧ Made H1 H2 l zs ∧ Bd (x, y, z)) ?_ ?_
          · exact s_when (et_test (ev_op (ev_var rfl) ev_c (rv_eq rfl))) (fun _ H9 e9 => s_asg ev_c fun H10 e10 => ⟨_, _, _, _, rfl, m2.more (e9.trans e10), hb2.1, ⟨Int.le_refl 0, by show (0 : Int) < 10 ^ 59; decide⟩, hb2.2.2⟩) (fun _ H9 e9 => ⟨_, _, _, _, rfl, m2.more e9, hb2⟩)
          · clear hb2
            rintro σ3 H3' ⟨x, y, z, v8'', rfl, m3, hb3⟩
            refine q_cut (M := fun σ2 H2 => ∃ (x y z : Int) (v8 : Option V), σ2 = [some (.ref c), some (.int kind), some (.ref l), some (.int (i : Int)), some (.int cell), none, some (.int most), some (.int x), v8, some (.int y), some (.int z)] ∧ Made H1 H2 l zs ∧ Bd (x, y, z)) ?_ ?_
            · exact s_when (et_and (et_test (ev_op (ev_var rfl) ev_c (rv_eq rfl))) fun _ => et_test (ev_op (ev_var rfl) (ev_var rfl) rv_I0)) (fun _ H9 e9 => s_par (ea_cons (ev_var rfl) (ea_cons (ev_var rfl) ea_nil)) fun H10 e10 => ⟨_, _, _, _, rfl, m3.more (e9.trans e10), hb3.2.2, hb3.2.1, hb3.1⟩) (fun _ H9 e9 => ⟨_, _, _, _, rfl, m3.more e9, hb3⟩)
            · clear hb3
              rintro σ4 H4' ⟨x, y, z, v8''', rfl, m5, hb4⟩
              refine s_made (t := (x, y, z)) m5 nl0 (by omega) (ev_var rfl) (ea_cons (ev_var rfl) (ea_cons (ev_var rfl) (ea_cons (ev_var rfl) ea_nil))) hb4 fun t H6 m6 => ⟨_, _, _, _, _, _, _, rfl, m6, ?_⟩
              rw [List.length_append, hzs]
              rfl
      · rintro σ' H' ⟨zs, v3, v4, v7, v8, v9, v10, rfl, m, hzs⟩
        rw [Int.toNat_natCast] at hzs
        exact s_ret (ev_var rfl) fun H5 e5 => q l zs H5 ((e1.trans m.ex).trans e5) (fresh_back e1 nl0) (e5 _ _ m.ls) (fun z hz => ⟨e5 _ _ (m.it z hz).1, (m.it z hz).2⟩) (by omega)
end
end Bp
namespace Bp
open PySem L2 Evl
/-! ### what reads -/
def spWL : Sp := fun vs H Q _ => ∃ z : Str, vs = [.str z] ∧ z.length ≤ 36000 ∧ RetV (.bl (wlB z)) H Q
def spReadT (C : Addr) : Sp := fun vs H Q E => ∃ z : Str, vs = [.str z] ∧ z.length ≤ 36000 ∧ (∀ t, rdW z = some t → ∀ p H1, H p = none → Ex H H1 → H1 p = some (.tup (iv t)) → Q (.ref p) H1) ∧ (rdW z = none → Refuse C H E)
def NonStr (n : String) : Prop := n ∈ ["int", "bool", "NoneType", "list"]
theorem kit_str : ∀ n, NonStr n → kitB n "str" = some false := by
  intro n h
  simp only [NonStr, List.mem_cons, List.not_mem_nil, or_false] at h
  rcases h with rfl | rfl | rfl | rfl <;> decide +kernel
def spRead (K : PySem.W.Frag) (C : Addr) : Sp := fun vs H Q E => ∃ v : V, vs = [v] ∧ ((∃ n, NonStr n ∧ Ty K H v n ∧ Refuse C H E) ∨ ∃ z : Str, v = .str z ∧ z.length ≤ 36000 ∧
  (∀ ts, rdT z = some ts → ∀ l zs H1, H l = none → Ex H H1 → H1 l = some (.lst (tv zs)) → (∀ x ∈ zs, H1 x.1 = some (.tup (iv x.2))) → ths zs = ts → Q (.ref l) H1) ∧ (rdT z = none → Refuse C H E))
theorem eu_tupL {K : PySem.W.Frag} {σ : L2.St} {H : Hp} {te : TE} {xs : List V} (h : EvL te σ H xs) : EvU (tCB (fun us H Q => ∃ p ys, us = [.ref p] ∧ ((SqL K H p ys ∧ ∀ l, H l = none → Q (.ref l) (upd H l (.tup ys))) ∨ (SqT K H p ys ∧ Q (.ref p) H))) (tCons te tNil)) σ H xs := fun H1 e Q q =>
  h H1 e _ fun p H2 _ e2 hp => ⟨p, xs, rfl, .inl ⟨sq_of hp, fun l nl => q l _ (fresh_back e2 nl) (e2.trans (Ex.new nl)) upd_same⟩⟩
section
variable {P : Program} {w : World} {K : PySem.W.Frag} {mg : Str → Option Value} {base : Heap}
theorem scWL : FnScope ["part", "sign"] ["part"] (defScope sIsWL) := ⟨rfl, rfl, rfl, by decide +kernel, rfl, by decide +kernel, by decide +kernel⟩
theorem ok_wl {f : Addr} {fd : FuncData} (F : Fun K "is_written_length" "is_written_length" sIsWL f fd) (T : Bn mg) {uF : Value} (gF : mg "FIGURES" = some uF) (rF : RelV (.str FIG) uF) : FnOk P w K mg base CX0 1 f fd ["part"] spWL := by
  refine F.ok scWL (fun vs H Q E h => ?_) (fun cdv A outer s H vs Q E hr h => ?_)
  · obtain ⟨z, rfl, _⟩ := h
    rfl
  · obtain ⟨z, rfl, hz, k⟩ := h
    refine ⟨_, pss_cons (ps_if (pt_not (pt_chain op_le op_le pe_int (pe_callB call_len_str (by rfl) T.len PySem.boot_len (pa_cons (pv 0) pa_nil)) pe_int)) (pss_one (ps_ret pe_bl)) pss_nil)
      (pss_cons (ps_if (pt_not (pt_val (pe_callB (cr_all rfl) (by rfl) T.all (by decide +kernel) (pa_cons (pe_lc (own := [("sign", 1)]) (g := gName 1) (tt := tYes) rfl scWL.nd (pi_str (pv 0)) (blkOk_by (N := ["part", "sign"]) (sc := defScope sIsWL) (by decide +kernel))
        (fun _ _ _ _ _ => pg_name (i := 1) scWL.nd rfl (Or.inl rfl)) (fun _ _ _ _ _ => pts_nil) (fun _ _ _ _ _ => pe_cmpR op_in_sign (pv 1) (pe_glob (v := .str FIG) (by rfl) gF rF) (by rfl))) pa_nil)))) (pss_one (ps_ret pe_bl)) pss_nil)
      (pss_one (ps_ret (pe_or (pe_cmpR op_eq (pv 0) pe_str (nomark _)) (pe_one (pe_cmpR op_ne (pe_item_str (pv 0) pe_int (fun _ _ => rfl)) pe_str (nomark _))))))), ?_⟩
    have hk : ∀ {b : Bool}, wlB z = b → RetV (.bl b) H Q := fun h => by rw [← h]; exact k
    refine q_when (et_not (et_test (ev_chain ev_c (ev_cb (ea_cons (ev_var rfl) ea_nil) (rc_lenS (by omega))) rv_I0 ev_c rv_I0))) (fun hb H1 e1 => s_ret ev_c fun H2 e2 => (hk (b := false) ?_).go (e1.trans e2)) (fun hb H1 e1 => ?_)
    · unfold wlB
      have : decide (1 ≤ z.length ∧ z.length ≤ 60) = false := decide_eq_false fun ⟨a, b⟩ => by
        have h1 : decide ((1 : Int) ≤ (z.length : Int)) = true := decide_eq_true (by omega)
        have h2 : decide ((z.length : Int) ≤ 60) = true := decide_eq_true (by omega)
        rw [h1, h2] at hb
        cases hb
      rw [this]
      rfl
    have hl : 1 ≤ z.length ∧ z.length ≤ 60 := by
      simp only [Bool.not_eq_false', Bool.and_eq_true, decide_eq_true_eq] at hb
      omega
    have all_of : (given z.length (fun _ => true) fun i => V.bl (figB (z.cps.toList.getD i 0))) = (z.cps.toList.map figB).map V.bl := by
      have := given_bools z.cps.toList 0 figB
      rw [Array.length_toList] at this
      exact this
    refine q_when (b := !z.cps.toList.all figB) (et_not (et_B (ev_cbL (el_lcS (fun _ => true) (fun i => .bl (figB (z.cps.toList.getD i 0))) (ev_var rfl) (by omega) (fun x => rfl) (fun i c H2 e2 hc => et_yes) fun i c H2 e2 hc _ => ?_) fun p H2 e2 hp => ?_))) (fun hb2 H2 e2 => s_ret ev_c fun H3 e3 => (hk (b := false) ?_).go ((e1.trans e2).trans e3)) (fun hb2 H2 e2 => ?_)
    · have : z.cps.toList.getD i 0 = c := by
        rw [List.getD_eq_getElem?_getD, Array.getElem?_toList, hc]
        rfl
      rw [this, ← fig_mem]
      exact ev_op (ev_var rfl) ev_c rv_inS
    · rw [all_of] at hp
      have := rc_all (K := K) (bs := z.cps.toList.map figB) (sq_of hp)
      rw [List.all_map] at this
      exact this
    · unfold wlB
      have : z.cps.toList.all figB = false := by simpa using hb2
      rw [this, Bool.false_and, Bool.and_false]
    · have hf : z.cps.toList.all figB = true := by simpa using hb2
      obtain ⟨c, hc⟩ : ∃ c, z.cps[0]? = some c := ⟨_, Array.getElem?_eq_getElem (show 0 < z.cps.size from hl.1)⟩
      have hh : z.cps.toList.head? = some c := by
        rw [List.head?_eq_getElem?, Array.getElem?_toList]
        exact hc
      have hw : wlB z = (decide (V.str z = V.str "0") || !decide (V.str (⟨#[c]⟩ : Str) = V.str "0")) := by
        unfold wlB
        rw [hf, decide_eq_true hl, hh, one_zero, Bool.true_and, Bool.true_and]
        congr 1
        · exact decide_eq_decide.mpr ⟨fun h => by rw [h], fun h => V.str.inj h⟩
        · by_cases h : c = 48
          · rw [h]
            decide
          · rw [decide_eq_false h, decide_eq_true (show some c ≠ some 48 from fun q => h (Option.some.inj q))]
            rfl
      refine s_ret (ev_orV (ev_op (ev_var rfl) ev_c (rv_eq rfl)) fun _ => ev_op (ev_op (ev_var rfl) ev_c (rv_item0 hc)) ev_c (rv_ne rfl)) fun H3 e3 => (hk hw).go ((e1.trans e2).trans e3)
theorem scReadT : FnScope ["word", "parts", "part"] ["word"] (defScope sReadT) := ⟨rfl, rfl, rfl, by decide +kernel, rfl, by decide +kernel, by decide +kernel⟩
theorem ok_readT {f fL C : Addr} {fd fdL : FuncData} (F : Fun K "read_thing" "read_thing" sReadT f fd) (T : Bn mg) (hint : mg "int" = none) (N : XC K mg "BadText" C) (gL : mg "is_written_length" = some (.ref fL)) (kL : PySem.W.keepIn K (.ref fL) = true) (bL : Binds K fdL ["part"] []) (GL : FnOk P w K mg base CX0 1 fL fdL ["part"] spWL) : FnOk P w K mg base (L2N.CX P w) 2 f fd ["word"] (spReadT C) := by
  refine okXN F scReadT (fun vs H Q E h => ?_) (fun cdv A outer s H vs Q E hr h => ?_)
  · obtain ⟨z, rfl, _⟩ := h
    rfl
  · obtain ⟨z, rfl, hz, ky, kn⟩ := h
    refine ⟨_, pss_cons (ps_set (i := 1) scReadT.nd rfl (Or.inl rfl) (pe_split (pv 0) pe_str))
      (pss_cons (ps_if (PW.pt (pw_or (pt_cmpR op_ne (pe_callB call_len_seq (by rfl) T.len PySem.boot_len (pa_cons (pv 1) pa_nil)) pe_int (nomark _)) (pw_or1 (pt_not (pt_val (pe_callB (cr_all rfl) (by rfl) T.all (by decide +kernel) (pa_cons (pe_lc (own := [("part", 2)]) (g := gName 2) (tt := tYes) rfl scReadT.nd (pi_list (pv 1)) (blkOk_by (N := ["word", "parts", "part"]) (sc := defScope sReadT) (by decide +kernel))
          (fun _ _ _ _ _ => pg_name (i := 2) scReadT.nd rfl (Or.inl rfl)) (fun _ _ _ _ _ => pts_nil) (fun _ _ _ _ _ => pe_call GL hr (by rfl) gL kL bL .nil pass0 (pa_cons (pv 2) pa_nil))) pa_nil)))))))
        (pss_one (L2N.ps_raise rfl (L2N.takes_of rfl rfl rfl rfl) (L2N.pmk_own PySem.F.excBase_ValueError N.q N.g N.k (raises_own N.b N.t) rfl))) pss_nil)
      (pss_one (ps_ret (pe_callTy call_tuple_of (by rfl) T.tuple PyProof.Rows.boot_tuple (pa_cons (pe_lc (own := [("part", 2)]) (g := gName 2) (tt := tYes) rfl scReadT.nd (pi_list (pv 1)) (blkOk_by (N := ["word", "parts", "part"]) (sc := defScope sReadT) (by decide +kernel))
          (fun _ _ _ _ _ => pg_name (i := 2) scReadT.nd rfl (Or.inl rfl)) (fun _ _ _ _ _ => pts_nil) (fun _ _ _ _ _ => pe_callTy call_int_str (by rfl) hint PyProof.Rows.boot_int (pa_cons (pv 2) pa_nil))) pa_nil))))), ?_⟩
    obtain ⟨f1, f2⟩ := split_few (z := z) (y := "/") rfl
    refine q_asgL (xs := (Txt.split z "/").map V.str) (el_split (ev_var rfl) (fun _ _ => ev_c) (by decide) (by omega)) fun p H1 np e1 hp => ?_
    have pl : (Txt.split z "/").length ≤ 40000 := by omega
    refine q_when (et_or (et_test (ev_op (ev_cb (ea_cons (ev_var rfl) ea_nil) (rc_lenL (sq_of hp))) ev_c (rv_ne rfl))) fun _ => et_not (et_B (b := (Txt.split z "/").all wlB) (ev_cbL (el_lcL (a := p) (xs := (Txt.split z "/").map V.str) (fun _ => true) (fun i => .bl (wlB ((Txt.split z "/").getD i ""))) (ev_var rfl) (sq_of hp) (by rw [List.length_map]; exact pl) (fun x => rfl) (fun i x H2 e2 hi => et_yes) fun i x H2 e2 hi _ => ?_) fun q H2 e2 hq => ?_))) (fun hb H2 e2 => ?_) (fun hb H2 e2 => ?_)
    · rw [List.getElem?_map] at hi
      cases hs : (Txt.split z "/")[i]? with
      | none => rw [hs] at hi; cases hi
      | some y =>
        rw [hs] at hi
        obtain rfl := Option.some.inj hi
        rw [List.getD_eq_getElem?_getD, hs]
        have := f2 y (List.mem_of_getElem? hs)
        exact ev_call (ea_cons (ev_var rfl) ea_nil) fun H3 e3 Q q E => ⟨y, rfl, by omega, q⟩
    · rw [List.length_map, given_bools (Txt.split z "/") "" wlB] at hq
      have := rc_all (K := K) (bs := (Txt.split z "/").map wlB) (sq_of hq)
      rw [List.all_map] at this
      exact this
    · refine (kn (rdW_no fun ⟨g1, g2⟩ => ?_)).go (e1.trans e2)
      rw [g2, List.length_map, g1] at hb
      revert hb
      decide
    · have h3 : (Txt.split z "/").length = 3 ∧ (Txt.split z "/").all wlB = true := by
        simp only [Bool.or_eq_false_iff, Bool.not_eq_false'] at hb
        refine ⟨?_, hb.2⟩
        have := V.int.inj (of_decide_eq_true hb.1)
        rw [List.length_map] at this
        omega
      obtain ⟨a, b, c, hlt, hps, hrd⟩ := rdW_yes h3.1 h3.2
      have kt := ky _ hrd
      refine s_retU (xs := [.int (a : Int), .int (b : Int), .int (c : Int)]) (eu_tupL (fun H3 e3 Q q => el_lcL (a := p) (xs := (Txt.split z "/").map V.str) (fun _ => true) (fun i => .int ([(a : Int), (b : Int), (c : Int)].getD i 0)) (ev_var rfl) (sq_of (e2 _ _ hp)) (by rw [List.length_map]; exact pl) (fun x => rfl) (fun i x H4 e4 hi => et_yes) (fun i x H4 e4 hi _ => ?_) H3 e3 Q fun r H4 nr e4 hr => q r H4 nr e4 (by rw [hr, List.length_map, h3.1]; rfl))) fun r H3 nr e3 hr => ?_
      · rw [hps] at hi
        match i, hi with
        | 0, hi => obtain rfl := Option.some.inj hi; exact ev_cb (ea_cons (ev_var rfl) ea_nil) (rc_intS (num_int hlt.1) (Nat.le_trans (num_le (i := (a : Int)) (by omega) (by omega)) (by decide)))
        | 1, hi => obtain rfl := Option.some.inj hi; exact ev_cb (ea_cons (ev_var rfl) ea_nil) (rc_intS (num_int hlt.2.1) (Nat.le_trans (num_le (i := (b : Int)) (by omega) (by omega)) (by decide)))
        | 2, hi => obtain rfl := Option.some.inj hi; exact ev_cb (ea_cons (ev_var rfl) ea_nil) (rc_intS (num_int hlt.2.2) (Nat.le_trans (num_le (i := (c : Int)) (by omega) (by omega)) (by decide)))
        | i + 3, hi => cases hi
      · exact kt r H3 (fresh_back (e1.trans e2) nr) ((e1.trans e2).trans e3) hr
end
end Bp
namespace Bp
open PySem L2 Evl
theorem rdT_none {z w : Str} (hz : z ≠ "-") (hw : w ∈ Txt.split z " ") (h : rdW w = none) : rdT z = none := by
  cases e : rdT z with
  | none => rfl
  | some ts =>
    have := rdT_words hz e
    have hm : none ∈ (Txt.split z " ").map rdW := List.mem_map.mpr ⟨w, hw, h⟩
    rw [this] at hm
    obtain ⟨t, _, ht⟩ := List.mem_map.mp hm
    cases ht
theorem rdT_some {z : Str} {ts : List Th} (hz : z ≠ "-") (h : (Txt.split z " ").map rdW = ts.map some) : rdT z = some ts := by
  unfold rdT
  rw [if_neg hz]
  exact allOf_some.mpr h
section
variable {P : Program} {w : World} {K : PySem.W.Frag} {mg : Str → Option Value} {base : Heap}
theorem scRead : FnScope ["text", "word"] ["text"] (defScope sRead) := ⟨rfl, rfl, rfl, by decide +kernel, rfl, by decide +kernel, by decide +kernel⟩
theorem ok_read {f fR C : Addr} {fd fdR : FuncData} (F : Fun K "read" "read" sRead f fd) (T : Bn mg) {uN : Value} (gN : mg "NOTHING" = some uN) (rN : RelV (.str "-") uN) (N : XC K mg "BadText" C) (gR : mg "read_thing" = some (.ref fR)) (kR : PySem.W.keepIn K (.ref fR) = true) (bR : Binds K fdR ["word"] []) (GR : FnOk P w K mg base (L2N.CX P w) 2 fR fdR ["word"] (spReadT C)) : FnOk P w K mg base (L2N.CX P w) 3 f fd ["text"] (spRead K C) := by
  refine okXN F scRead (fun vs H Q E h => ?_) (fun cdv A outer s H vs Q E hr h => ?_)
  · obtain ⟨v, rfl, _⟩ := h
    rfl
  · obtain ⟨v, rfl, hv⟩ := h
    refine ⟨_, pss_cons (ps_if (pt_not (pt_val (pe_callB call_isi (by rfl) T.isi (by decide +kernel) (pa_cons (pv 0) (pa_cons (pe_bltn (v := .ty "str") (by rfl) T.str PyProof.Rows.boot_str rfl) pa_nil)))))
        (pss_one (L2N.ps_raise rfl (L2N.takes_of rfl rfl rfl rfl) (L2N.pmk_own PySem.F.excBase_ValueError N.q N.g N.k (raises_own N.b N.t) rfl))) pss_nil)
      (pss_cons (ps_if (pt_cmpR op_eq (pv 0) (pe_glob (v := .str "-") (by rfl) gN rN) (by rfl)) (pss_one (ps_ret (pe_lst pa_nil))) pss_nil)
      (pss_one (ps_ret (pe_lcE (own := [("word", 1)]) (g := gName 1) (E := E) rfl rfl rfl scRead.nd (L2N.takes_of rfl rfl rfl rfl) (pi_list (pe_split (pv 0) pe_str)) (blkOk_by (N := ["text", "word"]) (sc := defScope sRead) (by decide +kernel))
        (fun _ _ _ _ _ _ => pg_name (i := 1) scRead.nd rfl (Or.inl rfl)) (fun _ _ _ _ _ _ hx => pe_call GR hr (by rfl) gR kR bR .nil hx (pa_cons (pv 1) pa_nil)))))), ?_⟩
    rcases hv with ⟨n, hn, ty, r⟩ | ⟨z, rfl, hz, ky, kn⟩
    · refine q_when (b := true) (et_is (et_not (et_B (ev_cb (ea_cons (ev_var rfl) (ea_cons ev_c ea_nil)) (rc_isi ty (kit_str n hn))))) rfl) (fun _ H1 e1 => ?_) (fun q => by cases q)
      exact r.go e1
    · refine q_when (b := false) (et_is (et_not (et_B (ev_cb (ea_cons (ev_var rfl) (ea_cons ev_c ea_nil)) (rc_isi (b := true) ty_str (by decide +kernel))))) rfl) (fun q => by cases q) fun _ H1 e1 => ?_
      refine q_when (et_test (ev_op (ev_var rfl) ev_c (rv_eq rfl))) (fun hb H2 e2 => ?_) (fun hb H2 e2 => ?_)
      · have hd : z = "-" := V.str.inj (of_decide_eq_true hb)
        have hr0 : rdT z = some [] := by unfold rdT; rw [if_pos hd]
        exact s_retL (xs := []) (el_lst ea_nil (by show 0 ≤ 100000; decide)) fun p H3 np e3 hp => ky [] hr0 p [] H3 (fresh_back (e1.trans e2) np) ((e1.trans e2).trans e3) hp (fun x hx => nomatch hx) rfl
      · have hd : z ≠ "-" := fun q => of_decide_eq_false hb (by rw [q])
        obtain ⟨f1, f2⟩ := split_few (z := z) (y := " ") rfl
        refine el_split (σ := [some (.str z), none]) (to := tVar 0) (tb := tC (.str " ")) (ev_var rfl) (fun _ _ => ev_c) (by decide) (by omega) H2 (Ex.refl _) _ fun a H3 na e3 ha => ⟨a, rfl, ⟨_, sq_of ha⟩, fun Dl hD => ?_⟩
        have e03 := (e1.trans e2).trans e3
        refine lc_list (xs := (Txt.split z " ").map V.str) (fun i H' => ∃ zs : List (Addr × Th), Ex H3 H' ∧ H' Dl = some (.lst (tv zs)) ∧ (∀ x ∈ zs, H' x.1 = some (.tup (iv x.2))) ∧ ((Txt.split z " ").take i).map rdW = (ths zs).map some) ⟨[], Ex.new hD, upd_same, (fun x hx => nomatch hx), rfl⟩ (fun i H' _ ⟨_, e', _⟩ => sq_of (e' _ _ ha)) (fun i x H' hi ⟨zs, e', hl, hit, hm⟩ => ?_) (fun H' ⟨zs, e', hl, hit, hm⟩ => ?_)
        · rw [List.getElem?_map] at hi
          cases hs : (Txt.split z " ")[i]? with
          | none => rw [hs] at hi; cases hi
          | some y =>
            rw [hs] at hi
            obtain rfl := Option.some.inj hi
            have hy := List.mem_of_getElem? hs
            have hin := (List.getElem?_eq_some_iff.mp hs).1
            have hyl := f2 y hy
            have hzl : zs.length = i := by
              have := congrArg List.length hm
              rw [List.length_map, List.length_map, ths_len, List.length_take] at this
              omega
            refine ⟨rfl, .str y, rfl, y, rfl, by omega, fun t ht p H4 np e4 hp => ⟨tv zs, e4 _ _ hl, sz_lt (by rw [tv_len]; omega), zs ++ [(p, t)], Ex.mut (e'.trans e4) hD, ?_, fun x hx => ?_, ?_⟩, fun hn => ?_⟩
            · rw [upd_same]
              unfold tv
              rw [List.map_append]
              rfl
            · have ne : ∀ {o}, H4 x.1 = some (.tup o) → x.1 ≠ Dl := fun h q => by
                rw [q, e4 _ _ hl] at h
                cases h
              rcases List.mem_append.mp hx with h | h
              · have := e4 _ _ (hit x h)
                rw [upd_ne (ne this)]
                exact this
              · obtain rfl := List.mem_singleton.mp h
                rw [upd_ne (ne hp)]
                exact hp
            · rw [take_snoc hs, List.map_append, hm]
              unfold ths
              rw [List.map_append, List.map_append, List.map_cons, ht]
              rfl
            · exact (kn (rdT_none hd hy hn)).mono (e03.trans e')
        · rw [List.length_map, List.take_length] at hm
          exact ky _ (rdT_some hd hm) Dl zs H' (fresh_back e03 hD) (e03.trans e') hl hit rfl
end
end Bp
namespace Bp
open PySem L2 Evl
/-! ### the law's own reading -/
noncomputable def oV (z : Str) : V := match dec z with
  | some n => .int (n : Int)
  | none => .non
def spNumber : Sp := fun vs H Q _ => ∃ z : Str, vs = [.str z] ∧ z.length ≤ 36000 ∧ RetV (oV z) H Q
def spIn : Sp := fun vs H Q _ => ∃ z : Str, vs = [.str z] ∧ z.length ≤ 36000 ∧ (rdT z = none → RetV .non H Q) ∧ (∀ ts, rdT z = some ts → ∀ l zs H1, H l = none → Ex H H1 → H1 l = some (.lst (tv zs)) → (∀ x ∈ zs, H1 x.1 = some (.tup (iv x.2))) → ths zs = ts → Q (.ref l) H1)
theorem oV_no {z : Str} (h : wlB z = false) : oV z = .non := by
  unfold oV
  rw [dec_no h]
theorem oV_yes {z : Str} (h : wlB z = true) : ∃ n : Nat, n < 10 ^ 60 ∧ z = num n ∧ oV z = .int (n : Int) := by
  obtain ⟨n, h1, h2, h3⟩ := dec_yes h
  exact ⟨n, h1, h2, by unfold oV; rw [h3]⟩
theorem in_none (ps : List Str) : inV .non (ps.map oV) = !(ps.all wlB) := by
  induction ps with
  | nil => rfl
  | cons p ps ih =>
    have e : inV .non ((p :: ps).map oV) = (eqV (oV p) .non || inV .non (ps.map oV)) := rfl
    rw [e, ih, List.all_cons]
    cases h : wlB p with
    | true =>
      obtain ⟨n, _, _, h3⟩ := oV_yes h
      rw [h3]
      rfl
    | false =>
      rw [oV_no h]
      rfl
theorem flat_oV (ps : List Str) : (ps.map oV).all flatV = true := by
  rw [List.all_map]
  refine List.all_eq_true.mpr fun p _ => ?_
  show flatV (oV p) = true
  cases h : wlB p with
  | true =>
    obtain ⟨n, _, _, h3⟩ := oV_yes h
    rw [h3]
    rfl
  | false =>
    rw [oV_no h]
    rfl
theorem el_if {σ : L2.St} {H : Hp} {t : TT} {ta tb : TE} {b : Bool} {xs : List V} (h : EvT t σ H b) (h1 : b = true → EvL ta σ H xs) (h2 : b = false → EvL tb σ H xs) : EvL (tIf t ta tb) σ H xs := fun H1 e Q q => h H1 e _ fun H2 e2 => by
  cases b with
  | true => exact h1 rfl H2 (e.trans e2) Q fun p H3 np e3 hp => q p H3 (fresh_back e2 np) (e2.trans e3) hp
  | false => exact h2 rfl H2 (e.trans e2) Q fun p H3 np e3 hp => q p H3 (fresh_back e2 np) (e2.trans e3) hp
def rStripC : V → List V → Hp → VK → Prop := fun x xs H Q => ∃ a b, x = .str a ∧ xs = [.str b] ∧ a.length ≤ sizeLine ∧ Q (.str (Txt.stripChars a b)) H
theorem ev_strip {σ : L2.St} {H : Hp} {to tb : TE} {z b : Str} (h : Ev to σ H (.str z)) (hb : ∀ H1, Ex H H1 → Ev tb σ H1 (.str b)) (hz : z.length ≤ 40000) : Ev (tM1 rStripC to tb) σ H (.str (Txt.stripChars z b)) := fun H1 e Q q =>
  h H1 e _ fun H2 e2 => ⟨⟨z, rfl⟩, hb H2 (e.trans e2) H2 (Ex.refl H2) _ fun H3 e3 => ⟨z, b, rfl, rfl, by rw [sizeLine_eq]; omega, q H3 (e2.trans e3)⟩⟩
section
variable {P : Program} {w : World} {K : PySem.W.Frag} {mg : Str → Option Value} {base : Heap}
theorem scNumber : FnScope ["_law_text"] ["_law_text"] (defScope sNumber) := ⟨rfl, rfl, rfl, by decide +kernel, rfl, by decide +kernel, by decide +kernel⟩
theorem ok_number {f : Addr} {fd : FuncData} (F : Fun K "_law_number" "_law_number" sNumber f fd) (T : Bn mg) : FnOk P w K mg base CX0 1 f fd ["_law_text"] spNumber := by
  refine F.ok scNumber (fun vs H Q E h => ?_) (fun cdv A outer s H vs Q E hr h => ?_)
  · obtain ⟨z, rfl, _⟩ := h
    rfl
  · obtain ⟨z, rfl, hz, k⟩ := h
    refine ⟨_, pss_cons (ps_if (PW.pt (pw_or (pt_cmpR op_eq (pv 0) pe_str (nomark _)) (pw_or (pt_cmpR op_gt (pe_callB call_len_str (by rfl) T.len PySem.boot_len (pa_cons (pv 0) pa_nil)) pe_int (nomark _))
        (pw_or (pt_cmpR op_ne (pe_m1 PySem.F.slot_str_strip PySem.F.type_str_strip mt_stripChars (pv 0) pe_str) pe_str (nomark _)) (pw_or1 (PW.pt (pw_and (pt_cmpR op_eq (pe_item_str (pv 0) pe_int (fun _ _ => rfl)) pe_str (nomark _)) (pw_and1 (pt_cmpR op_ne (pv 0) pe_str (nomark _)))))))))) (pss_one (ps_ret pe_non)) pss_nil)
      (pss_one (ps_ret (pe_callTy call_int_str (by rfl) T.int PyProof.Rows.boot_int (pa_cons (pv 0) pa_nil)))), ?_⟩
    have c0 : ∀ {c : Nat}, z.length ≠ 0 → z.cps.toList.headD 0 = c → z.cps[0]? = some c := fun {c} h0 h => by
      rw [← Array.getElem?_toList]
      cases e : z.cps.toList with
      | nil =>
        have : z.cps.toList.length = z.length := Array.length_toList
        rw [e] at this
        exact absurd this.symm h0
      | cons x xs =>
        rw [e] at h
        rw [← h]
        rfl
    have zero : decide (V.str z = V.str "") = decide (z.length = 0) := decide_eq_decide.mpr ⟨fun h => by rw [V.str.inj h]; rfl, fun h => by
      have : z = "" := str_ext (by
        have : z.cps.toList.length = 0 := by rw [Array.length_toList]; exact h
        rw [List.length_eq_zero_iff.mp this]
        rfl)
      rw [this]⟩
    have wl : wlB z = !(decide (V.str z = V.str "") || (decide ((z.length : Int) > 60) || (!decide (V.str (Txt.stripChars z FIG) = V.str "") || (decide (V.str (⟨#[z.cps.toList.headD 0]⟩ : Str) = V.str "0") && !decide (V.str z = V.str "0"))))) := by
      rw [zero]
      by_cases h0 : z.length = 0
      · unfold wlB
        rw [decide_eq_true h0, decide_eq_false (fun h : 1 ≤ z.length ∧ z.length ≤ 60 => by omega)]
        rfl
      · rw [decide_eq_false h0, strip_fig (by omega), one_zero]
        unfold wlB
        have hh : z.cps.toList.head? = some (z.cps.toList.headD 0) := by
          have := c0 h0 rfl
          rw [List.head?_eq_getElem?, Array.getElem?_toList]
          exact this
        rw [hh]
        have e1 : decide (z = "0") = decide (V.str z = V.str "0") := decide_eq_decide.mpr ⟨fun h => by rw [h], fun h => V.str.inj h⟩
        have e2 : decide (some (z.cps.toList.headD 0) ≠ some 48) = !decide (z.cps.toList.headD 0 = 48) := by
          by_cases h : z.cps.toList.headD 0 = 48
          · rw [h]
            decide
          · rw [decide_eq_false h, decide_eq_true (show some (z.cps.toList.headD 0) ≠ some 48 from fun q => h (Option.some.inj q))]
            rfl
        have e3 : decide (1 ≤ z.length ∧ z.length ≤ 60) = !decide ((z.length : Int) > 60) := by
          by_cases h : z.length ≤ 60
          · rw [decide_eq_true (show 1 ≤ z.length ∧ z.length ≤ 60 by omega), decide_eq_false (show ¬ ((z.length : Int) > 60) by omega)]
            rfl
          · rw [decide_eq_false (fun g : 1 ≤ z.length ∧ z.length ≤ 60 => h g.2), decide_eq_true (show (z.length : Int) > 60 by omega)]
            rfl
        rw [e1, e2, e3]
        cases decide ((z.length : Int) > 60) <;> cases z.cps.toList.all figB <;> cases decide (V.str z = V.str "0") <;> cases decide (z.cps.toList.headD 0 = 48) <;> rfl
    refine q_when (et_or (et_test (ev_op (ev_var rfl) ev_c (rv_eq rfl))) fun h0 => et_or (et_test (ev_op (ev_cb (ea_cons (ev_var rfl) ea_nil) (rc_lenS (by omega))) ev_c rv_I0)) fun _ => et_or (et_test (ev_op (ev_strip (b := FIG) (ev_var rfl) (fun _ _ => ev_c) (by omega)) ev_c (rv_ne rfl))) fun _ =>
      et_and (et_test (ev_op (ev_op (ev_var rfl) ev_c (rv_item0 (c0 (fun q => by rw [zero, decide_eq_true q] at h0; cases h0) rfl))) ev_c (rv_eq rfl))) fun _ => et_test (ev_op (ev_var rfl) ev_c (rv_ne rfl))) (fun hb H1 e1 => ?_) (fun hb H1 e1 => ?_)
    · rw [hb] at wl
      rw [oV_no wl] at k
      exact s_ret ev_c fun H2 e2 => k.go (e1.trans e2)
    · rw [hb] at wl
      obtain ⟨n, h1, h2, h3⟩ := oV_yes wl
      rw [h3] at k
      refine s_ret (ev_cb (ea_cons (ev_var rfl) ea_nil) (rc_intS (n := (n : Int)) (by rw [h2]; exact num_int h1) ?_)) fun H2 e2 => k.go (e1.trans e2)
      rw [h2]
      exact Nat.le_trans (num_le (i := (n : Int)) (by omega) (by omega)) (by decide)
abbrev nIn : List Str := ["_law_text", "_law_found", "_law_word", "_law_parts", "_law_part"]
theorem scIn : FnScope nIn ["_law_text"] (defScope sIn) := ⟨rfl, rfl, rfl, by decide +kernel, rfl, by decide +kernel, by decide +kernel⟩
theorem ok_in {f fN : Addr} {fd dN : FuncData} (F : Fun K "_law_in" "_law_in" sIn f fd) (T : Bn mg) (gN : mg "_law_number" = some (.ref fN)) (kN : PySem.W.keepIn K (.ref fN) = true) (bN : Binds K dN ["_law_text"] []) (GN : FnOk P w K mg base CX0 1 fN dN ["_law_text"] spNumber) : FnOk P w K mg base CX0 2 f fd ["_law_text"] spIn := by
  refine F.ok scIn (fun vs H Q E h => ?_) (fun cdv A outer s H vs Q E hr h => ?_)
  · obtain ⟨z, rfl, _⟩ := h
    rfl
  · obtain ⟨z, rfl, hz, kn, ky⟩ := h
    refine ⟨_, pss_cons (ps_set (i := 1) scIn.nd rfl (Or.inl rfl) (pe_lst pa_nil))
      (pss_cons (ps_for PassesOwn.never rfl (pi_list (pe_ifExp (pt_cmpR op_ne (pv 0) pe_str (nomark _)) (pe_split (pv 0) pe_str) (pe_lst pa_nil))) (pg_name (i := 2) scIn.nd rfl (Or.inl rfl))
        (pss_cons (ps_setLc (i := 3) (own := [("_law_part", 4)]) (g := gName 4) (tt := tYes) (by rfl) scIn.nd rfl rfl (sw_true rfl rfl rfl (by decide +kernel)) (pi_list (pe_split (pv 2) pe_str)) (blkOk_by (N := nIn) (sc := defScope sIn) (by decide +kernel))
            (fun _ _ _ _ _ => pg_name (i := 4) scIn.nd rfl (Or.inl rfl)) (fun _ _ _ _ _ => pts_nil) (fun _ _ _ _ _ => pe_call GN hr (by rfl) gN kN bN .nil pass0 (pa_cons (pv 4) pa_nil)))
        (pss_cons (ps_if (PW.pt (pw_or (pt_cmpR op_in_seq pe_non (pv 3) (by rfl)) (pw_or1 (pt_cmpR op_ne (pe_callB call_len_seq (by rfl) T.len PySem.boot_len (pa_cons (pv 3) pa_nil)) pe_int (nomark _))))) (pss_one (ps_ret pe_non)) pss_nil)
        (pss_one (ps_expr (pe_bm PySem.F.plainAttrs_list PySem.F.slot_list_append PySem.F.type_list_append mt_append (pv 1) (pa_cons (pe_tup (pa_cons (pe_ix ix_list (pv 3) pe_int (fun _ _ => rfl)) (pa_cons (pe_ix ix_list (pv 3) pe_int (fun _ _ => rfl)) (pa_cons (pe_ix ix_list (pv 3) pe_int (fun _ _ => rfl)) pa_nil)))) pa_nil)))))))
      (pss_one (ps_ret (pv 1)))), ?_⟩
    refine q_asgL (xs := []) (el_lst ea_nil (by show 0 ≤ 100000; decide)) fun l H1 nl e1 hl => ?_
    obtain ⟨f1, f2⟩ := split_few (z := z) (y := " ") rfl
    obtain ⟨ws, hws, hwz, hww⟩ : ∃ ws : List Str, ws = (if z = "-" then [] else Txt.split z " ") ∧ ws.length ≤ 36001 ∧ ∀ y ∈ ws, y.length ≤ z.length := by
      refine ⟨_, rfl, ?_, ?_⟩
      · by_cases hd : z = "-"
        · rw [if_pos hd]
          exact Nat.zero_le _
        · rw [if_neg hd]
          omega
      · by_cases hd : z = "-"
        · rw [if_pos hd]
          intro y hy
          cases hy
        · rw [if_neg hd]
          exact f2
    have hrd : rdT z = allOf (ws.map rdW) := by
      rw [hws]
      unfold rdT
      by_cases hd : z = "-"
      · rw [if_pos hd, if_pos hd]
        rfl
      · rw [if_neg hd, if_neg hd]
    refine q_forNLn (xs := ws.map V.str) (el_if (et_test (ev_op (ev_var rfl) ev_c (rv_ne rfl))) (fun hb => ?_) (fun hb => ?_)) (fun p i σ' H' => ∃ (v2 v3 : Option V) (zs : List (Addr × Th)), σ' = [some (.str z), some (.ref l), v2, v3, none] ∧ Ex H H' ∧ H' p = some (.lst (ws.map V.str)) ∧ p ≠ l ∧ H' l = some (.lst (tv zs)) ∧ (∀ x ∈ zs, H' x.1 = some (.tup (iv x.2))) ∧ (ws.take i).map rdW = (ths zs).map some)
      (fun p H2 np e2 hp => ⟨none, none, [], rfl, e1.trans e2, hp, (fun q => by rw [q, hl] at np; cases np), e2 _ _ hl, (fun x hx => nomatch hx), rfl⟩) (fun p i σ' H' _ ⟨_, _, _, _, _, hp, _⟩ => sq_of hp) ?_ ?_
    · have hd : z ≠ "-" := fun q => by rw [q] at hb; exact absurd hb (by decide)
      rw [hws, if_neg hd]
      exact el_split (ev_var rfl) (fun _ _ => ev_c) (by decide) (by omega)
    · have hd : z = "-" := by
        have : decide (V.str z = V.str "-") = true := by simpa using hb
        exact V.str.inj (of_decide_eq_true this)
      rw [hws, if_pos hd]
      exact el_lst ea_nil (by show 0 ≤ 100000; decide)
    · rintro p i x σ' H' hi ⟨v2, v3, zs, rfl, e', hp, npl, hzl, hit, hm⟩
      rw [List.getElem?_map] at hi
      cases hs : ws[i]? with
      | none => rw [hs] at hi; cases hi
      | some y =>
        rw [hs] at hi
        obtain rfl := Option.some.inj hi
        have hy := List.mem_of_getElem? hs
        have hyl := hww y hy
        have hin := (List.getElem?_eq_some_iff.mp hs).1
        have hzs : zs.length = i := by
          have := congrArg List.length hm
          rw [List.length_map, List.length_map, ths_len, List.length_take] at this
          omega
        obtain ⟨g1, g2⟩ := split_few (z := y) (y := "/") rfl
        obtain ⟨ps, hps⟩ : ∃ ps, ps = Txt.split y "/" := ⟨_, rfl⟩
        rw [← hps] at g1 g2
        have hpl : ps.length ≤ 40000 := by omega
        have hlc := el_lcNL (K := K) (σ := [some (.str z), some (.ref l), some (.str y), v3, none]) (H := H') (tl := tM1 rSplit (tVar 2) (tC (.str "/"))) (j := 4) (vs := [4]) (t := tYes) (te := tCall spNumber [] E0 (tCons (tVar 4) tNil)) (xs := ps.map V.str) (fun _ => true) (fun j => oV (ps.getD j "")) (by rw [hps]; exact el_split (ev_var rfl) (fun _ _ => ev_c) (by decide) (by omega)) (by rw [List.length_map]; exact hpl) (fun x => rfl) (fun j x H2 e2 hj => et_yes) (fun j x H2 e2 hj _ => ?_)
        · rw [List.length_map, given_all, range_map ps "" oV] at hlc
          refine q_asgL (xs := ps.map oV) hlc fun r H2 nr e2 hr => ?_
          refine q_when (et_or (et_test (ev_op ev_c (ev_var rfl) (rv_isL (sq_of hr) rfl (flat_oV ps)))) fun _ => et_test (ev_op (ev_cb (ea_cons (ev_var rfl) ea_nil) (rc_lenL (sq_of hr))) ev_c (rv_ne rfl))) (fun hb H3 e3 => ?_) (fun hb H3 e3 => ?_)
          · have hno : rdW y = none := rdW_no fun ⟨q1, q2⟩ => by
              rw [← hps] at q1 q2
              rw [in_none, q2, List.length_map, q1] at hb
              revert hb
              decide
            have : rdT z = none := by
              cases e : allOf (ws.map rdW) with
              | none => rw [hrd, e]
              | some ts =>
                have h := allOf_some.mp e
                have hm' : none ∈ ws.map rdW := List.mem_map.mpr ⟨y, hy, hno⟩
                rw [h] at hm'
                obtain ⟨t, _, ht⟩ := List.mem_map.mp hm'
                cases ht
            exact s_ret ev_c fun H4 e4 => (kn this).go (((e'.trans e2).trans e3).trans e4)
          · rw [in_none] at hb
            simp only [Bool.or_eq_false_iff, Bool.not_eq_false'] at hb
            have h3 : ps.length = 3 := by
              have := V.int.inj (of_decide_eq_true hb.2)
              rw [List.length_map] at this
              omega
            obtain ⟨a, b, c, hlt, hpe, hrw⟩ := rdW_yes (w := y) (by rw [← hps]; exact h3) (by rw [← hps]; exact hb.1)
            rw [← hps] at hpe
            have ov : ∀ {n : Nat}, n < 10 ^ 60 → oV (num n) = .int (n : Int) := fun {n} h => by
              unfold oV
              rw [dec_num h]
            have hr3 : H3 r = some (.lst [.int (a : Int), .int (b : Int), .int (c : Int)]) := by
              rw [e3 _ _ hr, hpe, List.map_cons, List.map_cons, List.map_cons, List.map_nil, ov hlt.1, ov hlt.2.1, ov hlt.2.2]
            have hzl3 := e3 _ _ (e2 _ _ hzl)
            refine s_appU hzl3 (ev_var rfl) (eu_tup (vs := iv ((a : Int), (b : Int), (c : Int))) (ea_cons (ev_op (ev_var rfl) ev_c (rv_ixL (sq_of hr3) (atI_nat (j := 0) rfl))) (ea_cons (ev_op (ev_var rfl) ev_c (rv_ixL (sq_of hr3) (atI_nat (j := 1) rfl))) (ea_cons (ev_op (ev_var rfl) ev_c (rv_ixL (sq_of hr3) (atI_nat (j := 2) rfl))) ea_nil))) (by show 3 ≤ 100000; decide)) (by rw [tv_len]; omega) fun q H4 nq e4 hq => ⟨_, _, zs ++ [(q, ((a : Int), (b : Int), (c : Int)))], rfl, Ex.mut (((e'.trans e2).trans e3).trans e4) (fresh_back (Ex.refl H) nl), ?_, npl, ?_, fun x hx => ?_, ?_⟩
            · rw [upd_ne npl]
              exact e4 _ _ (e3 _ _ (e2 _ _ hp))
            · rw [upd_same]
              unfold tv
              rw [List.map_append]
              rfl
            · have ne : ∀ {o}, H4 x.1 = some (.tup o) → x.1 ≠ l := fun h q => by
                rw [q, e4 _ _ hzl3] at h
                cases h
              rcases List.mem_append.mp hx with h | h
              · have := e4 _ _ (e3 _ _ (e2 _ _ (hit x h)))
                rw [upd_ne (ne this)]
                exact this
              · obtain rfl := List.mem_singleton.mp h
                rw [upd_ne (ne hq)]
                exact hq
            · rw [take_snoc hs, List.map_append, hm]
              unfold ths
              rw [List.map_append, List.map_append, List.map_cons, hrw]
              rfl
        · rw [List.getElem?_map] at hj
          cases hq : ps[j]? with
          | none => rw [hq] at hj; cases hj
          | some u =>
            rw [hq] at hj
            obtain rfl := Option.some.inj hj
            rw [List.getD_eq_getElem?_getD, hq]
            have := g2 u (List.mem_of_getElem? hq)
            exact ev_call (ea_cons (ev_var rfl) ea_nil) fun H3 e3 Q q E => ⟨u, rfl, by omega, q⟩
    · rintro p σ' H' ⟨v2, v3, zs, rfl, e', hp, npl, hzl, hit, hm⟩
      rw [List.length_map, List.take_length] at hm
      refine s_ret (ev_var rfl) fun H3 e3 => ky _ (by rw [hrd]; exact allOf_some.mpr hm) l zs H3 nl (e'.trans e3) (e3 _ _ hzl) (fun x hx => e3 _ _ (hit x hx)) rfl
end
end Bp
namespace Bp
open PySem L2 Evl L2H
/-! ### refused, right -/
/-- what isinstance says of a BadText -/
structure KndX (K : PySem.W.Frag) (CT CO CM CX CB : Addr) : Prop where
  c : ExcC K CX
  t : PySem.W.kitOne K (.ref CX) (.ref CT) = some false
  o : PySem.W.kitOne K (.ref CX) (.ref CO) = some false
  m : PySem.W.kitOne K (.ref CX) (.ref CM) = some false
  x : PySem.W.kitOne K (.ref CX) (.ref CX) = some true
  v : PySem.W.kitOne K (.ref CX) (.type "ValueError") = some true
  b : PySem.W.exmOne K (.ref CX) (.ref CB) = some true
def spRefused (K : PySem.W.Frag) : Sp := fun vs H Q _ => ∃ v : V, vs = [v] ∧ ((∃ n, NonStr n ∧ Ty K H v n) ∨ ∃ z : Str, v = .str z ∧ z.length ≤ 36000 ∧ rdT z = none) ∧ RetV (.bl true) H Q
def blanks (z : Str) : Nat := z.cps.toList.count 32
def spRight : Sp := fun vs H Q _ => ∃ z : Str, vs = [.str z] ∧ z.length ≤ 36000 ∧ blanks z ≤ 900 ∧ RetV (.bl true) H Q
theorem spl_count : ∀ (l acc : List Nat), (TL.spl [32] 0 acc l).length = l.count 32 + 1
  | [], acc => rfl
  | c :: r, acc => by
    unfold TL.spl
    by_cases h : c = 32
    · subst h
      have : TL.pre [32] (32 :: r) = true := by
        unfold TL.pre
        first | rfl | simp [TL.pre] | decide
      rw [if_pos this, List.length_cons]
      show (TL.spl [32] 0 [] r).length + 1 = _
      rw [spl_count r [], List.count_cons_self]
    · have : ¬ TL.pre [32] (c :: r) = true := by
        intro q
        apply h
        unfold TL.pre at q
        first | (simpa [TL.pre] using q) | (simp [TL.pre] at q; omega)
      rw [if_neg this, spl_count r (acc ++ [c]), List.count_cons_of_ne h]
theorem split_blanks (z : Str) : (Txt.split z " ").length = blanks z + 1 := by
  have := congrArg List.length (TL.split_spl z " " (by decide) (TL.kind_ok (by decide +kernel)))
  rw [List.length_map] at this
  rw [this]
  exact spl_count _ _
theorem rdT_few {z : Str} {ts : List Th} (h : rdT z = some ts) : ts.length ≤ blanks z + 1 := by
  by_cases hz : z = "-"
  · subst hz
    have : rdT "-" = some [] := by unfold rdT; rw [if_pos rfl]
    rw [this] at h
    obtain rfl := Option.some.inj h
    exact Nat.zero_le _
  · have e := congrArg List.length (rdT_words hz h)
    rw [List.length_map, List.length_map, split_blanks] at e
    omega
theorem rc_isQ {K : PySem.W.Frag} {H : Hp} {D a : Addr} {c : V} {cv : Value} {b : Bool} (C : ExcC K D) (hc : ∀ u, RelV c u → u = cv) (k : PySem.W.kitOne K (.ref D) cv = some b) : RC (rIsQ K (.ref D) none a) [.ref a, c] H (.bl b) := fun H1 e Q q => ⟨D, rfl, rfl, C, c, cv, b, rfl, hc, k, q H1 (Ex.refl H1)⟩
theorem rc_any {K : PySem.W.Frag} {H : Hp} {a : Addr} {bs : List Bool} (h : SqL K H a (bs.map V.bl)) : RC (rAny K) [.ref a] H (.bl (bs.any id)) := fun H1 e Q q => ⟨a, bs, rfl, ex_l e h, q H1 (Ex.refl H1)⟩
theorem takesN0 {X : Cx} : L2N.Takes X (fun _ _ _ _ => False) := fun _ _ x => by
  obtain ⟨_, _, _, _, _, _, _, _, _, _, _, _, _, _, _, _, z⟩ := x
  exact z.elim
theorem passLN {X : Cx} : Passes (L2N.CX X.prog X.w) X E0 := fun _ _ _ _ _ _ _ h => by
  obtain ⟨_, _, _, _, _, _, _, _, _, _, _, _, z⟩ := h
  exact z.elim
def rIsN0 : R2 := fun x y H Q => y = .non ∧ Q (.bl (decide (x = .non))) H
theorem rv_isN0 {H : Hp} {x : V} : RV rIsN0 x .non H (.bl (decide (x = .non))) := fun H1 _ _ q => ⟨rfl, q H1 (Ex.refl H1)⟩
section
variable {P : Program} {w : World} {K : PySem.W.Frag} {mg : Str → Option Value} {base : Heap} {CT CO CM CX CB : Addr}
abbrev nRefused : List Str := ["_law_text", "error", "_law_others"]
theorem scRefused : FnScope nRefused ["_law_text"] (defScope sRefused) := ⟨rfl, rfl, rfl, by decide +kernel, rfl, by decide +kernel, by decide +kernel⟩
abbrev tIsQ (K : PySem.W.Frag) (cls : Value) (d : Option Addr) (a : Addr) (c : V) : TE := tCB (rIsQ K cls d a) (tCons (tVar 1) (tCons (tC c) tNil))
theorem ok_refused {f fR : Addr} {fd dR : FuncData} (F : Fun K "_law_refused" "_law_refused" sRefused f fd) (T : Bn mg) (hany : mg "any" = none) (N : KndX K CT CO CM CX CB) (gT : mg "BadThings" = some (.ref CT)) (gO : mg "BadOrder" = some (.ref CO)) (gM : mg "BadTime" = some (.ref CM)) (gX : mg "BadText" = some (.ref CX)) (gB : mg "BenchError" = some (.ref CB))
    (gR : mg "read" = some (.ref fR)) (kR : PySem.W.keepIn K (.ref fR) = true) (bR : Binds K dR ["text"] []) (GR : FnOk P w K mg base (L2N.CX P w) 3 fR dR ["text"] (spRead K CX)) : FnOk P w K mg base CX0 4 f fd ["_law_text"] (spRefused K) := by
  refine F.ok scRefused (fun vs H Q E h => ?_) (fun cdv A outer s H vs Q E hr h => ?_)
  · obtain ⟨v, rfl, _⟩ := h
    rfl
  · obtain ⟨v, rfl, hv, k⟩ := h
    refine ⟨_, pss_cons (L2N.ps_try_as (i := 1) (tb := fun W => tDrop (tCallS (spRead K CX) (WE W) (tCons (tVar 0) tNil)))
        (ts := fun a cls d => tSeq (tAsg (tLst (tCons (tIsQ K cls d a (.ref CO)) (tCons (tIsQ K cls d a (.ref CT)) (tCons (tIsQ K cls d a (.ref CM)) tNil)))) (gName 2)) (tRet (tAndV (tIsQ K cls d a (.ref CX)) (tAndV (tIsQ K cls d a (.ty "ValueError")) (tNotV (tCB (rAny K) (tCons (tVar 2) tNil)))))))
        (Wout := fun _ _ _ _ => False) rfl rfl scRefused.nd rfl rfl ⟨rfl, by decide, Or.inl gB⟩ takesN0
        (fun W pn xe tk _ => pss_one (ps_expr (by exact pe_callS GR hr rfl gR kR bR (fun σ => L2N.passAt tk σ) (pa_cons (pv 0) pa_nil))))
        (fun a oe cls d pn hz hf => pss_cons (ps_set (i := 2) scRefused.nd rfl (Or.inl rfl) (pe_lst (pa_cons (pe_callB (call_isQ List.mem_cons_self hz hf) (by rfl) T.isi (by decide +kernel) (pa_cons (pv 1) (pa_cons (pe_glob (v := .ref CO) (by rfl) gO rfl) pa_nil)))
            (pa_cons (pe_callB (call_isQ List.mem_cons_self hz hf) (by rfl) T.isi (by decide +kernel) (pa_cons (pv 1) (pa_cons (pe_glob (v := .ref CT) (by rfl) gT rfl) pa_nil))) (pa_cons (pe_callB (call_isQ List.mem_cons_self hz hf) (by rfl) T.isi (by decide +kernel) (pa_cons (pv 1) (pa_cons (pe_glob (v := .ref CM) (by rfl) gM rfl) pa_nil))) pa_nil)))))
          (pss_one (ps_ret (pe_and (pe_callB (call_isQ List.mem_cons_self hz hf) (by rfl) T.isi (by decide +kernel) (pa_cons (pv 1) (pa_cons (pe_glob (v := .ref CX) (by rfl) gX rfl) pa_nil))) (pe_and (pe_callB (call_isQ List.mem_cons_self hz hf) (by rfl) T.isi (by decide +kernel) (pa_cons (pv 1) (pa_cons (pe_bltn (v := .ty "ValueError") (by rfl) T.verr (by decide +kernel) rfl) pa_nil)))
            (pe_one (pe_not (pe_callB (cr_anyH ⟨(a, oe), ⟨rfl, by obtain ⟨fs, hd⟩ := hf; exact ⟨fs, hd, hz.2.2 fs hd⟩⟩, List.mem_cons_self⟩) (by rfl) hany (by decide +kernel) (pa_cons (pv 2) pa_nil))))))))))
      (pss_one (ps_ret pe_bl)), ?_⟩
    have self : ∀ C : Addr, ∀ u, RelV (.ref C) u → u = .ref C := fun C u r => r
    have hot : ∀ {Q' : VK} {D : Ends} {a : Addr} {H1 : Hp} , Ex H H1 → (∀ H2, Ex H H2 → D.rt (.bl true) H2) → tSeq (tAsg (tLst (tCons (tIsQ K (.ref CX) none a (.ref CO)) (tCons (tIsQ K (.ref CX) none a (.ref CT)) (tCons (tIsQ K (.ref CX) none a (.ref CM)) tNil)))) (gName 2)) (tRet (tAndV (tIsQ K (.ref CX) none a (.ref CX)) (tAndV (tIsQ K (.ref CX) none a (.ty "ValueError")) (tNotV (tCB (rAny K) (tCons (tVar 2) tNil)))))) D [some v, some (.ref a), none] H1 := fun {Q' D a H1} e1 kk => by
      refine q_asgL (xs := [.bl false, .bl false, .bl false]) (el_lst (ea_cons (ev_cb (ea_cons (ev_var rfl) (ea_cons ev_c ea_nil)) (rc_isQ N.c (self CO) N.o)) (ea_cons (ev_cb (ea_cons (ev_var rfl) (ea_cons ev_c ea_nil)) (rc_isQ N.c (self CT) N.t)) (ea_cons (ev_cb (ea_cons (ev_var rfl) (ea_cons ev_c ea_nil)) (rc_isQ N.c (self CM) N.m)) ea_nil))) (by show 3 ≤ 100000; decide)) fun p H2 np e2 hp => ?_
      exact s_ret (v := .bl (true && (true && !([false, false, false].any id)))) (ev_andV (ev_cb (ea_cons (ev_var rfl) (ea_cons ev_c ea_nil)) (rc_isQ N.c (self CX) N.x)) fun _ => ev_andV (ev_cb (ea_cons (ev_var rfl) (ea_cons ev_c ea_nil)) (rc_isQ (cv := .type "ValueError") N.c (fun u r => r) N.v)) fun _ => ev_notV (ev_cb (ea_cons (ev_var rfl) ea_nil) (rc_any (bs := [false, false, false]) (sq_of hp)))) fun H3 e3 => kk H3 ((e1.trans e2).trans e3)
    refine ⟨v, rfl, v, rfl, ?_⟩
    have ref : Refuse CX H (WE (wAs K (.ref CB) 1 (fun a cls d => tSeq (tAsg (tLst (tCons (tIsQ K cls d a (.ref CO)) (tCons (tIsQ K cls d a (.ref CT)) (tCons (tIsQ K cls d a (.ref CM)) tNil)))) (gName 2)) (tRet (tAndV (tIsQ K cls d a (.ref CX)) (tAndV (tIsQ K cls d a (.ty "ValueError")) (tNotV (tCB (rAny K) (tCons (tVar 2) tNil))))))) (fun _ _ _ _ => False) { nx := fun σ2 H2 => tRet (tC (.bl false)) { nx := fun _ H' => Q .non H', rt := Q } σ2 H2, rt := Q }) [some v, none, none]) := fun H1 e1 => ⟨true, N.b, fun _ a na => hot (Q' := Q) e1 fun H2 e2 => k H2 e2, fun h => by cases h⟩
    rcases hv with ⟨n, hn, ty⟩ | ⟨z, rfl, hz, hno⟩
    · exact .inl ⟨n, hn, ty, ref⟩
    · exact .inr ⟨z, rfl, hz, (fun ts h => by rw [hno] at h; cases h), fun _ => ref⟩
end
end Bp
namespace Bp
open PySem L2 Evl
/-! ### right, few -/
theorem fold_app (a : Array Nat) : ∀ (k : Nat) (acc : Array Nat), ((List.replicate k a).foldl (· ++ ·) acc).toList = acc.toList ++ (List.replicate k a.toList).flatten
  | 0, acc => by simp
  | k + 1, acc => by
    rw [List.replicate_succ, List.foldl_cons, fold_app a k, List.replicate_succ, List.flatten_cons, Array.toList_append, List.append_assoc]
def nines (n : Nat) : Str := Txt.mul "9" (n : Int)
theorem nines_list {n : Nat} (h : 2 ≤ n) : (nines n).cps.toList = List.replicate n 57 := by
  unfold nines Txt.mul
  have e : ((n : Int) == 1 || ("9" : Str).length == 0) = false := by
    have : ((n : Int) == 1) = false := by
      cases q : (n : Int) == 1 with
      | false => rfl
      | true => have := eq_of_beq q; omega
    rw [this]
    decide
  rw [if_neg (by omega), if_neg (by rw [e]; decide)]
  show ((List.replicate n ("9" : Str).cps).foldl (· ++ ·) #[]).toList = _
  rw [fold_app]
  have : ("9" : Str).cps.toList = [57] := by decide +kernel
  rw [this, flat1]
  rfl
theorem nines_len {n : Nat} (h : 2 ≤ n := by decide) : (nines n).length = n := by
  have : (nines n).cps.toList.length = (nines n).length := Array.length_toList
  rw [← this, nines_list h, List.length_replicate]
theorem nines_blank {n : Nat} (h : 2 ≤ n := by decide) : blanks (nines n) = 0 := by
  unfold blanks
  rw [nines_list h, List.count_replicate]
  rfl
theorem blanks_app (x y : Str) : blanks (x ++ y) = blanks x + blanks y := by
  unfold blanks
  rw [show (x ++ y).cps.toList = x.cps.toList ++ y.cps.toList from by rw [Str.cps_append, Array.toList_append], List.count_append]
theorem rv_mulS {z : Str} {n : Int} {H : Hp} (h : PySem.MulOk z n) : RV rMulS (.str z) (.int n) H (.str (Txt.mul z n)) := fun H1 e Q q => ⟨z, n, rfl, rfl, h, q H1 (Ex.refl H1)⟩
theorem rv_addS {H : Hp} {x y : Str} (h : x.length + y.length ≤ sizeLine) : RV (fun x y H Q => ∃ i j, x = .str i ∧ y = .str j ∧ i.length + j.length ≤ sizeLine ∧ Q (.str (i ++ j)) H) (.str x) (.str y) H (.str (x ++ y)) := fun H1 e Q q => ⟨x, y, rfl, rfl, h, q H1 (Ex.refl H1)⟩
theorem ok_nines (n : Nat) (h0 : 2 ≤ n) (h : n ≤ 5000) : PySem.MulOk "9" (n : Int) := by
  have l1 : ("9" : Str).length = 1 := rfl
  refine ⟨?_, fun _ _ => ?_, fun _ _ => ?_⟩
  · rw [decide_eq_false (show ¬ ((n : Int) < -(2 ^ 63)) by omega), decide_eq_false (show ¬ ((n : Int) ≥ 2 ^ 63) by omega)]
    rfl
  · rw [l1]
    have : 1 ≤ ((2 : Int) ^ 63 - 1) / (n : Int) := by
      rw [Int.le_ediv_iff_mul_le (by omega)]
      omega
    show ¬ (((1 : Nat) : Int) > _)
    omega
  · rw [l1, Nat.one_mul, Int.toNat_natCast]
    unfold Builtin.Str.tooLong
    have z := sizeLine_eq
    first | (refine decide_eq_false ?_; omega) | (simp; omega)
theorem ev_nines {σ : L2.St} {H : Hp} {n : Nat} (h0 : 2 ≤ n) (h : n ≤ 5000) : Ev (tOp rMulS (tC (.str "9")) (tC (.int (n : Int)))) σ H (.str (nines n)) := ev_op ev_c ev_c (rv_mulS (ok_nines n h0 h))
def fewA : List Str := ["", "-", " ", "--", "1/2/3", "0/0/0", "1/2", "1/2/3/4", "1", "/", "//", "1//3", "/2/3", "1/2/", "01/2/3"]
def fewB : List Str := ["1/02/3", "1/2/03", "00/1/2", "1/2/3 4/5/6", "1/2/3  4/5/6", " 1/2/3", "1/2/3 ", "1 /2/3", "1/ 2/3"]
def fewC : List Str := ["-1/2/3", "1/-2/3", "1/2/-0", "+1/2/3", "1_0/2/3", "x/2/3", "1/x/3", "1/2/x", "1.0/2/3"]
def fewX : List Str := ["1/2/3,4/5/6"]
def few4 : List Str := ["1/2/3\n", "1/2/3\t4/5/6", "1:2:3", "- 1/2/3", "1/2/3 -"]
def fewD : List Str := few4 ++ [nines 60 ++ "/1/1", nines 61 ++ "/1/1"]
def fewE : List Str := [("1/" : Str) ++ nines 61 ++ "/1", ("1/1/" : Str) ++ nines 61, nines 4000 ++ "/1/1"]
def Fine5 (z : Str) : Prop := z.length ≤ 36000 ∧ blanks z ≤ 900
theorem fine_sum {x y : Str} (h1 : x.length ≤ 5000 ∧ blanks x ≤ 10) (h2 : y.length ≤ 5000 ∧ blanks y ≤ 10) : Fine5 (x ++ y) := ⟨by rw [Str.length_append]; omega, by rw [blanks_app]; omega⟩
theorem few_fine : ∀ z ∈ fewA ++ fewB ++ fewC ++ fewX ++ fewD ++ fewE, Fine5 z := by
  have s : ∀ z ∈ fewA ++ fewB ++ fewC ++ fewX ++ few4, decide (z.length ≤ 36000 ∧ blanks z ≤ 900) = true := by decide +kernel
  intro z hz
  unfold fewD at hz
  simp only [List.mem_append] at hz
  have n60 := nines_len (n := 60)
  have n61 := nines_len (n := 61)
  have n4 := nines_len (n := 4000)
  have b60 := nines_blank (n := 60)
  have b61 := nines_blank (n := 61)
  have b4 := nines_blank (n := 4000)
  have t1 : ("/1/1" : Str).length ≤ 5000 ∧ blanks "/1/1" ≤ 10 := by decide +kernel
  have t2 : ("1/" : Str).length ≤ 100 ∧ blanks "1/" ≤ 2 := by decide +kernel
  have t3 : ("/1" : Str).length ≤ 5000 ∧ blanks "/1" ≤ 10 := by decide +kernel
  have t4 : ("1/1/" : Str).length ≤ 5000 ∧ blanks "1/1/" ≤ 10 := by decide +kernel
  rcases hz with ((((h | h) | h) | h) | (h | h)) | h
  · show z.length ≤ 36000 ∧ blanks z ≤ 900
    exact of_decide_eq_true (s z (by simp [h]))
  · show z.length ≤ 36000 ∧ blanks z ≤ 900
    exact of_decide_eq_true (s z (by simp [h]))
  · show z.length ≤ 36000 ∧ blanks z ≤ 900
    exact of_decide_eq_true (s z (by simp [h]))
  · show z.length ≤ 36000 ∧ blanks z ≤ 900
    exact of_decide_eq_true (s z (List.mem_append_left _ (List.mem_append_right _ h)))
  · show z.length ≤ 36000 ∧ blanks z ≤ 900
    exact of_decide_eq_true (s z (List.mem_append_right _ h))
  · simp only [List.mem_cons, List.not_mem_nil, or_false] at h
    rcases h with rfl | rfl
    · exact fine_sum ⟨by omega, by omega⟩ t1
    · exact fine_sum ⟨by omega, by omega⟩ t1
  · unfold fewE at h
    simp only [List.mem_cons, List.not_mem_nil, or_false] at h
    rcases h with rfl | rfl | rfl
    · exact fine_sum ⟨by rw [Str.length_append]; omega, by rw [blanks_app]; omega⟩ t3
    · exact fine_sum t4 ⟨by omega, by omega⟩
    · exact fine_sum ⟨by omega, by omega⟩ t1
def spFew : Sp := fun vs H Q _ => vs = [] ∧ ∀ p H1, H p = none → Ex H H1 → H1 p = some (.lst ((fewA ++ fewB ++ fewC ++ fewX ++ fewD ++ fewE).map V.str)) → Q (.ref p) H1
section
variable {P : Program} {w : World} {K : PySem.W.Frag} {mg : Str → Option Value} {base : Heap}
theorem scFew : FnScope ["_law_some"] [] (defScope sFew) := ⟨rfl, rfl, rfl, by decide +kernel, rfl, by decide +kernel, by decide +kernel⟩
theorem el_ownS {σ : L2.St} {H : Hp} {tl tr : TE} {l : Addr} {xs ys : List Str} (h1 : Ev tl σ H (.ref l)) (hl : H l = some (.lst (xs.map V.str))) (h2 : EvL tr σ H (ys.map V.str)) (hz : xs.length + ys.length ≤ 1000) : EvL (tOp rCat tl tr) σ H ((xs ++ ys).map V.str) := fun H1 e Q q =>
  h1 H1 e _ fun H2 e2 => h2 H2 (e.trans e2) _ fun r H3 _ e3 hr => ⟨l, r, xs.map V.str, ys.map V.str, rfl, rfl, e3 _ _ (e2 _ _ (e _ _ hl)), hr, sz_of (by rw [List.length_map, List.length_map]; omega), fun u hu => q u _ (fresh_back (e2.trans e3) hu) ((e2.trans e3).trans (Ex.new hu)) (by rw [upd_same, List.map_append])⟩
theorem ok_few {f : Addr} {fd : FuncData} (F : Fun K "_law_few" "_law_few" sFew f fd) : FnOk P w K mg base CX0 1 f fd [] spFew := by
  refine F.ok scFew (fun vs H Q E h => by rw [h.1]; rfl) (fun cdv A outer s H vs Q E hr h => ?_)
  obtain ⟨rfl, k⟩ := h
  refine ⟨_, pss_cons (ps_set (i := 0) scFew.nd rfl (Or.inl rfl) (pe_lst (pa_cons pe_str (pa_cons pe_str (pa_cons pe_str (pa_cons pe_str (pa_cons pe_str (pa_cons pe_str (pa_cons pe_str (pa_cons pe_str (pa_cons pe_str (pa_cons pe_str (pa_cons pe_str (pa_cons pe_str (pa_cons pe_str (pa_cons pe_str (pa_cons pe_str pa_nil)))))))))))))))))
    (pss_cons (ps_set (i := 0) scFew.nd rfl (Or.inl rfl) (pe_op op_cat (pv 0) (pe_lst (pa_cons pe_str (pa_cons pe_str (pa_cons pe_str (pa_cons pe_str (pa_cons pe_str (pa_cons pe_str (pa_cons pe_str (pa_cons pe_str (pa_cons pe_str pa_nil))))))))))))
    (pss_cons (ps_set (i := 0) scFew.nd rfl (Or.inl rfl) (pe_op op_cat (pv 0) (pe_lst (pa_cons pe_str (pa_cons pe_str (pa_cons pe_str (pa_cons pe_str (pa_cons pe_str (pa_cons pe_str (pa_cons pe_str (pa_cons pe_str (pa_cons pe_str pa_nil))))))))))))
    (pss_cons (ps_expr (pe_bm PySem.F.plainAttrs_list PySem.F.slot_list_append PySem.F.type_list_append mt_append (pv 0) (pa_cons pe_str pa_nil)))
    (pss_cons (ps_set (i := 0) scFew.nd rfl (Or.inl rfl) (pe_op op_cat (pv 0) (pe_lst (pa_cons pe_str (pa_cons pe_str (pa_cons pe_str (pa_cons pe_str (pa_cons pe_str (pa_cons (pe_op op_add_str (pe_op op_mulS pe_str pe_int) pe_str) (pa_cons (pe_op op_add_str (pe_op op_mulS pe_str pe_int) pe_str) pa_nil))))))))))
    (pss_one (ps_ret (pe_op op_cat (pv 0) (pe_lst (pa_cons (pe_op op_add_str (pe_op op_add_str pe_str (pe_op op_mulS pe_str pe_int)) pe_str) (pa_cons (pe_op op_add_str pe_str (pe_op op_mulS pe_str pe_int)) (pa_cons (pe_op op_add_str (pe_op op_mulS pe_str pe_int) pe_str) pa_nil))))))))))), ?_⟩
  refine q_asgL (xs := fewA.map V.str) (el_lst (ea_cons ev_c (ea_cons ev_c (ea_cons ev_c (ea_cons ev_c (ea_cons ev_c (ea_cons ev_c (ea_cons ev_c (ea_cons ev_c (ea_cons ev_c (ea_cons ev_c (ea_cons ev_c (ea_cons ev_c (ea_cons ev_c (ea_cons ev_c (ea_cons ev_c ea_nil))))))))))))))) (by show 15 ≤ 100000; decide)) fun p1 H1 np1 e1 hp1 => ?_
  refine q_asgL (xs := (fewA ++ fewB).map V.str) (el_ownS (ev_var rfl) hp1 (el_lst (ea_cons ev_c (ea_cons ev_c (ea_cons ev_c (ea_cons ev_c (ea_cons ev_c (ea_cons ev_c (ea_cons ev_c (ea_cons ev_c (ea_cons ev_c ea_nil))))))))) (by show 9 ≤ 100000; decide)) (by decide)) fun p2 H2 np2 e2 hp2 => ?_
  refine q_asgL (xs := (fewA ++ fewB ++ fewC).map V.str) (el_ownS (ev_var rfl) hp2 (el_lst (ea_cons ev_c (ea_cons ev_c (ea_cons ev_c (ea_cons ev_c (ea_cons ev_c (ea_cons ev_c (ea_cons ev_c (ea_cons ev_c (ea_cons ev_c ea_nil))))))))) (by show 9 ≤ 100000; decide)) (by decide)) fun p3 H3 np3 e3 hp3 => ?_
  refine q_app (v := .str "1/2/3,4/5/6") hp3 (ev_var rfl) ev_c (by rw [List.length_map]; decide) fun H4 e4 => ?_
  have n3 : H p3 = none := fresh_back (e1.trans e2) np3
  have e04 : Ex H (upd H4 p3 (.lst ((fewA ++ fewB ++ fewC).map V.str ++ [.str "1/2/3,4/5/6"]))) := Ex.mut (((e1.trans e2).trans e3).trans e4) n3
  have h4 : (upd H4 p3 (.lst ((fewA ++ fewB ++ fewC).map V.str ++ [.str "1/2/3,4/5/6"]))) p3 = some (.lst ((fewA ++ fewB ++ fewC ++ fewX).map V.str)) := by
    rw [upd_same, List.map_append (l₂ := fewX)]
    rfl
  generalize upd H4 p3 (.lst ((fewA ++ fewB ++ fewC).map V.str ++ [.str "1/2/3,4/5/6"])) = H5 at e04 h4
  refine q_asgL (xs := (fewA ++ fewB ++ fewC ++ fewX ++ fewD).map V.str) (el_ownS (ev_var rfl) h4 (el_lst (ea_cons ev_c (ea_cons ev_c (ea_cons ev_c (ea_cons ev_c (ea_cons ev_c (ea_cons (ev_op (ev_nines (n := 60) (by decide) (by decide)) ev_c (rv_addS (by rw [nines_len (n := 60), sizeLine_eq]; decide))) (ea_cons (ev_op (ev_nines (n := 61) (by decide) (by decide)) ev_c (rv_addS (by rw [nines_len (n := 61), sizeLine_eq]; decide))) ea_nil))))))) (by show 7 ≤ 100000; decide)) (by decide)) fun p6 H6 np6 e6 hp6 => ?_
  exact s_retL (xs := (fewA ++ fewB ++ fewC ++ fewX ++ fewD ++ fewE).map V.str) (el_ownS (ev_var rfl) hp6 (el_lst (ea_cons (ev_op (ev_op ev_c (ev_nines (n := 61) (by decide) (by decide)) (rv_addS (by rw [nines_len (n := 61), sizeLine_eq]; decide))) ev_c (rv_addS (by rw [Str.length_append, nines_len (n := 61), sizeLine_eq]; decide))) (ea_cons (ev_op ev_c (ev_nines (n := 61) (by decide) (by decide)) (rv_addS (by rw [nines_len (n := 61), sizeLine_eq]; decide))) (ea_cons (ev_op (ev_nines (n := 4000) (by decide) (by decide)) ev_c (rv_addS (by rw [nines_len (n := 4000), sizeLine_eq]; decide))) ea_nil))) (by show 3 ≤ 100000; decide)) (by decide)) fun p7 H7 np7 e7 hp7 => k p7 H7 (fresh_back (e04.trans e6) np7) ((e04.trans e6).trans e7) hp7
end
end Bp
namespace Bp
open PySem L2 Evl
section
variable {P : Program} {w : World} {K : PySem.W.Frag} {mg : Str → Option Value} {base : Heap} {CT CX : Addr}
theorem scRight : FnScope ["_law_text", "_law_due", "_law_found"] ["_law_text"] (defScope sRight) := ⟨rfl, rfl, rfl, by decide +kernel, rfl, by decide +kernel, by decide +kernel⟩
theorem sh_all {ts : List Th} (h : ∀ t ∈ ts, Sh t) : ts.all shB = true := List.all_eq_true.mpr fun t ht => by
  have := h t ht
  unfold shB
  rw [decide_eq_true this.1, decide_eq_true this.2.1, decide_eq_true this.2.2]
  rfl
theorem ok_right {f fI fF fR fW : Addr} {fd dI dF dR dW : FuncData} (F : Fun K "_law_right" "_law_right" sRight f fd) (T : Bn mg)
    (gI : mg "_law_in" = some (.ref fI)) (kI : PySem.W.keepIn K (.ref fI) = true) (bI : Binds K dI ["_law_text"] []) (GI : FnOk P w K mg base CX0 2 fI dI ["_law_text"] spIn)
    (gF : mg "_law_refused" = some (.ref fF)) (kF : PySem.W.keepIn K (.ref fF) = true) (bF : Binds K dF ["_law_text"] []) (GF : FnOk P w K mg base CX0 4 fF dF ["_law_text"] (spRefused K))
    (gR : mg "read" = some (.ref fR)) (kR : PySem.W.keepIn K (.ref fR) = true) (bR : Binds K dR ["text"] []) (GR : FnOk P w K mg base (L2N.CX P w) 3 fR dR ["text"] (spRead K CX))
    (gW : mg "written" = some (.ref fW)) (kW : PySem.W.keepIn K (.ref fW) = true) (bW : Binds K dW ["things"] []) (GW : FnOk P w K mg base (L2N.CX P w) 5 fW dW ["things"] (spWrittenX K CT)) : FnOk P w K mg base CX0 6 f fd ["_law_text"] spRight := by
  refine F.ok scRight (fun vs H Q E h => ?_) (fun cdv A outer s H vs Q E hr h => ?_)
  · obtain ⟨z, rfl, _⟩ := h
    rfl
  · obtain ⟨z, rfl, hz, hbl, k⟩ := h
    refine ⟨_, pss_cons (ps_set (i := 1) scRight.nd rfl (Or.inl rfl) (pe_call GI (hr.mono (by decide)) (by rfl) gI kI bI .nil pass0 (pa_cons (pv 0) pa_nil)))
      (pss_cons (ps_if (pt_cmpR (show OpR _ _ rIsN0 from op_isN) (pv 1) pe_non (nomark _)) (pss_one (ps_ret (pe_call GF (hr.mono (by decide)) (by rfl) gF kF bF .nil pass0 (pa_cons (pv 0) pa_nil)))) pss_nil)
      (pss_cons (ps_set (i := 2) scRight.nd rfl (Or.inl rfl) (pe_call GR (hr.mono (by decide)) (by rfl) gR kR bR .nil passLN (pa_cons (pv 0) pa_nil)))
      (pss_cons (ps_if (PW.pt (pw_or (pt_not (pt_val (pe_callB call_isi (by rfl) T.isi (by decide +kernel) (pa_cons (pv 2) (pa_cons (pe_bltn (v := .ty "list") (by rfl) T.list PyProof.Rows.boot_list rfl) pa_nil))))) (pw_or (pt_cmpR (op_neD hr.units) (pv 2) (pv 1) (nomark _))
          (pw_or1 (pt_cmpR op_ne (pe_call GW hr (by rfl) gW kW bW .nil passLN (pa_cons (pv 2) pa_nil)) (pv 0) (nomark _)))))) (pss_one (ps_ret pe_bl)) pss_nil)
      (pss_cons (ps_expr (pe_bm PySem.F.plainAttrs_list PySem.F.slot_list_append PySem.F.type_list_append mt_append (pv 2) (pa_cons (pe_tup (pa_cons pe_int (pa_cons pe_int (pa_cons pe_int pa_nil)))) pa_nil)))
      (pss_one (ps_ret (pe_cmpR (op_eqD hr.units) (pe_call GR (hr.mono (by decide)) (by rfl) gR kR bR .nil passLN (pa_cons (pv 0) pa_nil)) (pv 1) (nomark _)))))))), ?_⟩
    refine q_asgX (ea_cons (ev_var rfl) ea_nil) fun H1 e1 => ⟨z, rfl, hz, fun hn H2 e2 => ?_, fun ts hts l1 z1 H2 n1 e2 h1 i1 t1 => ?_⟩
    · refine q_when (b := true) (et_is (et_test (ev_op (ev_var rfl) ev_c rv_isN0)) (by decide)) (fun _ H3 e3 => ?_) (fun q => by cases q)
      exact s_giveX (ea_cons (ev_var rfl) ea_nil) fun H4 e4 => ⟨_, rfl, .inr ⟨z, rfl, hz, hn⟩, fun H5 e5 => k.go ((((e1.trans e2).trans e3).trans e4).trans e5)⟩
    · have hyes : ∀ {α : Prop}, rdT z = none → α := fun h => by rw [hts] at h; cases h
      obtain ⟨hnn, hwr⟩ := rdT_nn hts
      have hfew := rdT_few hts
      have ths_of : ∀ {l : Addr} {zs : List (Addr × Th)} {A : Hp}, A l = some (.lst (tv zs)) → (∀ x ∈ zs, A x.1 = some (.tup (iv x.2))) → ths zs = ts → Ths K A l zs := fun {l zs A} a b c => ⟨sq_of a, fun x hx => st_of (b x hx), fun x hx => (hnn x.2 (by rw [← c]; exact List.mem_map.mpr ⟨x, hx, rfl⟩)).1, by
        have := ths_len zs
        rw [c] at this
        omega⟩
      have hT1 := ths_of h1 i1 t1
      refine q_when (b := false) (et_is (et_test (ev_op (ev_var rfl) ev_c rv_isN0)) rfl) (fun q => by cases q) fun _ H3 e3 => ?_
      refine q_asgX (ea_cons (ev_var rfl) ea_nil) fun H4 e4 => ⟨_, rfl, .inr ⟨z, rfl, hz, fun ts2 hts2 l2 z2 H5 n2 e5 h2 i2 t2 => ?_, fun h => hyes h⟩⟩
      obtain rfl : ts = ts2 := Option.some.inj (hts.symm.trans hts2)
      have hT2 := ths_of h2 i2 t2
      have e25 := (e3.trans e4).trans e5
      have hT15 := hT1.mono e25
      have hsh := sh_map canT depT ts
      have d2 : DpX K H5 (.ref l2) (.list (ts.map dT)) := by rw [← t2]; exact dpx_ths hT2
      have d1 : DpX K H5 (.ref l1) (.list (ts.map dT)) := by rw [← t1]; exact dpx_ths hT15
      have hz2 : (if z2 = [] then ("-" : Str) else wThs (ths z2)) = z := by
        rw [t2]
        by_cases hq : z2 = []
        · rw [if_pos hq]
          have : ts = [] := by rw [← t2, hq]; rfl
          rw [if_pos this] at hwr
          exact hwr
        · rw [if_neg hq]
          have : ts ≠ [] := fun q => hq (by
            rw [q] at t2
            unfold ths at t2
            exact List.map_eq_nil_iff.mp t2)
          rw [if_neg this] at hwr
          exact hwr
      refine q_when (b := false) (et_is (et_or (et_not (et_B (b := true) (ev_cb (ea_cons (ev_var rfl) (ea_cons ev_c ea_nil)) (rc_isi (ty_lst hT2.ls) (by decide +kernel))))) fun _ => et_or (et_test (ev_op (ev_var rfl) (ev_var rfl) (rv_neD d2 d1 hsh))) fun _ => et_test (ev_op (x := .str z) (ev_call (ea_cons (ev_var rfl) ea_nil) fun H6 e6 Q' q' E' => ⟨.ref l2, true, rfl, tl_ths (hT2.mono e6), (fun h => by cases h), fun _ => ⟨l2, z2, rfl, hT2.mono e6, (fun h => ?_), fun _ H7 e7 => ?_⟩⟩) (ev_var rfl) (rv_ne rfl))) (by rw [decide_eq_true rfl]; rfl)) (fun q => by cases q) fun _ H6 e6 => ?_
      · rw [t2, sh_all fun t ht => (hnn t ht).2] at h
        cases h
      · rw [hz2]
        exact q' H7 e7
      · have n2' : H2 l2 = none := fresh_back (e3.trans e4) n2
        refine q_appU (l := l2) (xs := tv z2) (e6 _ _ h2) (ev_var rfl) (eu_tup (ea_cons ev_c (ea_cons ev_c (ea_cons ev_c ea_nil))) (by show 3 ≤ 100000; decide)) (by rw [tv_len]; have := hT2.le; omega) fun p H7 np e7 hp => ?_
        have e2m : Ex H2 (upd H7 l2 (.lst (tv z2 ++ [.ref p]))) := Ex.mut ((e25.trans e6).trans e7) n2'
        generalize upd H7 l2 (.lst (tv z2 ++ [.ref p])) = H8 at e2m
        have hT18 := hT1.mono e2m
        have d18 : DpX K H8 (.ref l1) (.list (ts.map dT)) := by rw [← t1]; exact dpx_ths hT18
        refine s_ret (v := .bl true) (fun H9 e9 Q' q' => ?_) fun H9 e9 => k.go (((e1.trans e2).trans e2m).trans e9)
        refine ⟨.str z, rfl, _, rfl, .inr ⟨z, rfl, hz, fun ts3 hts3 l3 z3 H10 n3 e10 h3 i3 t3 => ?_, fun h => hyes h⟩⟩
        obtain rfl : ts = ts3 := Option.some.inj (hts.symm.trans hts3)
        have hT3 := ths_of h3 i3 t3
        have d3 : DpX K H10 (.ref l3) (.list (ts.map dT)) := by rw [← t3]; exact dpx_ths hT3
        exact ⟨.ref l1, rfl, rv_eqD d3 (d18.mono (e9.trans e10)) hsh H10 (Ex.refl _) Q' fun H11 e11 => q' H11 (e10.trans e11)⟩
end
end Bp
namespace Bp
open PySem L2 Evl
abbrev nLaw5 : List Str := ["_law_script", "_law_things_here", "_law_words", "_law_text", "_law_handed", "_law_cell", "_law_k", "_law_at", "_law_sign", "_law_one", "_law_dry", "_law_other", "_law_thing"]
theorem scLaw5 : FnScope nLaw5 ["_law_script"] (defScope sLaw) := ⟨rfl, rfl, rfl, by decide +kernel, rfl, by decide +kernel, by decide +kernel⟩
/-- what the law calls -/
structure L5ks (K : PySem.W.Frag) (mg : Str → Option Value) (P : Program) (w : World) (base : Heap) (fE fD fT fF fR fW fY CT : Addr) (dE dD dT dF dR dW dY : FuncData) : Prop where
  gE : mg "_law_cell_at" = some (.ref fE)
  kE : PySem.W.keepIn K (.ref fE) = true
  bE : Binds K dE ["_law_script", "_law_k"] []
  GE : FnOk P w K mg base CX0 1 fE dE ["_law_script", "_law_k"] (spCell K)
  gD : mg "_law_draw" = some (.ref fD)
  kD : PySem.W.keepIn K (.ref fD) = true
  bD : Binds K dD ["_law_cell", "_law_k", "_law_many"] []
  GD : FnOk P w K mg base CX0 1 fD dD ["_law_cell", "_law_k", "_law_many"] spDraw
  gT : mg "_law_things" = some (.ref fT)
  kT : PySem.W.keepIn K (.ref fT) = true
  bT : Binds K dT ["_law_script"] []
  GT : FnOk P w K mg base CX0 2 fT dT ["_law_script"] (spThings K)
  gF : mg "_law_refused" = some (.ref fF)
  kF : PySem.W.keepIn K (.ref fF) = true
  bF : Binds K dF ["_law_text"] []
  GF : FnOk P w K mg base CX0 4 fF dF ["_law_text"] (spRefused K)
  gR : mg "_law_right" = some (.ref fR)
  kR : PySem.W.keepIn K (.ref fR) = true
  bR : Binds K dR ["_law_text"] []
  GR : FnOk P w K mg base CX0 6 fR dR ["_law_text"] spRight
  gW : mg "written" = some (.ref fW)
  kW : PySem.W.keepIn K (.ref fW) = true
  bW : Binds K dW ["things"] []
  GW : FnOk P w K mg base (L2N.CX P w) 5 fW dW ["things"] (spWrittenX K CT)
  gY : mg "_law_few" = some (.ref fY)
  kY : PySem.W.keepIn K (.ref fY) = true
  bY : Binds K dY [] []
  GY : FnOk P w K mg base CX0 1 fY dY [] spFew
section
variable {P : Program} {w : World} {K : PySem.W.Frag} {mg : Str → Option Value} {base : Heap}
def law5_pf {f fE fD fT fF fR fW fY CT : Addr} {dE dD dT dF dR dW dY : FuncData} (T : Bn mg) (S : L5ks K mg P w base fE fD fT fF fR fW fY CT dE dD dT dF dR dW dY) {cdv : Value} {A : Around} {outer : List Env} {s : Shared} {H : Hp} {E : XK} (hr : Room 6 (A.deeper (PyProof.Rows.envOfC "law" (defScope sLaw) s.heap.objs.size f cdv))) :=
  show PSs (cxOf CX0 P w K mg base nLaw5 "law" (defScope sLaw) f cdv A outer s H E).nox (defBody sLaw) _ from
    pss_cons (ps_set (i := 1) scLaw5.nd rfl (Or.inl rfl) (pe_call S.GT (hr.mono (by decide)) (by rfl) S.gT S.kT S.bT .nil pass0 (pa_cons (pv 0) pa_nil)))
    (pss_cons (ps_setLc (i := 2) (own := [("_law_one", 9), ("_law_dry", 10), ("_law_other", 11)]) (g := gTup K 3 (gCons (gName 9) (gCons (gName 10) (gCons (gName 11) gNil)))) (tt := tYes) (by rfl) scLaw5.nd rfl rfl (sw_true rfl rfl rfl (by decide +kernel)) (pi_list (pv 1)) (blkOk_by (N := nLaw5) (sc := defScope sLaw) (by decide +kernel))
        (fun _ _ _ _ _ => pg_tup rfl (pgs_cons (pg_name (i := 9) scLaw5.nd rfl (Or.inl rfl)) (pgs_cons (pg_name (i := 10) scLaw5.nd rfl (Or.inl rfl)) (pgs_cons (pg_name (i := 11) scLaw5.nd rfl (Or.inl rfl)) pgs_nil)))) (fun _ _ _ _ _ => pts_nil)
        (fun _ _ _ _ _ => pe_op op_add_str (pe_op op_add_str (pe_op op_add_str (pe_op op_add_str (pe_callTy call_str_int (by rfl) T.str PyProof.Rows.boot_str (pa_cons (pv 9) pa_nil)) pe_str) (pe_callTy call_str_int (by rfl) T.str PyProof.Rows.boot_str (pa_cons (pv 10) pa_nil))) pe_str) (pe_callTy call_str_int (by rfl) T.str PyProof.Rows.boot_str (pa_cons (pv 11) pa_nil))))
    (pss_cons (ps_set (i := 3) scLaw5.nd rfl (Or.inl rfl) (pe_ifExp (pt_cmpR (op_neD hr.units) (pv 2) (pe_lst pa_nil) (nomark _)) (pe_join pe_str (pv 2)) pe_str))
    (pss_cons (ps_set (i := 4) scLaw5.nd rfl (Or.inl rfl) (pe_callTy call_list_of (by rfl) T.list PyProof.Rows.boot_list (pa_cons (pv 1) pa_nil)))
    (pss_cons (ps_if (PW.pt (pw_or (pt_cmpR op_ne (pe_call S.GW (hr.mono (by decide)) (by rfl) S.gW S.kW S.bW .nil passLN (pa_cons (pv 4) pa_nil)) (pv 3) (nomark _)) (pw_or (pt_cmpR (op_neD hr.units) (pv 4) (pv 1) (nomark _)) (pw_or1 (pt_not (pt_val (pe_call S.GR hr (by rfl) S.gR S.kR S.bR .nil pass0 (pa_cons (pv 3) pa_nil)))))))) (pss_one (ps_ret pe_bl)) pss_nil)
    (pss_cons (ps_set (i := 5) scLaw5.nd rfl (Or.inl rfl) (pe_op op_add (pe_call S.GE (hr.mono (by decide)) (by rfl) S.gE S.kE S.bE .nil pass0 (pa_cons (pv 0) (pa_cons pe_int pa_nil))) (pe_op op_mul pe_int (pe_call S.GE (hr.mono (by decide)) (by rfl) S.gE S.kE S.bE .nil pass0 (pa_cons (pv 0) (pa_cons pe_int pa_nil))))))
    (pss_cons (ps_for PassesOwn.never rfl (pi_range1 rfl T.range (pa_cons pe_int pa_nil)) (pg_name (i := 6) scLaw5.nd rfl (Or.inl rfl))
      (pss_cons (ps_set (i := 7) scLaw5.nd rfl (Or.inl rfl) (pe_call S.GD (hr.mono (by decide)) (by rfl) S.gD S.kD S.bD .nil pass0 (pa_cons (pe_op op_add (pv 5) (pv 6)) (pa_cons pe_int (pa_cons (pe_op op_add (pe_callB call_len_str (by rfl) T.len PySem.boot_len (pa_cons (pv 3) pa_nil)) pe_int) pa_nil)))))
      (pss_cons (ps_set (i := 8) scLaw5.nd rfl (Or.inl rfl) (pe_ix ix_tup (pe_tup (pa_cons pe_str (pa_cons (pe_item_str pe_str (pe_call S.GD (hr.mono (by decide)) (by rfl) S.gD S.kD S.bD .nil pass0 (pa_cons (pe_op op_add (pv 5) (pv 6)) (pa_cons pe_int (pa_cons pe_int pa_nil)))) (fun _ _ => rfl)) pa_nil))) (pe_call S.GD (hr.mono (by decide)) (by rfl) S.gD S.kD S.bD .nil pass0 (pa_cons (pe_op op_add (pv 5) (pv 6)) (pa_cons pe_int (pa_cons pe_int pa_nil)))) (fun _ _ => rfl)))
      (pss_one (ps_if (pt_not (pt_val (pe_call S.GR hr (by rfl) S.gR S.kR S.bR .nil pass0 (pa_cons (pe_op op_add_str (pe_op op_add_str (pe_slice sl_str (pv 3) po_none (po_some (pv 7))) (pv 8)) (pe_slice sl_str (pv 3) (po_some (pe_op op_add (pv 7) (pe_call S.GD (hr.mono (by decide)) (by rfl) S.gD S.kD S.bD .nil pass0 (pa_cons (pe_op op_add (pv 5) (pv 6)) (pa_cons pe_int (pa_cons pe_int pa_nil)))))) po_none)) pa_nil)))) (pss_one (ps_ret pe_bl)) pss_nil)))))
    (pss_cons (ps_if (pt_not (pt_val (pe_callB (cr_all rfl) (by rfl) T.all (by decide +kernel) (pa_cons (pe_lc (own := [("_law_other", 11)]) (g := gName 11) (tt := tYes) rfl scLaw5.nd (pi_list (pe_call0 S.GY (hr.mono (by decide)) (by rfl) S.gY S.kY S.bY .nil pass0)) (blkOk_by (N := nLaw5) (sc := defScope sLaw) (by decide +kernel))
        (fun _ _ _ _ _ => pg_name (i := 11) scLaw5.nd rfl (Or.inl rfl)) (fun _ _ _ _ _ => pts_nil) (fun _ _ _ _ _ => pe_call S.GR hr (by rfl) S.gR S.kR S.bR .nil pass0 (pa_cons (pv 11) pa_nil))) pa_nil)))) (pss_one (ps_ret pe_bl)) pss_nil)
    (pss_one (ps_ret (pe_callB (cr_all rfl) (by rfl) T.all (by decide +kernel) (pa_cons (pe_lc (own := [("_law_thing", 12)]) (g := gName 12) (tt := tYes) rfl scLaw5.nd (pi_list (pe_lst (pa_cons pe_non (pa_cons pe_int (pa_cons (pe_lst (pa_cons pe_str pa_nil)) (pa_cons pe_bl pa_nil)))))) (blkOk_by (N := nLaw5) (sc := defScope sLaw) (by decide +kernel))
        (fun _ _ _ _ _ => pg_name (i := 12) scLaw5.nd rfl (Or.inl rfl)) (fun _ _ _ _ _ => pts_nil) (fun _ _ _ _ _ => pe_call S.GF (hr.mono (by decide)) (by rfl) S.gF S.kF S.bF .nil pass0 (pa_cons (pv 12) pa_nil))) pa_nil)))))))))))
end
end Bp
namespace Bp
open PySem L2 Evl
/-! ### the law's texts -/
theorem num_of {i : Int} (h : 0 ≤ i) : (toString i : Str) = num i.toNat := by
  show (toString i : Str) = (toString ((i.toNat : Nat) : Int) : Str)
  rw [Int.toNat_of_nonneg h]
theorem tl_cat (x y : Str) : (x ++ y).cps.toList = x.cps.toList ++ y.cps.toList := by rw [Str.cps_append, Array.toList_append]
theorem blanks_num (n : Nat) : blanks (num n) = 0 := by
  unfold blanks
  rw [num_tl]
  refine List.count_eq_zero_of_not_mem fun h => ?_
  have := List.all_eq_true.mp (numL_fig n) 32 h
  revert this
  decide
theorem wTh_cat (t : Th) : wTh t = ((((toString t.1 : Str) ++ "/") ++ (toString t.2.1 : Str)) ++ "/") ++ (toString t.2.2 : Str) := by
  unfold wTh
  rw [TL.join_eq]
  show (toString t.1 : Str) ++ "/" ++ ((toString t.2.1 : Str) ++ "/" ++ (toString t.2.2 : Str)) = _
  refine str_ext ?_
  simp only [tl_cat, List.append_assoc]
theorem blanks_wTh {t : Th} (n : Nn t) : blanks (wTh t) = 0 := by
  rw [wTh_cat, blanks_app, blanks_app, blanks_app, blanks_app, num_of n.1, num_of n.2.1, num_of n.2.2, blanks_num, blanks_num, blanks_num]
  decide +kernel
theorem blanks_join : ∀ ws : List Str, (∀ y ∈ ws, blanks y = 0) → blanks (Str.join " " ws) ≤ ws.length
  | [], _ => Nat.zero_le _
  | [y], h => by
    show blanks y ≤ _
    rw [h y List.mem_cons_self]
    exact Nat.zero_le _
  | y :: u :: r, h => by
    have ih := blanks_join (u :: r) fun x hx => h x (List.mem_cons_of_mem _ hx)
    show blanks (y ++ " " ++ Str.join " " (u :: r)) ≤ _
    rw [blanks_app, blanks_app, h y List.mem_cons_self, show blanks " " = 1 by decide +kernel]
    rw [List.length_cons]
    omega
noncomputable def txt (ts : List Th) : Str := if ts = [] then "-" else wThs ts
theorem txt_ok {ts : List Th} (h : ∀ t ∈ ts, Nn t ∧ Sh t) (hl : ts.length ≤ 189) : (txt ts).length ≤ 35000 ∧ blanks (txt ts) ≤ 189 := by
  unfold txt
  by_cases e : ts = []
  · rw [if_pos e]
    decide +kernel
  · rw [if_neg e]
    unfold wThs
    have d : (" " : Str).length = 1 := rfl
    have a := join_le " " (ts.map wTh)
    have b := sum_le (fun y : Str => y.length) 183 (ts.map wTh) fun y hy => by
      obtain ⟨t, ht, rfl⟩ := List.mem_map.mp hy
      exact wTh_le (h t ht).1 (h t ht).2
    have c := blanks_join (ts.map wTh) fun y hy => by
      obtain ⟨t, ht, rfl⟩ := List.mem_map.mp hy
      exact blanks_wTh (h t ht).1
    rw [List.length_map] at a b c
    rw [TL.join_eq] at a ⊢
    rw [d] at a
    omega
theorem cut_head (z : Str) (n : Nat) : (cutS z none (some (n : Int))).cps.toList = z.cps.toList.take n := by
  have zl : z.cps.toList.length = z.length := Array.length_toList
  unfold cutS
  rw [HT.sIx_none, HT.sIx_nat, List.drop_zero, Nat.sub_zero]
  show List.take _ _ = _
  rcases Nat.le_total n z.length with h | h
  · rw [Nat.min_eq_left h]
  · rw [Nat.min_eq_right h, List.take_of_length_le (by omega), List.take_of_length_le (by omega)]
theorem cut_tail (z : Str) (n : Nat) : (cutS z (some (n : Int)) none).cps.toList = z.cps.toList.drop n := by
  have zl : z.cps.toList.length = z.length := Array.length_toList
  unfold cutS
  rw [HT.sIx_none, HT.sIx_nat]
  show List.take _ _ = _
  rw [List.take_of_length_le (by rw [List.length_drop]; omega)]
  rcases Nat.le_total n z.length with h | h
  · rw [Nat.min_eq_left h]
  · rw [Nat.min_eq_right h, List.drop_of_length_le (by omega), List.drop_of_length_le (by omega)]
theorem changed {z sg : Str} {a b : Nat} (hab : a ≤ b) : ((cutS z none (some (a : Int)) ++ sg) ++ cutS z (some (b : Int)) none).length ≤ z.length + sg.length ∧ blanks ((cutS z none (some (a : Int)) ++ sg) ++ cutS z (some (b : Int)) none) ≤ blanks z + sg.length := by
  have zl : z.cps.toList.length = z.length := Array.length_toList
  have l1 : (cutS z none (some (a : Int))).length = (z.cps.toList.take a).length := by rw [← cut_head]; exact Array.length_toList.symm
  have l2 : (cutS z (some (b : Int)) none).length = (z.cps.toList.drop b).length := by rw [← cut_tail]; exact Array.length_toList.symm
  have b1 : blanks (cutS z none (some (a : Int))) = (z.cps.toList.take a).count 32 := by unfold blanks; rw [cut_head]
  have b2 : blanks (cutS z (some (b : Int)) none) = (z.cps.toList.drop b).count 32 := by unfold blanks; rw [cut_tail]
  have b3 : blanks sg ≤ sg.length := by
    have : sg.cps.toList.length = sg.length := Array.length_toList
    rw [← this]
    exact List.count_le_length
  have b4 : (z.cps.toList.take a).count 32 + (z.cps.toList.drop b).count 32 ≤ blanks z := by
    have h1 : blanks z = (z.cps.toList.take a).count 32 + (z.cps.toList.drop a).count 32 := by
      unfold blanks
      rw [← List.count_append, List.take_append_drop]
    have h2 : (z.cps.toList.drop b).count 32 ≤ (z.cps.toList.drop a).count 32 := by
      have : z.cps.toList.drop b = (z.cps.toList.drop a).drop (b - a) := by rw [List.drop_drop]; congr 1; omega
      rw [this]
      exact (List.drop_sublist _ _).count_le _
    omega
  rw [Str.length_append, Str.length_append, l1, l2, blanks_app, blanks_app, b1, b2, List.length_take, List.length_drop]
  omega
section
variable {K : PySem.W.Frag} {σ : L2.St} {H : Hp} {te : TE} {ta : TA}
theorem ev_joinV {a : Str} {p : Addr} {ys : List Str} (h : Ev te σ H (.ref p)) (hp : SqL K H p (ys.map V.str)) (hz : (ys.map (·.length)).sum + ys.length * a.length ≤ 16777216) : Ev (tM1 (rJoin K) (tC (.str a)) te) σ H (.str (Txt.join a ys)) := fun H1 e Q q =>
  ⟨⟨a, rfl⟩, h H1 e _ fun H2 e2 => ⟨a, p, ys, rfl, rfl, .inl (ex_l (e.trans e2) hp), hz, q H2 e2⟩⟩
theorem rv_neB {x y : V} {d e : PyData} (hx : DpX K H x d) (hy : DpX K H y e) (hs : SeqAt.shaped d = true) (hs2 : SeqAt.shaped e = true) : RV (rNeD K) x y H (.bl (!PyData.eqv d e)) := fun H1 e1 Q q => ⟨d, e, hx H1 e1, hy H1 e1, hs, hs2, q H1 (Ex.refl H1)⟩
theorem dpAll_strs : ∀ ys : List Str, DpAll K H (ys.map V.str) (ys.map PyData.str)
  | [] => .nil
  | y :: ys => .cons (.str y) (dpAll_strs ys)
theorem ev_slS {z : Str} {tl th : TO} {lo hi : Option Int} (h : Ev te σ H (.str z)) (h1 : EvO tl σ H lo) (h2 : EvO th σ H hi) (hz : z.length ≤ 40000) : Ev (tSl rSlS te tl th) σ H (.str (cutS z lo hi)) := fun H1 e Q q =>
  h H1 e _ fun H2 e2 => h1 H2 (e.trans e2) _ fun H3 e3 => h2 H3 ((e.trans e2).trans e3) _ fun H4 e4 => ⟨z, rfl, by rw [sizeLine_eq]; omega, q H4 ((e2.trans e3).trans e4)⟩
def Odd5 (K : PySem.W.Frag) (A : Hp) (v : V) : Prop := ∃ n, NonStr n ∧ Ty K A v n
theorem grow_odd : Grow fun A v (_ : Unit) => Odd5 K A v := fun A B v b e ⟨n, h, t⟩ => ⟨n, h, t.mono e⟩
theorem el_lcD {β : Type} {R : Hp → V → β → Prop} {bs : List β} {j : Nat} {vs : List Nat} (g : Grow R) (h : EvAR ta σ H R bs) (hz : bs.length ≤ 1000) (hw : ∀ x, wipe ((wipe σ vs).set j (some x)) vs = wipe σ vs) (he : ∀ (x : V) b H1, Ex H H1 → R H1 x b → Ev te ((wipe σ vs).set j (some x)) H1 (.bl true)) :
    EvL (tLc (iList K (tLst ta)) (gName j) tYes te vs) σ H ((List.replicate bs.length true).map V.bl) := fun H1 e Q q => h H1 e _ fun xs H2 e2 rs => ⟨sz_of (by rw [rs.len]; omega), fun p np => by
  have l := rs.len
  have := el_lcL (K := K) (σ := σ) (H := upd H2 p (.lst xs)) (a := p) (xs := xs) (tl := tC (.ref p)) (j := j) (vs := vs) (t := tYes) (te := te) (fun _ => true) (fun _ => .bl true) ev_c (sq_of upd_same) (by omega) hw (fun i x H3 e3 hi => et_yes) (fun i x H3 e3 hi _ => by
    obtain ⟨b, _, r⟩ := rs.get hi
    exact he x b H3 ((e.trans e2).trans ((Ex.new np).trans e3)) (g _ _ _ _ ((Ex.new np).trans e3) r))
  rw [given_true, l] at this
  exact this _ (Ex.refl _) Q fun r H3 nr e3 hr => q r H3 (fresh_back (e2.trans (Ex.new np)) nr) ((e2.trans (Ex.new np)).trans e3) hr⟩
end
def spLaw (K : PySem.W.Frag) : Sp := fun vs H Q _ => ∃ (a : Addr) (ns : List Int), vs = [.ref a] ∧ SqL K H a (ns.map V.int) ∧ ns.length ≤ 63 ∧ ∀ H', Q (.bl true) H'
end Bp
namespace Bp
open PySem L2 Evl
theorem so_list (x : Str) : PyData.strOk x = x.cps.toList.all (fun c => decide (c < 0x110000)) := by
  unfold PyData.strOk
  rw [Array.all_toList]
theorem so_app {x y : Str} (h1 : PyData.strOk x = true) (h2 : PyData.strOk y = true) : PyData.strOk (x ++ y) = true := by
  rw [so_list] at h1 h2 ⊢
  rw [tl_cat, List.all_append, h1, h2]
  rfl
theorem so_num (n : Nat) : PyData.strOk (num n) = true := by
  rw [so_list, num_tl]
  refine List.all_eq_true.mpr fun c hc => ?_
  have := of_decide_eq_true (List.all_eq_true.mp (numL_fig n) c hc)
  exact decide_eq_true (by omega)
theorem so_wTh {t : Th} (n : Nn t) : PyData.strOk (wTh t) = true := by
  rw [wTh_cat, num_of n.1, num_of n.2.1, num_of n.2.2]
  have s : PyData.strOk "/" = true := by decide +kernel
  exact so_app (so_app (so_app (so_app (so_num _) s) (so_num _)) s) (so_num _)
theorem sh_words {ts : List Th} (h : ∀ t ∈ ts, Nn t) : SeqAt.shaped (.list ((ts.map wTh).map PyData.str)) = true := by
  have a : PyData.canLayAll0 ((ts.map wTh).map PyData.str) = true := by
    rw [PyProof.Rows.canLayAll_strs']
    exact List.all_eq_true.mpr fun y hy => by
      obtain ⟨t, ht, rfl⟩ := List.mem_map.mp hy
      exact so_wTh (h t ht)
  have b : PyData.depthAll ((ts.map wTh).map PyData.str) ≤ 1 := dep_all (f := PyData.str) (fun _ => by show 0 ≤ 1; decide) (ts.map wTh)
  show ((PyData.canLayAll0 ((ts.map wTh).map PyData.str)) && decide (PyData.depthAll ((ts.map wTh).map PyData.str) + 1 ≤ 64)) = true
  rw [a, decide_eq_true (by omega)]
  rfl
end Bp
namespace Bp
theorem kit_val {K : PySem.W.Frag} {D : PySem.Addr} (h : PySem.W.subIn K (.ref D) (.type "ValueError") = some true) : PySem.W.kitOne K (.ref D) (.type "ValueError") = some true := by
  have m : PySem.W.kitMeta "ValueError" = true := by decide +kernel
  have n : ¬ ((PySem.Value.ref D == PySem.Value.type "ValueError") = true) := fun z => by
    have := eq_of_beq z
    cases this
  unfold PySem.W.kitOne
  rw [if_neg n]
  show (if PySem.W.kitMeta "ValueError" = true then PySem.W.subIn K (.ref D) (.type "ValueError") else none) = some true
  rw [if_pos m]
  exact h
end Bp
namespace Bp
open PySem L2 Evl
section
variable {P : Program} {w : World} {K : PySem.W.Frag} {mg : Str → Option Value} {base : Heap}
theorem q_asgS {σ : L2.St} {H : Hp} {D : Ends} {tz : TS} {i : Nat} {te : TE} {v : V} (h : Ev te σ H v) (k : ∀ H1, Ex H H1 → tz D (σ.set i (some v)) H1) : tSeq (tAsg te (gName i)) tz D σ H := q_asg h k
set_option maxHeartbeats 3200000 in
theorem ok_law5 {f fE fD fT fF fR fW fY CT : Addr} {fd dE dD dT' dF dR dW dY : FuncData} (F : Fun K "law" "law" sLaw f fd) (T : Bn mg) (S : L5ks K mg P w base fE fD fT fF fR fW fY CT dE dD dT' dF dR dW dY) : FnOk P w K mg base CX0 7 f fd ["_law_script"] (spLaw K) := by
  refine F.ok scLaw5 (fun vs H Q E h => ?_) (fun cdv Ar outer s H vs Q E hr h => ?_)
  · obtain ⟨a, ns, rfl, _⟩ := h
    rfl
  · obtain ⟨a, ns, rfl, hS, hz, q⟩ := h
    refine ⟨_, law5_pf T S hr, ?_⟩
    clear hr
    refine ⟨.ref a, rfl, a, ns, rfl, hS, hz, fun l zs H1 e1 nl hl hbd hzs => ?_⟩
    have hT : Ths K H1 l zs := ⟨sq_of hl, fun z hz => st_of (hbd z hz).1, fun z hz => (hbd z hz).2.nn, by omega⟩
    have hts : ∀ t ∈ ths zs, Nn t ∧ Sh t := fun t ht => by
      obtain ⟨z, hz, rfl⟩ := List.mem_map.mp ht
      have b := (hbd z hz).2
      exact ⟨b.nn, Int.lt_of_lt_of_le b.1.2 (by decide), Int.lt_of_lt_of_le b.2.1.2 (by decide), Int.lt_of_lt_of_le b.2.2.2 (by decide)⟩
    have hlen : (ths zs).length ≤ 189 := by rw [ths_len]; exact hzs
    obtain ⟨htl, htb⟩ := txt_ok hts hlen
    have rt : ∀ {σ : L2.St} {A : Hp} {te : TE} {z : Str}, z.length ≤ 36000 → blanks z ≤ 900 → Ev te σ A (.str z) → Ev (tCall spRight [] E0 (tCons te tNil)) σ A (.bl true) := fun h1 h2 h => ev_call (ea_cons h ea_nil) fun H2 e2 Q q E => ⟨_, rfl, h1, h2, q⟩
    -- words
    have hW := el_lcG (K := K) (σ := [some (.ref a), some (.ref l), none, none, none, none, none, none, none, none, none, none, none]) (H := H1) (a := l) (xs := tv zs) (tl := tVar 1) (g := gTup K 3 (gCons (gName 9) (gCons (gName 10) (gCons (gName 11) gNil)))) (t := tYes)
      (te := tOp (fun x y H Q => ∃ i j, x = .str i ∧ y = .str j ∧ i.length + j.length ≤ sizeLine ∧ Q (.str (i ++ j)) H) (tOp (fun x y H Q => ∃ i j, x = .str i ∧ y = .str j ∧ i.length + j.length ≤ sizeLine ∧ Q (.str (i ++ j)) H) (tOp (fun x y H Q => ∃ i j, x = .str i ∧ y = .str j ∧ i.length + j.length ≤ sizeLine ∧ Q (.str (i ++ j)) H) (tOp (fun x y H Q => ∃ i j, x = .str i ∧ y = .str j ∧ i.length + j.length ≤ sizeLine ∧ Q (.str (i ++ j)) H) (tCB rStrI (tCons (tVar 9) tNil)) (tC (.str "/"))) (tCB rStrI (tCons (tVar 10) tNil))) (tC (.str "/"))) (tCB rStrI (tCons (tVar 11) tNil)))
      (vs := [9, 10, 11]) (fun _ => true) (fun i => .str (wTh ((ths zs).getD i th0))) (fun i => [some (.ref a), some (.ref l), none, none, none, none, none, none, none, some (.int ((ths zs).getD i th0).1), some (.int ((ths zs).getD i th0).2.1), some (.int ((ths zs).getD i th0).2.2), none]) (ev_var rfl) hT.ls (by rw [tv_len]; omega) (fun i x H2 e2 hi => ?_) (fun i hi => rfl) (fun i x H2 e2 hi => et_yes) (fun i x H2 e2 hi _ => ?_)
    · rw [tv_len, ← ths_len zs, given_all, show (List.range (ths zs).length).map (fun i => V.str (wTh ((ths zs).getD i th0))) = (ths zs).map fun t => V.str (wTh t) from range_map (ths zs) th0 fun t => V.str (wTh t)] at hW
      refine q_asgL (xs := ((ths zs).map wTh).map V.str) (by rw [List.map_map]; exact hW) fun p H2 np e2 hp => ?_
      -- text
      refine q_asg (v := .str (txt (ths zs))) (ev_if (b := !PyData.eqv (.list (((ths zs).map wTh).map PyData.str)) (.list [])) (et_test (ev_opL (xs := []) (ev_var rfl) (el_lst ea_nil (by show 0 ≤ 100000; decide)) fun r H3 hr e3 => rv_neB (fun H4 e4 => .lst (sq_of (e4 _ _ (e3 _ _ hp))) (dpAll_strs _)) (fun H4 e4 => .lst (sq_of (e4 _ _ hr)) .nil) (sh_words fun t ht => (hts t ht).1) (by decide +kernel))) (fun hb => ?_) (fun hb => ?_)) fun H3 e3 => ?_
      · have hne : ths zs ≠ [] := fun z => by
          rw [z] at hb
          revert hb
          decide +kernel
        have ht : txt (ths zs) = Txt.join " " ((ths zs).map wTh) := by
          unfold txt wThs
          rw [if_neg hne]
        rw [ht]
        refine ev_joinV (ev_var rfl) (sq_of hp) ?_
        have := sum_le (fun y : Str => y.length) 183 ((ths zs).map wTh) fun y hy => by
          obtain ⟨t, ht, rfl⟩ := List.mem_map.mp hy
          exact wTh_le (hts t ht).1 (hts t ht).2
        have d : (" " : Str).length = 1 := rfl
        rw [List.length_map] at this ⊢
        rw [d]
        omega
      · have hne : ths zs = [] := by
          cases e : ths zs with
          | nil => rfl
          | cons t ts =>
            rw [e] at hb
            have : PyData.eqv (.list (((t :: ts).map wTh).map PyData.str)) (.list []) = false := rfl
            rw [this] at hb
            cases hb
        have ht : txt (ths zs) = "-" := by
          unfold txt
          rw [if_pos hne]
        rw [ht]
        exact ev_c
      have hT3 := hT.mono (e2.trans e3)
      refine q_asgL (el_list (ev_var rfl) hT3.ls) fun hd H4 nhd e4 hhd => ?_
      have hT4 := hT3.mono e4
      have hHd : Ths K H4 hd zs := hT4.some (sq_of hhd) (fun u hu => hu) (by omega)
      have hsh := sh_map canT depT (ths zs)
      have hwz : (if zs = [] then ("-" : Str) else wThs (ths zs)) = txt (ths zs) := by
        unfold txt
        by_cases hq : zs = []
        · rw [if_pos hq, if_pos (by rw [hq]; rfl)]
        · rw [if_neg hq, if_neg fun z => hq (by unfold ths at z; exact List.map_eq_nil_iff.mp z)]
      generalize txt (ths zs) = tx at htl htb hwz
      refine q_when (b := false) (et_is (et_or (et_test (ev_op (x := .str tx) (ev_call (ea_cons (ev_var rfl) ea_nil) fun H5 e5 Q' q' E' => ⟨.ref hd, true, rfl, tl_ths (hHd.mono e5), (fun h => by cases h), fun _ => ⟨hd, zs, rfl, hHd.mono e5, (fun h => ?_), fun _ H6 e6 => ?_⟩⟩) (ev_var rfl) (rv_ne rfl))) fun _ => et_or (et_test (ev_op (ev_var rfl) (ev_var rfl) (rv_neD (dpx_ths hHd) (dpx_ths hT4) hsh))) fun _ => et_not (et_B (rt (by omega) (by omega) (ev_var rfl)))) (by rw [decide_eq_true rfl]; rfl)) (fun q => by cases q) fun _ H5 e5 => ?_
      · rw [sh_all fun t ht => (hts t ht).2] at h
        cases h
      · rw [hwz]
        exact q' H6 e6
      -- cell
      have eS := (((e1.trans e2).trans e3).trans e4).trans e5
      have cellv : ∀ {σ : L2.St} {H2 : Hp} {tl tk : TE} (k : Nat), Ex H H2 → Ev tl σ H2 (.ref a) → Ev tk σ H2 (.int (k : Int)) → Ev (tCall (spCell K) [] E0 (tCons tl (tCons tk tNil))) σ H2 (.int (ns.getD k 0)) := fun k e2 h1 h2 =>
        ev_call (ea_cons h1 (ea_cons h2 ea_nil)) fun H3 e3 Q q E => ⟨a, ns, k, rfl, ex_l (e2.trans e3) hS, q⟩
      have drawv : ∀ {σ : L2.St} {H2 : Hp} {t1 t2 t3 : TE} {x y z : Int}, 0 < z → Ev t1 σ H2 (.int x) → Ev t2 σ H2 (.int y) → Ev t3 σ H2 (.int z) → Ev (tCall spDraw [] E0 (tCons t1 (tCons t2 (tCons t3 tNil)))) σ H2 (.int (drawF x y z)) := fun hp h1 h2 h3 =>
        ev_call (ea_cons h1 (ea_cons h2 (ea_cons h3 ea_nil))) fun H3 e3 Q q E => ⟨_, _, _, rfl, hp, q⟩
      refine q_asg (v := .int (ns.getD 3 0 + 7 * ns.getD 0 0)) (ev_op (cellv 3 eS (ev_var rfl) ev_c) (ev_op ev_c (cellv 0 eS (ev_var rfl) ev_c) (rv_I (.inl (by decide)))) rv_I0) fun H6 e6 => ?_
      generalize ns.getD 3 0 + 7 * ns.getD 0 0 = cell
      refine q_forR1 (n := 2) (ea_cons ev_c ea_nil) (by omega) (fun i σ' H' => ∃ v6 v7 v8 : Option V, σ' = [some (.ref a), some (.ref l), some (.ref p), some (.str tx), some (.ref hd), some (.int cell), v6, v7, v8, none, none, none, none] ∧ Ex H6 H') (fun H7 e7 => ⟨none, none, none, rfl, e7⟩) ?_ ?_
      · rintro i σ' H' hi ⟨v6, v7, v8, rfl, e'⟩
        have d1 := drawF_lt (c := cell + (i : Int)) (k := 1) (m := (tx.length : Int) + 1) (by omega)
        refine q_asg (drawv (z := (tx.length : Int) + 1) (by omega) (ev_op (ev_var rfl) (ev_var rfl) rv_I0) ev_c (ev_op (ev_cb (ea_cons (ev_var rfl) ea_nil) (rc_lenS (by omega))) ev_c rv_I0)) fun H7 e7 => ?_
        generalize drawF (cell + (i : Int)) 1 ((tx.length : Int) + 1) = at_ at d1
        obtain ⟨A, rfl⟩ : ∃ A : Nat, at_ = (A : Int) := ⟨at_.toNat, by omega⟩
        -- the sign
        have d2 := drawF_lt (c := cell + (i : Int)) (k := 2) (m := 15) (by decide)
        have d3 := drawF_lt (c := cell + (i : Int)) (k := 3) (m := 2) (by decide)
        obtain ⟨J, hJ⟩ : ∃ J : Nat, drawF (cell + (i : Int)) 2 15 = (J : Int) := ⟨(drawF (cell + (i : Int)) 2 15).toNat, by omega⟩
        have hSl : ("0123456789/ -x\n" : Str).length = 15 := by decide +kernel
        obtain ⟨c, hc⟩ : ∃ c, ("0123456789/ -x\n" : Str).cps[J]? = some c := ⟨_, Array.getElem?_eq_getElem (show J < ("0123456789/ -x\n" : Str).cps.size by show J < ("0123456789/ -x\n" : Str).length; rw [hSl]; omega)⟩
        obtain ⟨sg, hsg, hsl⟩ : ∃ sg : Str, atI [V.str "", V.str ⟨#[c]⟩] (drawF (cell + (i : Int)) 3 2) = some (.str sg) ∧ sg.length ≤ 1 := by
          obtain h | h : drawF (cell + (i : Int)) 3 2 = 0 ∨ drawF (cell + (i : Int)) 3 2 = 1 := by omega
          · exact ⟨"", by rw [h]; exact atI_nat (j := 0) rfl, by decide⟩
          · exact ⟨⟨#[c]⟩, by rw [h]; exact atI_nat (j := 1) rfl, Nat.le_refl _⟩
        have cd : ∀ {σ : L2.St} {A : Hp} {t1 t2 : TE} {x y : Int}, Ev t1 σ A (.int x) → Ev t2 σ A (.int y) → Ev (tOp (rI0 fun i j => .int (i + j)) t1 t2) σ A (.int (x + y)) := fun h1 h2 => ev_op h1 h2 rv_I0
        refine q_asg (v := .str sg) (ev_opU1 (xs := [.str "", .str ⟨#[c]⟩]) (eu_tup (ea_cons ev_c (ea_cons (ev_op ev_c (ev_is (drawv (z := 15) (by decide) (cd (ev_var rfl) (ev_var rfl)) ev_c ev_c) (by rw [hJ])) (fun H8 e8 Q' q' => ⟨_, (J : Int), c, rfl, rfl, by omega, by omega, by rw [hSl]; omega, by rw [Int.toNat_natCast]; exact hc, q' H8 (Ex.refl _)⟩)) ea_nil)) (by show 2 ≤ 100000; decide)) (fun H8 e8 => drawv (z := 2) (by decide) (cd (ev_var rfl) (ev_var rfl)) ev_c ev_c) fun r H8 hr e8 => rv_ixT (st_of hr) hsg) fun H8 e8 => ?_
        have d4 := drawF_lt (c := cell + (i : Int)) (k := 4) (m := 2) (by decide)
        obtain ⟨B, hB⟩ : ∃ B : Nat, (A : Int) + drawF (cell + (i : Int)) 4 2 = (B : Int) ∧ A ≤ B := ⟨((A : Int) + drawF (cell + (i : Int)) 4 2).toNat, by omega, by omega⟩
        obtain ⟨g1, g2⟩ := changed (z := tx) (sg := sg) hB.2
        have lA : (cutS tx none (some (A : Int))).length ≤ tx.length := by
          have := cut_head tx A
          have e : (cutS tx none (some (A : Int))).cps.toList.length = (cutS tx none (some (A : Int))).length := Array.length_toList
          have e2 : tx.cps.toList.length = tx.length := Array.length_toList
          rw [this, List.length_take] at e
          omega
        rw [Str.length_append, Str.length_append] at g1
        refine s_when (b := false) (et_is (et_not (et_B (rt (z := (cutS tx none (some (A : Int)) ++ sg) ++ cutS tx (some (B : Int)) none) (by rw [Str.length_append, Str.length_append]; omega) (by omega) (ev_op (ev_op (ev_slS (ev_var rfl) eo_none (eo_some (ev_var rfl)) (by omega)) (ev_var rfl) (rv_addS (by rw [sizeLine_eq]; omega))) (ev_slS (ev_var rfl) (eo_some (ev_is (ev_op (ev_var rfl) (drawv (z := 2) (by decide) (cd (ev_var rfl) (ev_var rfl)) ev_c ev_c) rv_I0) (by rw [hB.1]))) eo_none (by omega)) (rv_addS (by rw [Str.length_append, sizeLine_eq]; omega)))))) rfl) (fun q => by cases q) fun _ H9 e9 => ⟨_, _, _, rfl, ((e'.trans e7).trans e8).trans e9⟩
      rintro σ' H7 ⟨v6, v7, v8, rfl, e7⟩
      -- few
      refine q_when (b := false) (et_is (et_not (et_B (b := true) (ev_cbL (el_lcNL (xs := (fewA ++ fewB ++ fewC ++ fewX ++ fewD ++ fewE).map V.str) (fun _ => true) (fun _ => .bl true) (fun H8 e8 Q' q' => ⟨rfl, fun r H9 nr e9 hr => q' r H9 nr e9 hr⟩) (by rw [List.length_map]; decide) (fun x => rfl) (fun j x H8 e8 hj => et_yes) fun j x H8 e8 hj _ => ?_) fun r H8 e8 hr => ?_))) rfl) (fun q => by cases q) fun _ H8 e8 => ?_
      · rw [List.getElem?_map] at hj
        cases hs : (fewA ++ fewB ++ fewC ++ fewX ++ fewD ++ fewE)[j]? with
        | none => rw [hs] at hj; cases hj
        | some y =>
          rw [hs] at hj
          obtain rfl := Option.some.inj hj
          have := few_fine y (List.mem_of_getElem? hs)
          exact rt this.1 this.2 (ev_var rfl)
      · rw [given_true] at hr
        have := rc_all (K := K) (sq_of hr)
        rw [all_true] at this
        exact this
      · refine s_ret (v := .bl true) (ev_cbL (el_lcD (R := fun A v (_ : Unit) => Odd5 K A v) (bs := [(), (), (), ()]) grow_odd (ar_cons (b := ()) grow_odd (er_v ev_c fun A _ => ⟨"NoneType", by unfold NonStr; decide, ty_non⟩) (ar_cons (b := ()) grow_odd (er_v ev_c fun A _ => ⟨"int", by unfold NonStr; decide, ty_int⟩) (ar_cons (b := ()) grow_odd (er_l (el_lst (ea_cons ev_c ea_nil) (by show 1 ≤ 100000; decide)) fun r A e hr => ⟨"list", by unfold NonStr; decide, ty_l hr⟩) (ar_cons (b := ()) grow_odd (er_v ev_c fun A _ => ⟨"bool", by unfold NonStr; decide, ty_bool⟩) ar_nil)))) (by show 4 ≤ 1000; decide) (fun x => rfl) fun x b H9 e9 ⟨n, hn, ty⟩ => ev_call (ea_cons (ev_var rfl) ea_nil) fun H10 e10 Q q E => ⟨x, rfl, .inl ⟨n, hn, ty.mono e10⟩, q⟩) fun r H9 e9 hr => ?_) fun H9 e9 => q H9
        have := rc_all (K := K) (bs := List.replicate 4 true) (sq_of hr)
        rw [all_true] at this
        exact this
    · obtain ⟨y, hy, rfl⟩ := tv_get hi
      have hti : (ths zs).getD i th0 = y.2 := by
        unfold ths
        rw [List.getD_eq_getElem?_getD, List.getElem?_map, hy]
        rfl
      rw [hti]
      exact eg_3 (ex_t e2 (hT.it y (List.mem_of_getElem? hy))) eg_name eg_name eg_name
    · obtain ⟨y, hy, rfl⟩ := tv_get hi
      have hti : (ths zs).getD i th0 = y.2 := by
        unfold ths
        rw [List.getD_eq_getElem?_getD, List.getElem?_map, hy]
        rfl
      have hm : y.2 ∈ ths zs := List.mem_map.mpr ⟨y, List.mem_of_getElem? hy, rfl⟩
      obtain ⟨n, sh⟩ := hts _ hm
      rw [hti, wTh_cat]
      have a1 := num_le n.1 sh.1
      have a2 := num_le n.2.1 sh.2.1
      have a3 := num_le n.2.2 sh.2.2
      have d : ("/" : Str).length = 1 := rfl
      exact ev_op (ev_op (ev_op (ev_op (ev_cb (ea_cons (ev_var rfl) ea_nil) (rc_strI (log_of n.1 sh.1))) ev_c (rv_addS (by rw [sizeLine_eq]; omega))) (ev_cb (ea_cons (ev_var rfl) ea_nil) (rc_strI (log_of n.2.1 sh.2.1))) (rv_addS (by rw [Str.length_append, sizeLine_eq]; omega))) ev_c (rv_addS (by rw [Str.length_append, Str.length_append, sizeLine_eq]; omega))) (ev_cb (ea_cons (ev_var rfl) ea_nil) (rc_strI (log_of n.2.2 sh.2.2))) (rv_addS (by rw [Str.length_append, Str.length_append, Str.length_append, sizeLine_eq]; omega))
end
end Bp
namespace Bp
open PySem L2 Evl
/-! ### what the top has written -/
set_option maxHeartbeats 4000000 in
theorem all_mk {t_N t_F : Tok} {l : PySem.W.OpenLaw} {w : World} {K : PySem.W.Frag} {h : Heap} {mg : Str → Option Value} {fa f_whole f_len f_thing f_ckT f_short f_ckS f_written f_wl f_readT f_read f_cell f_draw f_things f_number f_lin f_refused f_right f_few f_law C_B C_T C_O C_M C_X : Addr} (X : K.In h) (G : h.Ns mainGlobals mg) (hfa : mg "law" = some (.ref fa))
    {od_whole an_whole od_len an_len od_thing an_thing od_ckT an_ckT od_short an_short od_ckS an_ckS od_written an_written od_wl an_wl od_readT an_readT od_read an_read od_cell an_cell od_draw an_draw od_things an_things od_number an_number od_lin an_lin od_refused an_refused od_right an_right od_few an_few od_law an_law : Option Addr} {sl_whole sl_len sl_thing sl_ckT sl_short sl_ckS sl_written sl_wl sl_readT sl_read sl_cell sl_draw sl_things sl_number sl_lin sl_refused sl_right sl_few sl_law : Array (Option Value)} {oc_whole kV_whole dc_whole pm_whole cd_whole ct_whole oc_len kV_len dc_len pm_len cd_len ct_len oc_thing kV_thing dc_thing pm_thing cd_thing ct_thing oc_ckT kV_ckT dc_ckT pm_ckT cd_ckT ct_ckT oc_short kV_short dc_short pm_short cd_short ct_short oc_ckS kV_ckS dc_ckS pm_ckS cd_ckS ct_ckS oc_written kV_written dc_written pm_written cd_written ct_written oc_wl kV_wl dc_wl pm_wl cd_wl ct_wl oc_readT kV_readT dc_readT pm_readT cd_readT ct_readT oc_read kV_read dc_read pm_read cd_read ct_read oc_cell kV_cell dc_cell pm_cell cd_cell ct_cell oc_draw kV_draw dc_draw pm_draw cd_draw ct_draw oc_things kV_things dc_things pm_things cd_things ct_things oc_number kV_number dc_number pm_number cd_number ct_number oc_lin kV_lin dc_lin pm_lin cd_lin ct_lin oc_refused kV_refused dc_refused pm_refused cd_refused ct_refused oc_right kV_right dc_right pm_right cd_right ct_right oc_few kV_few dc_few pm_few cd_few ct_few oc_law kV_law dc_law pm_law cd_law ct_law : Value}
    (a_whole : PySem.W.nsIn K mainGlobals "is_whole" = some (some (.ref f_whole))) (l_whole : K.lookup f_whole = some ⟨oc_whole, od_whole, .func (PySem.W.fnOf "is_whole" "is_whole" (defArgs sWhole) (defBody sWhole) (defScope sWhole) .none kV_whole dc_whole pm_whole an_whole cd_whole ct_whole), sl_whole⟩) (c_whole : PySem.W.codeIn K cd_whole "is_whole" = true) (k_whole : PySem.W.keepIn K (.ref f_whole) = true)
    (a_len : PySem.W.nsIn K mainGlobals "is_length" = some (some (.ref f_len))) (l_len : K.lookup f_len = some ⟨oc_len, od_len, .func (PySem.W.fnOf "is_length" "is_length" (defArgs sLen) (defBody sLen) (defScope sLen) .none kV_len dc_len pm_len an_len cd_len ct_len), sl_len⟩) (c_len : PySem.W.codeIn K cd_len "is_length" = true) (k_len : PySem.W.keepIn K (.ref f_len) = true)
    (a_thing : PySem.W.nsIn K mainGlobals "is_thing" = some (some (.ref f_thing))) (l_thing : K.lookup f_thing = some ⟨oc_thing, od_thing, .func (PySem.W.fnOf "is_thing" "is_thing" (defArgs sThing) (defBody sThing) (defScope sThing) .none kV_thing dc_thing pm_thing an_thing cd_thing ct_thing), sl_thing⟩) (c_thing : PySem.W.codeIn K cd_thing "is_thing" = true) (k_thing : PySem.W.keepIn K (.ref f_thing) = true)
    (a_ckT : PySem.W.nsIn K mainGlobals "check_things" = some (some (.ref f_ckT))) (l_ckT : K.lookup f_ckT = some ⟨oc_ckT, od_ckT, .func (PySem.W.fnOf "check_things" "check_things" (defArgs sCkT) (defBody sCkT) (defScope sCkT) .none kV_ckT dc_ckT pm_ckT an_ckT cd_ckT ct_ckT), sl_ckT⟩) (c_ckT : PySem.W.codeIn K cd_ckT "check_things" = true) (k_ckT : PySem.W.keepIn K (.ref f_ckT) = true)
    (a_short : PySem.W.nsIn K mainGlobals "is_short" = some (some (.ref f_short))) (l_short : K.lookup f_short = some ⟨oc_short, od_short, .func (PySem.W.fnOf "is_short" "is_short" (defArgs sShort) (defBody sShort) (defScope sShort) .none kV_short dc_short pm_short an_short cd_short ct_short), sl_short⟩) (c_short : PySem.W.codeIn K cd_short "is_short" = true) (k_short : PySem.W.keepIn K (.ref f_short) = true)
    (a_ckS : PySem.W.nsIn K mainGlobals "check_short" = some (some (.ref f_ckS))) (l_ckS : K.lookup f_ckS = some ⟨oc_ckS, od_ckS, .func (PySem.W.fnOf "check_short" "check_short" (defArgs sCkS) (defBody sCkS) (defScope sCkS) .none kV_ckS dc_ckS pm_ckS an_ckS cd_ckS ct_ckS), sl_ckS⟩) (c_ckS : PySem.W.codeIn K cd_ckS "check_short" = true) (k_ckS : PySem.W.keepIn K (.ref f_ckS) = true)
    (a_written : PySem.W.nsIn K mainGlobals "written" = some (some (.ref f_written))) (l_written : K.lookup f_written = some ⟨oc_written, od_written, .func (PySem.W.fnOf "written" "written" (defArgs sWritten) (defBody sWritten) (defScope sWritten) .none kV_written dc_written pm_written an_written cd_written ct_written), sl_written⟩) (c_written : PySem.W.codeIn K cd_written "written" = true) (k_written : PySem.W.keepIn K (.ref f_written) = true)
    (a_wl : PySem.W.nsIn K mainGlobals "is_written_length" = some (some (.ref f_wl))) (l_wl : K.lookup f_wl = some ⟨oc_wl, od_wl, .func (PySem.W.fnOf "is_written_length" "is_written_length" (defArgs sIsWL) (defBody sIsWL) (defScope sIsWL) .none kV_wl dc_wl pm_wl an_wl cd_wl ct_wl), sl_wl⟩) (c_wl : PySem.W.codeIn K cd_wl "is_written_length" = true) (k_wl : PySem.W.keepIn K (.ref f_wl) = true)
    (a_readT : PySem.W.nsIn K mainGlobals "read_thing" = some (some (.ref f_readT))) (l_readT : K.lookup f_readT = some ⟨oc_readT, od_readT, .func (PySem.W.fnOf "read_thing" "read_thing" (defArgs sReadT) (defBody sReadT) (defScope sReadT) .none kV_readT dc_readT pm_readT an_readT cd_readT ct_readT), sl_readT⟩) (c_readT : PySem.W.codeIn K cd_readT "read_thing" = true) (k_readT : PySem.W.keepIn K (.ref f_readT) = true)
    (a_read : PySem.W.nsIn K mainGlobals "read" = some (some (.ref f_read))) (l_read : K.lookup f_read = some ⟨oc_read, od_read, .func (PySem.W.fnOf "read" "read" (defArgs sRead) (defBody sRead) (defScope sRead) .none kV_read dc_read pm_read an_read cd_read ct_read), sl_read⟩) (c_read : PySem.W.codeIn K cd_read "read" = true) (k_read : PySem.W.keepIn K (.ref f_read) = true)
    (a_cell : PySem.W.nsIn K mainGlobals "_law_cell_at" = some (some (.ref f_cell))) (l_cell : K.lookup f_cell = some ⟨oc_cell, od_cell, .func (PySem.W.fnOf "_law_cell_at" "_law_cell_at" (defArgs sCell) (defBody sCell) (defScope sCell) .none kV_cell dc_cell pm_cell an_cell cd_cell ct_cell), sl_cell⟩) (c_cell : PySem.W.codeIn K cd_cell "_law_cell_at" = true) (k_cell : PySem.W.keepIn K (.ref f_cell) = true)
    (a_draw : PySem.W.nsIn K mainGlobals "_law_draw" = some (some (.ref f_draw))) (l_draw : K.lookup f_draw = some ⟨oc_draw, od_draw, .func (PySem.W.fnOf "_law_draw" "_law_draw" (defArgs sDraw) (defBody sDraw) (defScope sDraw) .none kV_draw dc_draw pm_draw an_draw cd_draw ct_draw), sl_draw⟩) (c_draw : PySem.W.codeIn K cd_draw "_law_draw" = true) (k_draw : PySem.W.keepIn K (.ref f_draw) = true)
    (a_things : PySem.W.nsIn K mainGlobals "_law_things" = some (some (.ref f_things))) (l_things : K.lookup f_things = some ⟨oc_things, od_things, .func (PySem.W.fnOf "_law_things" "_law_things" (defArgs sThings) (defBody sThings) (defScope sThings) .none kV_things dc_things pm_things an_things cd_things ct_things), sl_things⟩) (c_things : PySem.W.codeIn K cd_things "_law_things" = true) (k_things : PySem.W.keepIn K (.ref f_things) = true)
    (a_number : PySem.W.nsIn K mainGlobals "_law_number" = some (some (.ref f_number))) (l_number : K.lookup f_number = some ⟨oc_number, od_number, .func (PySem.W.fnOf "_law_number" "_law_number" (defArgs sNumber) (defBody sNumber) (defScope sNumber) .none kV_number dc_number pm_number an_number cd_number ct_number), sl_number⟩) (c_number : PySem.W.codeIn K cd_number "_law_number" = true) (k_number : PySem.W.keepIn K (.ref f_number) = true)
    (a_lin : PySem.W.nsIn K mainGlobals "_law_in" = some (some (.ref f_lin))) (l_lin : K.lookup f_lin = some ⟨oc_lin, od_lin, .func (PySem.W.fnOf "_law_in" "_law_in" (defArgs sIn) (defBody sIn) (defScope sIn) .none kV_lin dc_lin pm_lin an_lin cd_lin ct_lin), sl_lin⟩) (c_lin : PySem.W.codeIn K cd_lin "_law_in" = true) (k_lin : PySem.W.keepIn K (.ref f_lin) = true)
    (a_refused : PySem.W.nsIn K mainGlobals "_law_refused" = some (some (.ref f_refused))) (l_refused : K.lookup f_refused = some ⟨oc_refused, od_refused, .func (PySem.W.fnOf "_law_refused" "_law_refused" (defArgs sRefused) (defBody sRefused) (defScope sRefused) .none kV_refused dc_refused pm_refused an_refused cd_refused ct_refused), sl_refused⟩) (c_refused : PySem.W.codeIn K cd_refused "_law_refused" = true) (k_refused : PySem.W.keepIn K (.ref f_refused) = true)
    (a_right : PySem.W.nsIn K mainGlobals "_law_right" = some (some (.ref f_right))) (l_right : K.lookup f_right = some ⟨oc_right, od_right, .func (PySem.W.fnOf "_law_right" "_law_right" (defArgs sRight) (defBody sRight) (defScope sRight) .none kV_right dc_right pm_right an_right cd_right ct_right), sl_right⟩) (c_right : PySem.W.codeIn K cd_right "_law_right" = true) (k_right : PySem.W.keepIn K (.ref f_right) = true)
    (a_few : PySem.W.nsIn K mainGlobals "_law_few" = some (some (.ref f_few))) (l_few : K.lookup f_few = some ⟨oc_few, od_few, .func (PySem.W.fnOf "_law_few" "_law_few" (defArgs sFew) (defBody sFew) (defScope sFew) .none kV_few dc_few pm_few an_few cd_few ct_few), sl_few⟩) (c_few : PySem.W.codeIn K cd_few "_law_few" = true) (k_few : PySem.W.keepIn K (.ref f_few) = true)
    (a_law : PySem.W.nsIn K mainGlobals "law" = some (some (.ref f_law))) (l_law : K.lookup f_law = some ⟨oc_law, od_law, .func (PySem.W.fnOf "law" "law" (defArgs sLaw) (defBody sLaw) (defScope sLaw) .none kV_law dc_law pm_law an_law cd_law ct_law), sl_law⟩) (c_law : PySem.W.codeIn K cd_law "law" = true) (k_law : PySem.W.keepIn K (.ref f_law) = true)
    (g_B : PySem.W.nsIn K mainGlobals "BenchError" = some (some (.ref C_B)))
    (g_T : PySem.W.nsIn K mainGlobals "BadThings" = some (some (.ref C_T)))
    (g_O : PySem.W.nsIn K mainGlobals "BadOrder" = some (some (.ref C_O)))
    (g_M : PySem.W.nsIn K mainGlobals "BadTime" = some (some (.ref C_M)))
    (g_X : PySem.W.nsIn K mainGlobals "BadText" = some (some (.ref C_X)))
    (xq_T : PySem.W.excIn K C_T [.type "ValueError", .type "Exception", .type "BaseException", .type "object"] "ValueError.__new__" = true)
    (kp_T : PySem.W.keepIn K (.ref C_T) = true)
    (xq_X : PySem.W.excIn K C_X [.type "ValueError", .type "Exception", .type "BaseException", .type "object"] "ValueError.__new__" = true)
    (kp_X : PySem.W.keepIn K (.ref C_X) = true)
    (ga_X : PySem.W.findIn K (.ref C_X) "__getattribute__" = some (some (.builtin "BaseException.__getattribute__")))
    (gg_X : PySem.W.findIn K (.ref C_X) "__getattr__" = some none)
    (ha_X : PySem.W.findIn K (.ref C_X) "__class__" = some (some (.builtin "object.__class__")))
    (hm_X : PySem.W.mroIn K C_X (.type "object") = some true)
    (sv_X : PySem.W.subIn K (.ref C_X) (.type "ValueError") = some true)
    (sb_X_B : PySem.W.subIn K (.ref C_X) (.ref C_B) = some true)
    (bx_T : PySem.W.subIn K (.ref C_T) (.type "BaseException") = some true)
    (hd_T : PySem.W.hasDictIn K C_T = true)
    (ty_T : PySem.W.typeIn K (.ref C_T) = some (.type "type"))
    (bx_X : PySem.W.subIn K (.ref C_X) (.type "BaseException") = some true)
    (hd_X : PySem.W.hasDictIn K C_X = true)
    (ty_X : PySem.W.typeIn K (.ref C_X) = some (.type "type"))
    (bx_B : PySem.W.subIn K (.ref C_B) (.type "BaseException") = some true)
    (hd_B : PySem.W.hasDictIn K C_B = true)
    (ty_B : PySem.W.typeIn K (.ref C_B) = some (.type "type"))
    (sb_X_T : PySem.W.subIn K (.ref C_X) (.ref C_T) = some false)
    (ic_T : PySem.W.isClsIn K C_T = true)
    (sb_X_X : PySem.W.subIn K (.ref C_X) (.ref C_X) = some true)
    (sb_X_O : PySem.W.subIn K (.ref C_X) (.ref C_O) = some false)
    (ic_O : PySem.W.isClsIn K C_O = true)
    (ty_O : PySem.W.typeIn K (.ref C_O) = some (.type "type"))
    (sb_X_M : PySem.W.subIn K (.ref C_X) (.ref C_M) = some false)
    (ic_M : PySem.W.isClsIn K C_M = true)
    (ty_M : PySem.W.typeIn K (.ref C_M) = some (.type "type"))
    (ic_X : PySem.W.isClsIn K C_X = true)
    (hn : PySem.W.specialIn K (.builtin "object.__class__") "__get__" = some (some (.builtin "getset_descriptor.__get__")))
    (htk : PySem.W.takesIn K (.builtin "object.__class__") = some true)
    (a_N : PySem.W.nsIn K mainGlobals "NOTHING" = some (some (.str "-" t_N)))
    (a_F : PySem.W.nsIn K mainGlobals "FIGURES" = some (some (.str "0123456789" t_F)))
    (z_isi : PySem.W.nsIn K mainGlobals "isinstance" = some none)
    (z_int : PySem.W.nsIn K mainGlobals "int" = some none)
    (z_bool : PySem.W.nsIn K mainGlobals "bool" = some none)
    (z_tuple : PySem.W.nsIn K mainGlobals "tuple" = some none)
    (z_len : PySem.W.nsIn K mainGlobals "len" = some none)
    (z_all : PySem.W.nsIn K mainGlobals "all" = some none)
    (z_list : PySem.W.nsIn K mainGlobals "list" = some none)
    (z_enum : PySem.W.nsIn K mainGlobals "enumerate" = some none)
    (z_range : PySem.W.nsIn K mainGlobals "range" = some none)
    (z_str : PySem.W.nsIn K mainGlobals "str" = some none)
    (z_verr : PySem.W.nsIn K mainGlobals "ValueError" = some none)
    (z_any : PySem.W.nsIn K mainGlobals "any" = some none)
    : ∃ fd : FuncData, (∀ (s : Shared) (v : Value), BindsTo s fd ⟨[v], []⟩ [("_law_script", v)]) ∧ ∀ base : Heap, K.In base → base.Ns mainGlobals mg → FnOk l.prog w K mg base CX0 7 fa fd ["_law_script"] (spLaw K) := by
  have e := hfa.symm.trans (PySem.W.mg_of X G a_law)
  cases e
  have F_whole := fun_mk (st := sWhole) l_whole c_whole k_whole
  have b_whole := F_whole.binds (ps := ["value"]) fun _ _ _ _ _ _ us hl => match us, hl with | [_], _ => rfl
  have m_whole := PySem.W.mg_of X G a_whole
  have F_len := fun_mk (st := sLen) l_len c_len k_len
  have b_len := F_len.binds (ps := ["value"]) fun _ _ _ _ _ _ us hl => match us, hl with | [_], _ => rfl
  have m_len := PySem.W.mg_of X G a_len
  have F_thing := fun_mk (st := sThing) l_thing c_thing k_thing
  have b_thing := F_thing.binds (ps := ["value"]) fun _ _ _ _ _ _ us hl => match us, hl with | [_], _ => rfl
  have m_thing := PySem.W.mg_of X G a_thing
  have F_ckT := fun_mk (st := sCkT) l_ckT c_ckT k_ckT
  have b_ckT := F_ckT.binds (ps := ["things"]) fun _ _ _ _ _ _ us hl => match us, hl with | [_], _ => rfl
  have m_ckT := PySem.W.mg_of X G a_ckT
  have F_short := fun_mk (st := sShort) l_short c_short k_short
  have b_short := F_short.binds (ps := ["length"]) fun _ _ _ _ _ _ us hl => match us, hl with | [_], _ => rfl
  have m_short := PySem.W.mg_of X G a_short
  have F_ckS := fun_mk (st := sCkS) l_ckS c_ckS k_ckS
  have b_ckS := F_ckS.binds (ps := ["things"]) fun _ _ _ _ _ _ us hl => match us, hl with | [_], _ => rfl
  have m_ckS := PySem.W.mg_of X G a_ckS
  have F_written := fun_mk (st := sWritten) l_written c_written k_written
  have b_written := F_written.binds (ps := ["things"]) fun _ _ _ _ _ _ us hl => match us, hl with | [_], _ => rfl
  have m_written := PySem.W.mg_of X G a_written
  have F_wl := fun_mk (st := sIsWL) l_wl c_wl k_wl
  have b_wl := F_wl.binds (ps := ["part"]) fun _ _ _ _ _ _ us hl => match us, hl with | [_], _ => rfl
  have m_wl := PySem.W.mg_of X G a_wl
  have F_readT := fun_mk (st := sReadT) l_readT c_readT k_readT
  have b_readT := F_readT.binds (ps := ["word"]) fun _ _ _ _ _ _ us hl => match us, hl with | [_], _ => rfl
  have m_readT := PySem.W.mg_of X G a_readT
  have F_read := fun_mk (st := sRead) l_read c_read k_read
  have b_read := F_read.binds (ps := ["text"]) fun _ _ _ _ _ _ us hl => match us, hl with | [_], _ => rfl
  have m_read := PySem.W.mg_of X G a_read
  have F_cell := fun_mk (st := sCell) l_cell c_cell k_cell
  have b_cell := F_cell.binds (ps := ["_law_script", "_law_k"]) fun _ _ _ _ _ _ us hl => match us, hl with | [_, _], _ => rfl
  have m_cell := PySem.W.mg_of X G a_cell
  have F_draw := fun_mk (st := sDraw) l_draw c_draw k_draw
  have b_draw := F_draw.binds (ps := ["_law_cell", "_law_k", "_law_many"]) fun _ _ _ _ _ _ us hl => match us, hl with | [_, _, _], _ => rfl
  have m_draw := PySem.W.mg_of X G a_draw
  have F_things := fun_mk (st := sThings) l_things c_things k_things
  have b_things := F_things.binds (ps := ["_law_script"]) fun _ _ _ _ _ _ us hl => match us, hl with | [_], _ => rfl
  have m_things := PySem.W.mg_of X G a_things
  have F_number := fun_mk (st := sNumber) l_number c_number k_number
  have b_number := F_number.binds (ps := ["_law_text"]) fun _ _ _ _ _ _ us hl => match us, hl with | [_], _ => rfl
  have m_number := PySem.W.mg_of X G a_number
  have F_lin := fun_mk (st := sIn) l_lin c_lin k_lin
  have b_lin := F_lin.binds (ps := ["_law_text"]) fun _ _ _ _ _ _ us hl => match us, hl with | [_], _ => rfl
  have m_lin := PySem.W.mg_of X G a_lin
  have F_refused := fun_mk (st := sRefused) l_refused c_refused k_refused
  have b_refused := F_refused.binds (ps := ["_law_text"]) fun _ _ _ _ _ _ us hl => match us, hl with | [_], _ => rfl
  have m_refused := PySem.W.mg_of X G a_refused
  have F_right := fun_mk (st := sRight) l_right c_right k_right
  have b_right := F_right.binds (ps := ["_law_text"]) fun _ _ _ _ _ _ us hl => match us, hl with | [_], _ => rfl
  have m_right := PySem.W.mg_of X G a_right
  have F_few := fun_mk (st := sFew) l_few c_few k_few
  have b_few := F_few.binds (ps := []) fun _ _ _ _ _ _ us hl => match us, hl with | [], _ => rfl
  have m_few := PySem.W.mg_of X G a_few
  have F_law := fun_mk (st := sLaw) l_law c_law k_law
  have m_law := PySem.W.mg_of X G a_law
  have mg_B := PySem.W.mg_of X G g_B
  have mg_T := PySem.W.mg_of X G g_T
  have mg_O := PySem.W.mg_of X G g_O
  have mg_M := PySem.W.mg_of X G g_M
  have mg_X := PySem.W.mg_of X G g_X
  have Z_isi := PySem.W.mg_none_of X G z_isi
  have Z_int := PySem.W.mg_none_of X G z_int
  have Z_bool := PySem.W.mg_none_of X G z_bool
  have Z_tuple := PySem.W.mg_none_of X G z_tuple
  have Z_len := PySem.W.mg_none_of X G z_len
  have Z_all := PySem.W.mg_none_of X G z_all
  have Z_list := PySem.W.mg_none_of X G z_list
  have Z_enum := PySem.W.mg_none_of X G z_enum
  have Z_range := PySem.W.mg_none_of X G z_range
  have Z_str := PySem.W.mg_none_of X G z_str
  have Z_verr := PySem.W.mg_none_of X G z_verr
  have Z_any := PySem.W.mg_none_of X G z_any
  have T : Bn mg := ⟨Z_isi, Z_int, Z_bool, Z_tuple, Z_len, Z_all, Z_list, Z_enum, Z_range, Z_str, Z_verr⟩
  refine ⟨PySem.W.fnOf "law" "law" (defArgs sLaw) (defBody sLaw) (defScope sLaw) .none kV_law dc_law pm_law an_law cd_law ct_law, fun s v => .of_eq rfl, fun base _ _ => ?_⟩
  have X_T : XC K mg "BadThings" C_T := ⟨mg_T, xq_T, kp_T, bx_T, ty_T⟩
  have X_X : XC K mg "BadText" C_X := ⟨mg_X, xq_X, kp_X, bx_X, ty_X⟩
  have G_whole : FnOk l.prog w K mg base CX0 1 _ _ _ _ := ok_whole F_whole T
  have G_len : FnOk l.prog w K mg base CX0 2 _ _ _ _ := ok_len F_len T m_whole F_whole b_whole
  have G_thing : FnOk l.prog w K mg base CX0 3 _ _ _ _ := ok_thing F_thing T m_len F_len b_len G_len
  have G_ckT : FnOk l.prog w K mg base (L2N.CX l.prog w) 4 _ _ _ _ := ok_ckT F_ckT T X_T m_thing F_thing b_thing G_thing
  have G_ckS : FnOk l.prog w K mg base (L2N.CX l.prog w) 2 _ _ _ _ := ok_ckS F_ckS T X_T m_short F_short b_short
  have Kk : Chk l.prog w K mg base _ _ C_T _ _ := ⟨m_ckT, k_ckT, b_ckT, G_ckT, m_ckS, k_ckS, b_ckS, G_ckS⟩
  have G_written : FnOk l.prog w K mg base (L2N.CX l.prog w) 5 _ _ _ _ := ok_written F_written T (PySem.W.mg_of X G a_N) ⟨_, rfl⟩ Kk
  have G_wl : FnOk l.prog w K mg base CX0 1 _ _ _ _ := ok_wl F_wl T (PySem.W.mg_of X G a_F) ⟨_, rfl⟩
  have G_readT : FnOk l.prog w K mg base (L2N.CX l.prog w) 2 _ _ _ _ := ok_readT F_readT T Z_int X_X m_wl k_wl b_wl G_wl
  have G_read : FnOk l.prog w K mg base (L2N.CX l.prog w) 3 _ _ _ _ := ok_read F_read T (PySem.W.mg_of X G a_N) ⟨_, rfl⟩ X_X m_readT k_readT b_readT G_readT
  have N_X : KndX K C_T C_O C_M C_X C_B := ⟨⟨ga_X, gg_X, bx_X, hd_X, ha_X, hn, htk, hm_X⟩, kit_one sb_X_T ic_T ty_T sb_X_X, kit_one sb_X_O ic_O ty_O sb_X_X, kit_one sb_X_M ic_M ty_M sb_X_X, kit_one sb_X_X ic_X ty_X sb_X_X, kit_val sv_X, PySem.W.exm_ref bx_B hd_B ty_B sb_X_B⟩
  have G_cell : FnOk l.prog w K mg base CX0 1 _ _ _ _ := ok_cell F_cell T
  have G_draw : FnOk l.prog w K mg base CX0 1 _ _ _ _ := ok_draw F_draw
  have G_things : FnOk l.prog w K mg base CX0 2 _ _ _ _ := ok_things F_things T m_cell F_cell b_cell G_cell m_draw F_draw b_draw G_draw
  have G_number : FnOk l.prog w K mg base CX0 1 _ _ _ _ := ok_number F_number T
  have G_lin : FnOk l.prog w K mg base CX0 2 _ _ _ _ := ok_in F_lin T m_number k_number b_number G_number
  have G_refused : FnOk l.prog w K mg base CX0 4 _ _ _ _ := ok_refused F_refused T Z_any N_X mg_T mg_O mg_M mg_X mg_B m_read k_read b_read G_read
  have G_right : FnOk l.prog w K mg base CX0 6 _ _ _ _ := ok_right F_right T m_lin k_lin b_lin G_lin m_refused k_refused b_refused G_refused m_read k_read b_read G_read m_written k_written b_written G_written
  have G_few : FnOk l.prog w K mg base CX0 1 _ _ _ _ := ok_few F_few
  exact ok_law5 F_law T ⟨m_cell, k_cell, b_cell, G_cell, m_draw, k_draw, b_draw, G_draw, m_things, k_things, b_things, G_things, m_refused, k_refused, b_refused, G_refused, m_right, k_right, b_right, G_right, m_written, k_written, b_written, G_written, m_few, k_few, b_few, G_few⟩
end Bp
open PySem PySem.W PyProof.Rows
set_option maxRecDepth 100000 in
set_option maxHeartbeats 0 in
theorem PySem.Challenge.cw_benchpair_k05_written_holds : PySem.Challenge.rw_benchpair_k05_written.Holds := by
  w_on; o_law; k_head; (case hw => w_witness2)
  k_fill
  refine L2.walk_of (l := PySem.Challenge.rw_benchpair_k05_written) (n := 63) (k := 7) (x := "_law_script") (CX := fun w => L2.CX0) (sp := fun w => Bp.spLaw _) rfl (by decide) rfl ⟨rfl, by decide, by decide⟩ (fun w h Y => PySem.W.kIn_of Y) ?F (fun _ _ a ns hl _ hS => ⟨a, ns, rfl, hS, hl, fun _ => rfl⟩) (fun _ _ _ _ _ h => h)
  case F =>
    intro w mg fa h KX G hmg
    refine' Bp.all_mk KX G hmg ?a_whole ?l_whole ?c_whole ?k_whole ?a_len ?l_len ?c_len ?k_len ?a_thing ?l_thing ?c_thing ?k_thing ?a_ckT ?l_ckT ?c_ckT ?k_ckT ?a_short ?l_short ?c_short ?k_short ?a_ckS ?l_ckS ?c_ckS ?k_ckS ?a_written ?l_written ?c_written ?k_written ?a_wl ?l_wl ?c_wl ?k_wl ?a_readT ?l_readT ?c_readT ?k_readT ?a_read ?l_read ?c_read ?k_read ?a_cell ?l_cell ?c_cell ?k_cell ?a_draw ?l_draw ?c_draw ?k_draw ?a_things ?l_things ?c_things ?k_things ?a_number ?l_number ?c_number ?k_number ?a_lin ?l_lin ?c_lin ?k_lin ?a_refused ?l_refused ?c_refused ?k_refused ?a_right ?l_right ?c_right ?k_right ?a_few ?l_few ?c_few ?k_few ?a_law ?l_law ?c_law ?k_law ?g_B ?g_T ?g_O ?g_M ?g_X ?xq_T ?kp_T ?xq_X ?kp_X ?ga_X ?gg_X ?ha_X ?hm_X ?sv_X ?sb_X_B ?bx_T ?hd_T ?ty_T ?bx_X ?hd_X ?ty_X ?bx_B ?hd_B ?ty_B ?sb_X_T ?ic_T ?sb_X_X ?sb_X_O ?ic_O ?ty_O ?sb_X_M ?ic_M ?ty_M ?ic_X ?hn ?htk ?a_N ?a_F ?z_isi ?z_int ?z_bool ?z_tuple ?z_len ?z_all ?z_list ?z_enum ?z_range ?z_str ?z_verr ?z_any
    (case a_whole => k_is)
    (case l_whole => k_is)
    (case c_whole => k_is)
    (case k_whole => k_is)
    (case a_len => k_is)
    (case l_len => k_is)
    (case c_len => k_is)
    (case k_len => k_is)
    (case a_thing => k_is)
    (case l_thing => k_is)
    (case c_thing => k_is)
    (case k_thing => k_is)
    (case a_ckT => k_is)
    (case l_ckT => k_is)
    (case c_ckT => k_is)
    (case k_ckT => k_is)
    (case a_short => k_is)
    (case l_short => k_is)
    (case c_short => k_is)
    (case k_short => k_is)
    (case a_ckS => k_is)
    (case l_ckS => k_is)
    (case c_ckS => k_is)
    (case k_ckS => k_is)
    (case a_written => k_is)
    (case l_written => k_is)
    (case c_written => k_is)
    (case k_written => k_is)
    (case a_wl => k_is)
    (case l_wl => k_is)
    (case c_wl => k_is)
    (case k_wl => k_is)
    (case a_readT => k_is)
    (case l_readT => k_is)
    (case c_readT => k_is)
    (case k_readT => k_is)
    (case a_read => k_is)
    (case l_read => k_is)
    (case c_read => k_is)
    (case k_read => k_is)
    (case a_cell => k_is)
    (case l_cell => k_is)
    (case c_cell => k_is)
    (case k_cell => k_is)
    (case a_draw => k_is)
    (case l_draw => k_is)
    (case c_draw => k_is)
    (case k_draw => k_is)
    (case a_things => k_is)
    (case l_things => k_is)
    (case c_things => k_is)
    (case k_things => k_is)
    (case a_number => k_is)
    (case l_number => k_is)
    (case c_number => k_is)
    (case k_number => k_is)
    (case a_lin => k_is)
    (case l_lin => k_is)
    (case c_lin => k_is)
    (case k_lin => k_is)
    (case a_refused => k_is)
    (case l_refused => k_is)
    (case c_refused => k_is)
    (case k_refused => k_is)
    (case a_right => k_is)
    (case l_right => k_is)
    (case c_right => k_is)
    (case k_right => k_is)
    (case a_few => k_is)
    (case l_few => k_is)
    (case c_few => k_is)
    (case k_few => k_is)
    (case a_law => k_is)
    (case l_law => k_is)
    (case c_law => k_is)
    (case k_law => k_is)
    (case g_B => k_is)
    (case g_T => k_is)
    (case g_O => k_is)
    (case g_M => k_is)
    (case g_X => k_is)
    (case xq_T => k_exc)
    (case kp_T => k_is)
    (case xq_X => k_exc)
    (case kp_X => k_is)
    (case ga_X => k_is)
    (case gg_X => k_is)
    (case ha_X => k_is)
    (case hm_X => k_is)
    (case sv_X => k_is)
    (case sb_X_B => k_is)
    (case bx_T => k_is)
    (case hd_T => k_is)
    (case ty_T => k_is)
    (case bx_X => k_is)
    (case hd_X => k_is)
    (case ty_X => k_is)
    (case bx_B => k_is)
    (case hd_B => k_is)
    (case ty_B => k_is)
    (case sb_X_T => k_is)
    (case ic_T => k_is)
    (case sb_X_X => k_is)
    (case sb_X_O => k_is)
    (case ic_O => k_is)
    (case ty_O => k_is)
    (case sb_X_M => k_is)
    (case ic_M => k_is)
    (case ty_M => k_is)
    (case ic_X => k_is)
    (case hn => k_is)
    (case htk => k_is)
    (case a_N => k_is)
    (case a_F => k_is)
    (case z_isi => k_is)
    (case z_int => k_is)
    (case z_bool => k_is)
    (case z_tuple => k_is)
    (case z_len => k_is)
    (case z_all => k_is)
    (case z_list => k_is)
    (case z_enum => k_is)
    (case z_range => k_is)
    (case z_str => k_is)
    (case z_verr => k_is)
    (case z_any => k_is)
