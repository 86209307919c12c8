import PyProof.Rows.All
import Wide.All
import OpenK.AllK
import Wide.FinOn
import HandS.Base
import HandS.Call
import HandS.List
import HandS.Comp
import HandS.Ends
import HandS.Dict
import HandS.Iter
import HandS.Text
import HandS.Words
import HandS.WordsList
import HandS.IsInst
import HandS.Conv
import HandS.Style
import HandS.Wide
import HandS.More
import HandS.Walk
import HandS.Evl
import PySem.Challenge.RW_benchpair_k03_times
set_option Elab.async false
set_option linter.all false
set_option maxRecDepth 100000
set_option autoImplicit false
namespace Bp
/-- a thing: on bench 1, drying, on bench 2 -/
abbrev Th := Int × Int × Int
def Nn (t : Th) : Prop := 0 ≤ t.1 ∧ 0 ≤ t.2.1 ∧ 0 ≤ t.2.2
def th0 : Th := (0, 0, 0)
def turn (t : Th) : Th := (t.2.2, t.2.1, t.1)
def path (ts : List Th) (o : List Nat) : List Th := o.map fun c => ts.getD c th0
def A : List Th → Int
  | [] => 0
  | t :: r => t.1 + A r
def B : List Th → Int
  | [] => 0
  | t :: r => t.2.2 + B r
/-- the longest of all ways -/
def W : List Th → Int
  | [] => 0
  | t :: r => max (t.1 + t.2.1 + t.2.2 + B r) (t.1 + W r)
def mk2 : List Th → Int → Int → Int
  | [], _, g => g
  | t :: r, f, g => mk2 r (f + t.1) (max (f + t.1 + t.2.1) g + t.2.2)
theorem Nn.of_cons {t : Th} {r : List Th} (h : ∀ x ∈ t :: r, Nn x) : Nn t ∧ ∀ x ∈ r, Nn x :=
  ⟨h t List.mem_cons_self, fun x hx => h x (List.mem_cons_of_mem _ hx)⟩
theorem W_nn : ∀ {l : List Th}, (∀ x ∈ l, Nn x) → 0 ≤ B l ∧ 0 ≤ A l ∧ 0 ≤ W l ∧ B l ≤ W l
  | [], _ => ⟨Int.le_refl _, Int.le_refl _, Int.le_refl _, Int.le_refl _⟩
  | t :: r, h => by
    obtain ⟨⟨h1, h2, h3⟩, hr⟩ := Nn.of_cons h
    obtain ⟨i1, i2, i3, i4⟩ := W_nn hr
    show 0 ≤ t.2.2 + B r ∧ 0 ≤ t.1 + A r ∧ 0 ≤ max (t.1 + t.2.1 + t.2.2 + B r) (t.1 + W r) ∧ t.2.2 + B r ≤ max (t.1 + t.2.1 + t.2.2 + B r) (t.1 + W r)
    omega
theorem mk2_eq : ∀ (l : List Th) (f g : Int), (∀ x ∈ l, Nn x) → f ≤ g → mk2 l f g = max (g + B l) (f + W l)
  | [], f, g, _, hfg => by
    show g = max (g + 0) (f + 0)
    omega
  | t :: r, f, g, h, hfg => by
    obtain ⟨⟨h1, h2, h3⟩, hr⟩ := Nn.of_cons h
    have ih := mk2_eq r (f + t.1) (max (f + t.1 + t.2.1) g + t.2.2) hr (by omega)
    show mk2 r (f + t.1) (max (f + t.1 + t.2.1) g + t.2.2) = max (g + (t.2.2 + B r)) (f + max (t.1 + t.2.1 + t.2.2 + B r) (t.1 + W r))
    rw [ih]
    omega
theorem mk2_W {l : List Th} (h : ∀ x ∈ l, Nn x) : mk2 l 0 0 = W l := by
  rw [mk2_eq l 0 0 h (Int.le_refl _)]
  have := W_nn h
  omega
/-- the law's own reckoning -/
def ldS (s : Int × Int × Int) (t : Th) : Int × Int × Int := (s.1 + t.1, s.2.1 - t.2.2, max s.2.2 (s.1 + t.1 + t.2.1 + s.2.1))
theorem ld_eq : ∀ (l : List Th) (ah fo : Int), (∀ x ∈ l, Nn x) → ah ≤ fo → (l.foldl ldS (ah, B l, fo)).2.2 = max fo (ah + W l)
  | [], ah, fo, _, hfg => by
    show fo = max fo (ah + 0)
    omega
  | t :: r, ah, fo, h, hfg => by
    obtain ⟨⟨h1, h2, h3⟩, hr⟩ := Nn.of_cons h
    have hn := W_nn hr
    have ih := ld_eq r (ah + t.1) (max fo (ah + t.1 + t.2.1 + (t.2.2 + B r))) hr (by omega)
    show (r.foldl ldS (ah + t.1, t.2.2 + B r - t.2.2, max fo (ah + t.1 + t.2.1 + (t.2.2 + B r)))).2.2 = max fo (ah + max (t.1 + t.2.1 + t.2.2 + B r) (t.1 + W r))
    rw [show t.2.2 + B r - t.2.2 = B r by omega, ih]
    omega
theorem ld_W {l : List Th} (h : ∀ x ∈ l, Nn x) : (l.foldl ldS (0, B l, 0)).2.2 = W l := by
  rw [ld_eq l 0 0 h (Int.le_refl _)]
  have := W_nn h
  omega
theorem B_append (l m : List Th) : B (l ++ m) = B l + B m := by
  induction l with
  | nil => show B m = 0 + B m; omega
  | cons t r ih => show t.2.2 + B (r ++ m) = t.2.2 + B r + B m; rw [ih]; omega
theorem A_append (l m : List Th) : A (l ++ m) = A l + A m := by
  induction l with
  | nil => show A m = 0 + A m; omega
  | cons t r ih => show t.1 + A (r ++ m) = t.1 + A r + A m; rw [ih]; omega
theorem B_sum (l : List Th) : B l = (l.map fun t => t.2.2).sum := by
  induction l with
  | nil => rfl
  | cons t r ih => rw [List.map_cons, List.sum_cons, ← ih]; rfl
theorem W_snoc : ∀ (l : List Th) (t : Th), (∀ x ∈ l, Nn x) → Nn t → W (l ++ [t]) = max (W l + t.2.2) (A l + t.1 + t.2.1 + t.2.2)
  | [], t, _, ⟨h1, h2, h3⟩ => by
    show max (t.1 + t.2.1 + t.2.2 + 0) (t.1 + 0) = max (0 + t.2.2) (0 + t.1 + t.2.1 + t.2.2)
    omega
  | s :: r, t, h, ht => by
    obtain ⟨⟨h1, h2, h3⟩, hr⟩ := Nn.of_cons h
    have ih := W_snoc r t hr ht
    show max (s.1 + s.2.1 + s.2.2 + B (r ++ [t])) (s.1 + W (r ++ [t])) = max (max (s.1 + s.2.1 + s.2.2 + B r) (s.1 + W r) + t.2.2) (s.1 + A r + t.1 + t.2.1 + t.2.2)
    rw [ih, B_append, show B [t] = t.2.2 + 0 from rfl]
    omega
theorem Nn.turn {t : Th} (h : Nn t) : Nn (Bp.turn t) := ⟨h.2.2, h.2.1, h.1⟩
theorem A_turn_rev (l : List Th) : A (l.map turn).reverse = B l := by
  induction l with
  | nil => rfl
  | cons t r ih =>
    rw [List.map_cons, List.reverse_cons, A_append, ih]
    show B r + (t.2.2 + 0) = t.2.2 + B r
    omega
theorem W_turn : ∀ (l : List Th), (∀ x ∈ l, Nn x) → W (l.map turn).reverse = W l
  | [], _ => rfl
  | t :: r, h => by
    obtain ⟨ht, hr⟩ := Nn.of_cons h
    rw [List.map_cons, List.reverse_cons, W_snoc _ _ (fun x hx => by
      obtain ⟨y, hy, rfl⟩ := List.mem_map.mp (List.mem_reverse.mp hx)
      exact (hr y hy).turn) ht.turn, W_turn r hr, A_turn_rev]
    show max (W r + t.1) (B r + t.2.2 + t.2.1 + t.1) = max (t.1 + t.2.1 + t.2.2 + B r) (t.1 + W r)
    omega
theorem W_sub {l m : List Th} (s : l.Sublist m) : (∀ x ∈ m, Nn x) → W l ≤ W m ∧ B l ≤ B m := by
  induction s with
  | slnil => intro _; exact ⟨Int.le_refl _, Int.le_refl _⟩
  | @cons l m t s ih =>
    intro h
    obtain ⟨⟨h1, h2, h3⟩, hr⟩ := Nn.of_cons h
    obtain ⟨i1, i2⟩ := ih hr
    show W l ≤ max (t.1 + t.2.1 + t.2.2 + B m) (t.1 + W m) ∧ B l ≤ t.2.2 + B m
    omega
  | @cons_cons l m t s ih =>
    intro h
    obtain ⟨⟨h1, h2, h3⟩, hr⟩ := Nn.of_cons h
    obtain ⟨i1, i2⟩ := ih hr
    show max (t.1 + t.2.1 + t.2.2 + B l) (t.1 + W l) ≤ max (t.1 + t.2.1 + t.2.2 + B m) (t.1 + W m) ∧ t.2.2 + B l ≤ t.2.2 + B m
    omega
end Bp
set_option autoImplicit false
namespace Bp
/-- a fold over the first i -/
theorem fold_more {α β : Type} {f : β → α → β} {b : β} {l : List α} {i : Nat} {x : α} (h : l[i]? = some x) : (l.take (i + 1)).foldl f b = f ((l.take i).foldl f b) x := by
  rw [List.take_add_one, h, List.foldl_append]
  rfl
/-- an order of n things -/
def Ord (n : Nat) (o : List Nat) : Prop := o.Perm (List.range n)
theorem Ord.len {n : Nat} {o : List Nat} (h : Ord n o) : o.length = n := by
  have := h.length_eq
  rwa [List.length_range] at this
theorem Ord.nd {n : Nat} {o : List Nat} (h : Ord n o) : o.Nodup := h.nodup_iff.mpr List.nodup_range
theorem Ord.lt {n : Nat} {o : List Nat} (h : Ord n o) {c : Nat} (hc : c ∈ o) : c < n := List.mem_range.mp (h.mem_iff.mp hc)
theorem Ord.mem {n : Nat} {o : List Nat} (h : Ord n o) {c : Nat} (hc : c < n) : c ∈ o := h.mem_iff.mpr (List.mem_range.mpr hc)
theorem Ord.range (n : Nat) : Ord n (List.range n) := List.Perm.refl _
theorem Ord.rev {n : Nat} {o : List Nat} (h : Ord n o) : Ord n o.reverse := (List.reverse_perm o).trans h
theorem Ord.ins {n : Nat} {o : List Nat} (h : Ord n o) {i : Nat} (hi : i ≤ o.length) : Ord (n + 1) (o.insertIdx i n) := by
  refine (List.perm_insertIdx n o hi).trans ?_
  refine (h.cons n).trans ?_
  rw [List.range_succ]
  exact (List.perm_append_singleton n (List.range n)).symm
/-- the counts above k one less -/
def shift (k c : Nat) : Nat := if k < c then c - 1 else c
def less (k : Nat) (o : List Nat) : List Nat := (o.filter fun c => c != k).map (shift k)
theorem less_range (n k : Nat) (hk : k < n + 1) : less k (List.range (n + 1)) = List.range n := by
  induction n with
  | zero =>
    obtain rfl : k = 0 := by omega
    rfl
  | succ n ih =>
    rw [List.range_succ]
    unfold less
    rw [List.filter_append, List.map_append]
    by_cases e : k = n + 1
    · subst e
      have h1 : (List.range (n + 1)).filter (fun c => c != n + 1) = List.range (n + 1) := by
        rw [List.filter_eq_self]
        intro a ha
        have := List.mem_range.mp ha
        simp; omega
      rw [h1]
      have h2 : List.filter (fun c => c != n + 1) [n + 1] = [] := by simp
      rw [h2, List.map_nil, List.append_nil]
      have : List.map (shift (n + 1)) (List.range (n + 1)) = List.map id (List.range (n + 1)) := List.map_congr_left fun a ha => by
        have := List.mem_range.mp ha
        unfold shift
        rw [if_neg (by omega)]
        rfl
      rw [this, List.map_id]
    · have ih' := ih (by omega)
      unfold less at ih'
      rw [ih', List.range_succ]
      have h2 : List.filter (fun c => c != k) [n + 1] = [n + 1] := by
        simp; omega
      rw [h2]
      have : List.map (shift k) [n + 1] = [n] := by
        show [shift k (n + 1)] = [n]
        unfold shift
        rw [if_pos (by omega)]
        rfl
      rw [this]
theorem Ord.less {n k : Nat} {o : List Nat} (h : Ord (n + 1) o) (hk : k < n + 1) : Ord n (Bp.less k o) := by
  have := (List.Perm.filter (fun c => c != k) h).map (shift k)
  unfold Ord
  rw [← less_range n k hk]
  exact this
theorem path_less (ts : List Th) (k : Nat) (o : List Nat) (hk : k < ts.length) : path (ts.take k ++ ts.drop (k + 1)) (Bp.less k o) = path ts (o.filter fun c => c != k) := by
  unfold path Bp.less
  rw [List.map_map]
  refine List.map_congr_left fun c hc => ?_
  have hck : c ≠ k := by
    have := (List.mem_filter.mp hc).2
    simpa using this
  show (ts.take k ++ ts.drop (k + 1)).getD (shift k c) th0 = ts.getD c th0
  unfold shift
  have hl : (ts.take k).length = k := by rw [List.length_take]; omega
  by_cases h : k < c
  · rw [if_pos h, List.getD_eq_getElem?_getD, List.getElem?_append_right (by omega), hl, List.getElem?_drop, List.getD_eq_getElem?_getD]
    rw [show k + 1 + (c - 1 - k) = c by omega]
  · rw [if_neg h, List.getD_eq_getElem?_getD, List.getElem?_append_left (by omega), List.getElem?_take_of_lt (by omega), List.getD_eq_getElem?_getD]
theorem path_sub (ts : List Th) {o p : List Nat} (s : o.Sublist p) : (path ts o).Sublist (path ts p) := s.map _
theorem path_turn (ts : List Th) (o : List Nat) (n : Nat) (hn : n = ts.length) (h : ∀ c ∈ o, c < n) : path (ts.map turn) o.reverse = ((path ts o).map turn).reverse := by
  unfold path
  rw [List.map_reverse, List.map_map]
  refine congrArg _ (List.map_congr_left fun c hc => ?_)
  have hl : c < ts.length := hn ▸ h c hc
  show (ts.map turn).getD c th0 = turn (ts.getD c th0)
  rw [List.getD_eq_getElem?_getD, List.getD_eq_getElem?_getD, List.getElem?_map, List.getElem?_eq_getElem hl]
  rfl
theorem path_nn {ts : List Th} (h : ∀ t ∈ ts, Nn t) (o : List Nat) : ∀ t ∈ path ts o, Nn t := by
  intro t ht
  obtain ⟨c, _, rfl⟩ := List.mem_map.mp ht
  show Nn (ts.getD c th0)
  rw [List.getD_eq_getElem?_getD]
  cases e : ts[c]? with
  | none => exact ⟨Int.le_refl _, Int.le_refl _, Int.le_refl _⟩
  | some t => exact h t (List.mem_of_getElem? e)
/-- going along: when each begins on either bench, bench 1 free, bench 2 free -/
abbrev Sg := List (Int × Int) × Int × Int
def stp (ts : List Th) (s : Sg) (c : Nat) : Sg :=
  let t := ts.getD c th0
  let h := max (s.2.1 + t.1 + t.2.1) s.2.2
  (s.1.set c (s.2.1, h), s.2.1 + t.1, h + t.2.2)
def sg0 (n : Nat) : Sg := (List.replicate n (0, 0), 0, 0)
def going (ts : List Th) (o : List Nat) : Sg := o.foldl (stp ts) (sg0 ts.length)
theorem stp_len (ts : List Th) : ∀ (o : List Nat) (s : Sg), (o.foldl (stp ts) s).1.length = s.1.length
  | [], _ => rfl
  | c :: r, s => by
    rw [List.foldl_cons, stp_len ts r]
    show (s.1.set c _).length = s.1.length
    exact List.length_set
theorem going_len (ts : List Th) (o : List Nat) : (going ts o).1.length = ts.length := by
  unfold going
  rw [stp_len]
  exact List.length_replicate
theorem stp_mk2 (ts : List Th) : ∀ (o : List Nat) (s : Sg), (o.foldl (stp ts) s).2.2 = mk2 (path ts o) s.2.1 s.2.2
  | [], _ => rfl
  | c :: r, s => stp_mk2 ts r (stp ts s c)
theorem going_W {ts : List Th} (h : ∀ t ∈ ts, Nn t) (o : List Nat) : (going ts o).2.2 = W (path ts o) := by
  unfold going
  rw [stp_mk2]
  exact mk2_W (path_nn h o)
/-- done, turned about -/
theorem W_turned {ts : List Th} (h : ∀ t ∈ ts, Nn t) {o : List Nat} (ho : Ord ts.length o) : W (path (ts.map turn) o.reverse) = W (path ts o) := by
  rw [path_turn ts o _ rfl (fun c hc => ho.lt hc)]
  exact W_turn _ (path_nn h o)
theorem W_less {ts : List Th} (h : ∀ t ∈ ts, Nn t) {o : List Nat} {k : Nat} (hk : k < ts.length) : W (path (ts.take k ++ ts.drop (k + 1)) (Bp.less k o)) ≤ W (path ts o) := by
  rw [path_less ts k o hk]
  exact (W_sub (path_sub ts (List.filter_sublist)) (path_nn h o)).1
/-- the marks of is_order -/
def mrk (m : List Bool) (o : List Nat) : List Bool := o.foldl (fun m c => m.set c true) m
theorem mrk_get : ∀ (o : List Nat) (m : List Bool) (c : Nat), c ∉ o → (mrk m o)[c]? = m[c]?
  | [], _, _, _ => rfl
  | d :: r, m, c, h => by
    have h1 : c ≠ d := fun e => h (e ▸ List.mem_cons_self)
    have h2 : c ∉ r := fun e => h (List.mem_cons_of_mem _ e)
    show (mrk (m.set d true) r)[c]? = m[c]?
    rw [mrk_get r _ c h2, List.getElem?_set_ne (Ne.symm h1)]
theorem mrk_len : ∀ (o : List Nat) (m : List Bool), (mrk m o).length = m.length
  | [], _ => rfl
  | d :: r, m => by
    show (mrk (m.set d true) r).length = m.length
    rw [mrk_len r, List.length_set]
theorem nd_take {o : List Nat} (h : o.Nodup) {i c : Nat} (hc : o[i]? = some c) : c ∉ o.take i := by
  intro hm
  obtain ⟨j, hj, e⟩ := List.mem_iff_getElem.mp hm
  have hj' : j < i ∧ j < o.length := by
    rw [List.length_take] at hj
    omega
  rw [List.getElem_take] at e
  obtain ⟨hi, ei⟩ := List.getElem?_eq_some_iff.mp hc
  exact (List.pairwise_iff_getElem.mp h) j i hj'.2 hi hj'.1 (e.trans ei.symm)
theorem mrk_no {n : Nat} {o : List Nat} (h : Ord n o) {i c : Nat} (hc : o[i]? = some c) : (mrk (List.replicate n false) (o.take i))[c]? = some false := by
  rw [mrk_get _ _ _ (nd_take h.nd hc), List.getElem?_replicate, if_pos (h.lt (List.mem_of_getElem? hc))]
end Bp
namespace Bp
open PySem L2 Evl
/-! ### the text by places -/
def top (i : Nat) : Stmt := PySem.Challenge.pw_benchpair_k03_times.main.body.getD i (.Pass ⟨0, 0, 0, 0⟩)
abbrev sWhole : Stmt := top 5
abbrev sLen : Stmt := top 6
abbrev sThing : Stmt := top 7
abbrev sOrder : Stmt := top 8
abbrev sCkT : Stmt := top 9
abbrev sCkO : Stmt := top 10
abbrev sMake : Stmt := top 11
abbrev sDone : Stmt := top 12
abbrev sStarts : Stmt := top 13
/-! ### data in the heap -/
def iv (t : Th) : List V := [.int t.1, .int t.2.1, .int t.2.2]
def tv {α : Type} (zs : List (Addr × α)) : List V := zs.map fun z => V.ref z.1
def ths {α : Type} (zs : List (Addr × α)) : List α := zs.map fun z => z.2
def ov (o : List Nat) : List V := o.map fun (c : Nat) => V.int (c : Int)
structure Ths (K : PySem.W.Frag) (H : Hp) (l : Addr) (zs : List (Addr × Th)) : Prop where
  ls : SqL K H l (tv zs)
  it : ∀ z ∈ zs, SqT K H z.1 (iv z.2)
  nn : ∀ z ∈ zs, Nn z.2
  le : zs.length ≤ 1000
theorem Ths.mono {K : PySem.W.Frag} {H H' : Hp} {l : Addr} {zs : List (Addr × Th)} (e : Ex H H') (h : Ths K H l zs) : Ths K H' l zs :=
  ⟨ex_l e h.ls, fun z hz => ex_t e (h.it z hz), h.nn, h.le⟩
theorem tv_len {α : Type} (zs : List (Addr × α)) : (tv zs).length = zs.length := List.length_map _
theorem ths_len {α : Type} (zs : List (Addr × α)) : (ths zs).length = zs.length := List.length_map _
theorem ov_len (o : List Nat) : (ov o).length = o.length := List.length_map _
theorem tv_get {α : Type} {zs : List (Addr × α)} {i : Nat} {x : V} (h : (tv zs)[i]? = some x) : ∃ z, zs[i]? = some z ∧ x = .ref z.1 := by
  unfold tv at h
  rw [List.getElem?_map] at h
  cases e : zs[i]? with
  | none => rw [e] at h; cases h
  | some z => rw [e] at h; exact ⟨z, rfl, (Option.some.inj h).symm⟩
theorem ov_get {o : List Nat} {i : Nat} {x : V} (h : (ov o)[i]? = some x) : ∃ c, o[i]? = some c ∧ x = .int (c : Int) := by
  unfold ov at h
  rw [List.getElem?_map] at h
  cases e : o[i]? with
  | none => rw [e] at h; cases h
  | some z => rw [e] at h; exact ⟨z, rfl, (Option.some.inj h).symm⟩
theorem ths_nn {K : PySem.W.Frag} {H : Hp} {l : Addr} {zs : List (Addr × Th)} (h : Ths K H l zs) : ∀ t ∈ ths zs, Nn t := by
  intro t ht
  obtain ⟨z, hz, rfl⟩ := List.mem_map.mp ht
  exact h.nn z hz
/-! ### small readings -/
theorem rc_isi {K : PySem.W.Frag} {H : Hp} {x : V} {n c : String} {b : Bool} (ty : ∀ H1, Ex H H1 → TyX K H1 x (.type n)) (k : kitB n c = some b) : RC (rIsi K) [x, .ty c] H (.bl b) :=
  fun H1 e Q q => ⟨x, .ty c, .type n, .type c, b, rfl, .ty c, ty H1 e, kit_ty k, q H1 (Ex.refl H1)⟩
theorem ty_int {K : PySem.W.Frag} {H : Hp} {i : Int} : ∀ H1, Ex H H1 → TyX K H1 (.int i) (.type "int") := fun _ _ => .base (.int i)
theorem ty_lst {K : PySem.W.Frag} {H : Hp} {a : Addr} {xs : List V} (h : SqL K H a xs) : ∀ H1, Ex H H1 → TyX K H1 (.ref a) (.type "list") := fun H1 e => by
  rcases h with (h | ⟨o, h⟩) | h
  · exact .base (.lst (e _ _ h))
  · exact .base (.frz (e _ _ h))
  · obtain ⟨o, its, n, h1, h2, _⟩ := h
    exact .kList h1 h2
theorem ty_tup {K : PySem.W.Frag} {H : Hp} {a : Addr} {xs : List V} (h : SqT K H a xs) : ∀ H1, Ex H H1 → TyX K H1 (.ref a) (.type "tuple") := fun H1 e => by
  rcases h with (h | ⟨o, h⟩) | h
  · exact .base (.tup (e _ _ h))
  · exact .fTuple (e _ _ h)
  · obtain ⟨o, its, n, h1, h2, _⟩ := h
    exact .kTuple h1 h2
theorem rc_lenT {K : PySem.W.Frag} {H : Hp} {a : Addr} {xs : List V} (h : SqT K H a xs) : RC (rLenS K) [.ref a] H (.int (xs.length : Int)) :=
  fun H1 e Q q => ⟨a, xs, rfl, .inr (ex_t e h), q H1 (Ex.refl H1)⟩
theorem rc_lenL {K : PySem.W.Frag} {H : Hp} {a : Addr} {xs : List V} (h : SqL K H a xs) : RC (rLenS K) [.ref a] H (.int (xs.length : Int)) :=
  fun H1 e Q q => ⟨a, xs, rfl, .inl (ex_l e h), q H1 (Ex.refl H1)⟩
theorem rc_all {K : PySem.W.Frag} {H : Hp} {a : Addr} {bs : List Bool} (h : SqL K H a (bs.map V.bl)) : RC (rAll K) [.ref a] H (.bl (bs.all id)) :=
  fun H1 e Q q => ⟨a, bs, rfl, ex_l e h, q H1 (Ex.refl H1)⟩
/-- a built-in of one new list -/
theorem ev_cbL {σ : L2.St} {H : Hp} {te : TE} {xs : List V} {z : V} {r : List V → Hp → VK → Prop} (h : EvL te σ H xs) (hr : ∀ p H1, Ex H H1 → H1 p = some (.lst xs) → RC r [.ref p] H1 z) : Ev (tCB r (tCons te tNil)) σ H z :=
  fun H1 e Q q => h H1 e _ fun p H2 _ e2 h2 => hr p H2 (e.trans e2) h2 H2 (Ex.refl H2) Q fun H3 e3 => q H3 (e2.trans e3)
theorem et_yes {σ : L2.St} {H : Hp} : EvT tYes σ H true := fun H1 _ _ q => q H1 (Ex.refl H1)
theorem el_lcT {K : PySem.W.Frag} {σ : L2.St} {H : Hp} {a : Addr} {xs : List V} {tl te : TE} {t : TT} {j : Nat} {vs : List Nat} (f : Nat → Bool) (v : Nat → V) (h : Ev tl σ H (.ref a)) (hx : SqT K H a xs) (hz : xs.length ≤ 40000) (hw : ∀ x, wipe ((wipe σ vs).set j (some x)) vs = wipe σ vs)
    (ht : ∀ (i : Nat) (x : V) H1, Ex H H1 → xs[i]? = some x → EvT t ((wipe σ vs).set j (some x)) H1 (f i)) (he : ∀ (i : Nat) (x : V) H1, Ex H H1 → xs[i]? = some x → f i = true → Ev te ((wipe σ vs).set j (some x)) H1 (v i)) :
    EvL (tLc (iTup K tl) (gName j) t te vs) σ H (given xs.length f v) := fun H0 e Q q => h H0 e _ fun H1 e1 => ⟨a, rfl, ⟨xs, ex_t (e.trans e1) hx⟩, fun Dl hD =>
  lc_tup (xs := xs) (Cw H1 f v Dl) ⟨hD, Ex.new hD, upd_same⟩ (fun i H' _ p => ex_t ((e.trans e1).trans p.2.1) hx) (fun i x H' hi p => ⟨hw x, cw_turn p (by have := (List.getElem?_eq_some_iff.mp hi).1; omega) (ht i x H1 (e.trans e1) hi) (fun hf => he i x H1 (e.trans e1) hi hf)⟩)
    (fun H' p => q Dl H' (fresh_back e1 p.1) (e1.trans p.2.1) p.2.2)⟩
theorem ev_chain {σ : L2.St} {H : Hp} {ta tb tc : TE} {r r' : R2} {x y z : V} {k1 k2 : Bool} (ha : Ev ta σ H x) (hb : Ev tb σ H y) (h1 : RV r x y H (.bl k1)) (hc : Ev tc σ H z) (h2 : RV r' y z H (.bl k2)) : Ev (tChain r r' ta tb tc) σ H (.bl (k1 && k2)) := fun H1 e Q q =>
  ha H1 e _ fun H2 e2 => hb H2 (e.trans e2) _ fun H3 e3 => h1 H3 ((e.trans e2).trans e3) _ fun H4 e4 => ⟨k1, rfl, by
    cases k1 with
    | true => exact iteT (hc H4 (((e.trans e2).trans e3).trans e4) _ fun H5 e5 => h2 H5 ((((e.trans e2).trans e3).trans e4).trans e5) Q fun H6 e6 => q H6 ((((e2.trans e3).trans e4).trans e5).trans e6))
    | false => exact iteF (q H4 ((e2.trans e3).trans e4))⟩
theorem flat1 {α : Type} (n : Nat) (x : α) : (List.replicate n [x]).flatten = List.replicate n x := by
  induction n with
  | zero => rfl
  | succ n ih => rw [List.replicate_succ, List.flatten_cons, ih]; rfl
theorem el_rep {σ : L2.St} {H : Hp} {tl tn : TE} {x : V} {n : Nat} (h : EvL tl σ H [x]) (hn : ∀ H1, Ex H H1 → Ev tn σ H1 (.int (n : Int))) (hz : n ≤ 1000) : EvL (tOp rRep tl tn) σ H (List.replicate n x) := fun H1 e Q q =>
  h H1 e _ fun p H2 hp e2 h2 => hn H2 (e.trans e2) H2 (Ex.refl H2) _ fun H3 e3 => ⟨p, (n : Int), [x], rfl, rfl, e3 p _ h2, by omega, by omega, by
    show 1 * ((n : Int)).toNat ≤ sizeLine
    rw [Int.toNat_natCast, Nat.one_mul]
    exact sz_of (by omega), fun r hr => q r _ (fresh_back (e2.trans e3) hr) ((e2.trans e3).trans (Ex.new hr)) (by rw [upd_same, Int.toNat_natCast, flat1])⟩
/-- for i, x in enumerate(xs) -/
theorem s_forE {K : PySem.W.Frag} {σ : L2.St} {H : Hp} {D : Ends} {tu : TS} {g : TG} {ta : TA} {a : Addr} {xs : List V} (h : EvA ta σ H [.ref a]) (hx : SqL K H a xs) (Pv : Nat → L2.St → Hp → Prop) (h0 : ∀ H1, Ex H H1 → Pv 0 σ H1) (hl : ∀ i σ' H', i ≤ xs.length → Pv i σ' H' → SqL K H' a xs)
    (hs : ∀ (i : Nat) x T σ' H', xs[i]? = some x → Pv i σ' H' → H' T = none → g (.ref T) σ' (upd H' T (.tup [.int (i : Int), x])) fun σ2 H2 => tu { D with nx := Pv (i + 1), ct := Pv (i + 1), bk := D.nx } σ2 H2) (hd : ∀ σ' H', Pv xs.length σ' H' → D.nx σ' H') : tFor (iEnum K ta) g tu D σ H :=
  h H (Ex.refl H) _ fun H1 e => ⟨a, xs, rfl, ex_l e hx, for_it walk_enum Pv (h0 H1 e) hl (fun i x σ' H' H2 hi p y => by
    obtain ⟨T, x1, x2, rfl, nT, rfl, e1, e2⟩ := y
    have e3 : x1 = .int (i : Int) := (Option.some.inj e1).symm
    subst e3
    exact hs i x2 T σ' H' e2 p nT) hd⟩
/-! ### promises -/
def spWhole : Sp := fun vs H Q _ => ∃ i : Int, vs = [.int i] ∧ RetV (.bl true) H Q
def spLen : Sp := fun vs H Q _ => ∃ i : Int, vs = [.int i] ∧ 0 ≤ i ∧ RetV (.bl true) H Q
def spThing (K : PySem.W.Frag) : Sp := fun vs H Q _ => ∃ (a : Addr) (t : Th), vs = [.ref a] ∧ SqT K H a (iv t) ∧ Nn t ∧ RetV (.bl true) H Q
def spOrder (K : PySem.W.Frag) : Sp := fun vs H Q _ => ∃ (a : Addr) (o : List Nat) (n : Nat), vs = [.ref a, .int (n : Int)] ∧ SqL K H a (ov o) ∧ Ord n o ∧ n ≤ 1000 ∧ RetV (.bl true) H Q
def spCkT (K : PySem.W.Frag) : Sp := fun vs H Q _ => ∃ (l : Addr) (zs : List (Addr × Th)), vs = [.ref l] ∧ Ths K H l zs ∧ RetV .non H Q
def spCkO (K : PySem.W.Frag) : Sp := fun vs H Q _ => ∃ (a : Addr) (o : List Nat) (n : Nat), vs = [.ref a, .int (n : Int)] ∧ SqL K H a (ov o) ∧ Ord n o ∧ n ≤ 1000 ∧ RetV .non H Q
/-- the list at q is of tuples, one a pair of ps -/
def Prs (H : Hp) (q : Addr) (bs : List (Addr × (Int × Int))) : Prop := H q = some (.lst (tv bs)) ∧ ∀ z ∈ bs, H z.1 = some (.tup [.int z.2.1, .int z.2.2])
def spMake (K : PySem.W.Frag) : Sp := fun vs H Q _ => ∃ (l a : Addr) (zs : List (Addr × Th)) (o : List Nat), vs = [.ref l, .ref a] ∧ Ths K H l zs ∧ SqL K H a (ov o) ∧ Ord zs.length o ∧
  ∀ (p q : Addr) (bs : List (Addr × (Int × Int))) (H' : Hp), Ex H H' → H q = none → Prs H' q bs → ths bs = (going (ths zs) o).1 → H' p = some (.tup [.ref q, .int (going (ths zs) o).2.2]) → Q (.ref p) H'
def spDone (K : PySem.W.Frag) : Sp := fun vs H Q _ => ∃ (l a : Addr) (zs : List (Addr × Th)) (o : List Nat), vs = [.ref l, .ref a] ∧ Ths K H l zs ∧ SqL K H a (ov o) ∧ Ord zs.length o ∧ RetV (.int (going (ths zs) o).2.2) H Q
def spStarts (K : PySem.W.Frag) : Sp := fun vs H Q _ => ∃ (l a : Addr) (zs : List (Addr × Th)) (o : List Nat), vs = [.ref l, .ref a] ∧ Ths K H l zs ∧ SqL K H a (ov o) ∧ Ord zs.length o ∧
  ∀ (q : Addr) (bs : List (Addr × (Int × Int))) (H' : Hp), Ex H H' → H q = none → Prs H' q bs → ths bs = (going (ths zs) o).1 → Q (.ref q) H'
/-- the built-ins that the text names -/
structure Bn (mg : Str → Option Value) : Prop where
  isi : mg "isinstance" = none
  int : mg "int" = none
  bool : mg "bool" = none
  tuple : mg "tuple" = none
  len : mg "len" = none
  all : mg "all" = none
  list : mg "list" = none
  enum : mg "enumerate" = none
  max : mg "max" = none
  range : mg "range" = none
  sum : mg "sum" = none
section
variable {P : Program} {w : World} {K : PySem.W.Frag} {mg : Str → Option Value} {base : Heap}
theorem scWhole : FnScope ["value"] ["value"] (defScope sWhole) := ⟨rfl, rfl, rfl, by decide +kernel, rfl, by decide +kernel, by decide +kernel⟩
theorem ok_whole {f : Addr} {fd : FuncData} (F : Fun K "is_whole" "is_whole" sWhole f fd) (T : Bn mg) : FnOk P w K mg base CX0 1 f fd ["value"] spWhole := by
  refine F.ok scWhole (fun vs H Q E h => ?_) (fun cdv A outer s H vs Q E hr h => ?_)
  · obtain ⟨i, rfl, _⟩ := h
    rfl
  · obtain ⟨i, rfl, k⟩ := h
    refine ⟨_, pss_one (ps_ret (pe_and (pe_callB call_isi (by rfl) T.isi (by decide +kernel) (pa_cons (pv 0) (pa_cons (pe_bltn (v := .ty "int") (by rfl) T.int PyProof.Rows.boot_int rfl) pa_nil)))
      (pe_one (pe_not (pe_callB call_isi (by rfl) T.isi (by decide +kernel) (pa_cons (pv 0) (pa_cons (pe_bltn (v := .ty "bool") (by rfl) T.bool PyProof.Rows.boot_bool rfl) pa_nil))))))), ?_⟩
    refine s_ret (v := .bl (true && !false)) (ev_andV (ev_cb (ea_cons (ev_var rfl) (ea_cons ev_c ea_nil)) (rc_isi ty_int (by decide +kernel))) fun _ =>
      ev_notV (ev_cb (ea_cons (ev_var rfl) (ea_cons ev_c ea_nil)) (rc_isi ty_int (by decide +kernel)))) fun H1 e => k.go e
theorem scLen : FnScope ["value"] ["value"] (defScope sLen) := ⟨rfl, rfl, rfl, by decide +kernel, rfl, by decide +kernel, by decide +kernel⟩
theorem ok_len {f fW : Addr} {fd fdW : FuncData} (F : Fun K "is_length" "is_length" sLen f fd) (T : Bn mg) (gW : mg "is_whole" = some (.ref fW)) (FW : Fun K "is_whole" "is_whole" sWhole fW fdW) (bW : Binds K fdW ["value"] []) : FnOk P w K mg base CX0 2 f fd ["value"] spLen := by
  have GW : FnOk P w K mg base CX0 1 fW fdW ["value"] spWhole := ok_whole FW T
  refine F.ok scLen (fun vs H Q E h => ?_) (fun cdv A outer s H vs Q E hr h => ?_)
  · obtain ⟨i, rfl, _⟩ := h
    rfl
  · obtain ⟨i, rfl, hi, k⟩ := h
    refine ⟨_, pss_one (ps_ret (pe_and (pe_call GW hr (by rfl) gW FW.kp bW .nil pass0 (pa_cons (pv 0) pa_nil)) (pe_one (pe_cmpR op_ge (pv 0) pe_int (nomark _))))), ?_⟩
    refine s_ret (v := .bl (true && decide (0 ≤ i))) (ev_andV (ev_call (ea_cons (ev_var rfl) ea_nil) fun H1 e Q q E => ⟨i, rfl, q⟩) fun _ => ev_op (ev_var rfl) ev_c rv_I0) fun H1 e => ?_
    rw [decide_eq_true hi]
    exact k.go e
theorem scThing : FnScope ["value", "part"] ["value"] (defScope sThing) := ⟨rfl, rfl, rfl, by decide +kernel, rfl, by decide +kernel, by decide +kernel⟩
theorem ok_thing {f fL : Addr} {fd fdL : FuncData} (F : Fun K "is_thing" "is_thing" sThing f fd) (T : Bn mg) (gL : mg "is_length" = some (.ref fL)) (FL : Fun K "is_length" "is_length" sLen fL fdL) (bL : Binds K fdL ["value"] []) (GL : FnOk P w K mg base CX0 2 fL fdL ["value"] spLen) : FnOk P w K mg base CX0 3 f fd ["value"] (spThing K) := by
  refine F.ok scThing (fun vs H Q E h => ?_) (fun cdv A outer s H vs Q E hr h => ?_)
  · obtain ⟨a, t, rfl, _⟩ := h
    rfl
  · obtain ⟨a, t, rfl, hS, hn, k⟩ := h
    refine ⟨_, pss_cons (ps_if (PW.pt (pw_or (pt_not (pt_val (pe_callB call_isi (by rfl) T.isi (by decide +kernel) (pa_cons (pv 0) (pa_cons (pe_bltn (v := .ty "tuple") (by rfl) T.tuple PyProof.Rows.boot_tuple rfl) pa_nil)))))
        (pw_or1 (pt_cmpR op_ne (pe_callB call_len_seq (by rfl) T.len PySem.boot_len (pa_cons (pv 0) pa_nil)) pe_int (nomark _))))) (pss_one (ps_ret pe_bl)) pss_nil)
      (pss_one (ps_ret (pe_callB (cr_all rfl) (by rfl) T.all (by decide +kernel) (pa_cons (pe_lc (own := [("part", 1)]) (g := gName 1) (tt := tYes) rfl scThing.nd (pi_tup (pv 0)) (blkOk_by (N := ["value", "part"]) (sc := defScope sThing) (by decide +kernel))
        (fun _ _ _ _ _ => pg_name (i := 1) scThing.nd rfl (Or.inl rfl)) (fun _ _ _ _ _ => pts_nil) (fun _ _ _ _ _ => pe_call GL hr (by rfl) gL FL.kp bL .nil pass0 (pa_cons (pv 1) pa_nil))) pa_nil)))), ?_⟩
    refine q_when (b := false) (et_is (et_or (et_not (et_B (ev_cb (ea_cons (ev_var rfl) (ea_cons ev_c ea_nil)) (rc_isi (ty_tup hS) (b := true) (by decide +kernel))))) fun _ =>
      et_test (ev_op (ev_cb (ea_cons (ev_var rfl) ea_nil) (rc_lenT hS)) ev_c (rv_ne rfl))) (by show (!true || !decide (V.int 3 = V.int 3)) = false; decide +kernel)) (fun q => by cases q) fun _ H1 e1 => ?_
    refine s_ret (v := .bl true) (ev_cbL (el_lcT (xs := iv t) (fun _ => true) (fun _ => .bl true) (ev_var rfl) (ex_t e1 hS) (by show 3 ≤ 40000; decide) (fun x => rfl) (fun i x H2 e2 hi => et_yes) fun i x H2 e2 hi _ => ?_) fun p H2 e2 h2 => ?_) fun H2 e2 => k.go (e1.trans e2)
    · refine ev_call (ea_cons (ev_var rfl) ea_nil) fun H3 e3 Q q E => ?_
      match i, hi with
      | 0, hi => obtain rfl := Option.some.inj hi; exact ⟨_, rfl, hn.1, q⟩
      | 1, hi => obtain rfl := Option.some.inj hi; exact ⟨_, rfl, hn.2.1, q⟩
      | 2, hi => obtain rfl := Option.some.inj hi; exact ⟨_, rfl, hn.2.2, q⟩
      | i + 3, hi => cases hi
    · exact rc_all (bs := [true, true, true]) (sq_of h2)
theorem scOrder : FnScope ["value", "many", "told", "count"] ["value", "many"] (defScope sOrder) := ⟨rfl, rfl, rfl, by decide +kernel, rfl, by decide +kernel, by decide +kernel⟩
theorem ok_order {f fW : Addr} {fd fdW : FuncData} (F : Fun K "is_order" "is_order" sOrder f fd) (T : Bn mg) (gW : mg "is_whole" = some (.ref fW)) (FW : Fun K "is_whole" "is_whole" sWhole fW fdW) (bW : Binds K fdW ["value"] []) (GW : FnOk P w K mg base CX0 1 fW fdW ["value"] spWhole) : FnOk P w K mg base CX0 2 f fd ["value", "many"] (spOrder K) := by
  refine F.ok scOrder (fun vs H Q E h => ?_) (fun cdv A outer s H vs Q E hr h => ?_)
  · obtain ⟨a, o, n, rfl, _⟩ := h
    rfl
  · obtain ⟨a, o, n, rfl, hS, ho, hz, k⟩ := h
    have hl := ho.len
    refine ⟨_, pss_cons (ps_if (PW.pt (pw_or (pt_not (pt_val (pe_callB call_isi (by rfl) T.isi (by decide +kernel) (pa_cons (pv 0) (pa_cons (pe_bltn (v := .ty "list") (by rfl) T.list PyProof.Rows.boot_list rfl) pa_nil)))))
        (pw_or1 (pt_cmpR op_ne (pe_callB call_len_seq (by rfl) T.len PySem.boot_len (pa_cons (pv 0) pa_nil)) (pv 1) (nomark _))))) (pss_one (ps_ret pe_bl)) pss_nil)
      (pss_cons (ps_set (i := 2) scOrder.nd rfl (Or.inl rfl) (pe_op op_rep (pe_lst (pa_cons pe_bl pa_nil)) (pv 1)))
      (pss_cons (ps_for PassesOwn.never rfl (pi_list (pv 0)) (pg_name (i := 3) scOrder.nd rfl (Or.inl rfl))
        (pss_cons (ps_if (PW.pt (pw_or (pt_not (pt_val (pe_call GW hr (by rfl) gW FW.kp bW .nil pass0 (pa_cons (pv 3) pa_nil)))) (pw_or (pt_not (pt_chain op_le op_lt pe_int (pv 3) (pv 1))) (pw_or1 (pt_val (pe_ix ix_list (pv 2) (pv 3) (fun _ _ => rfl))))))) (pss_one (ps_ret pe_bl)) pss_nil)
        (pss_one (ps_asg pe_bl (pg_sub (pv 2) (pv 3) set_list)))))
      (pss_one (ps_ret pe_bl)))), ?_⟩
    refine q_when (b := false) (et_is (et_or (et_not (et_B (ev_cb (ea_cons (ev_var rfl) (ea_cons ev_c ea_nil)) (rc_isi (ty_lst hS) (b := true) (by decide +kernel))))) fun _ =>
      et_test (ev_op (ev_cb (ea_cons (ev_var rfl) ea_nil) (rc_lenL hS)) (ev_var rfl) (rv_ne rfl))) ?_) (fun q => by cases q) fun _ H1 e1 => ?_
    · rw [ov_len, hl, decide_eq_true rfl]
      rfl
    refine q_asgL (el_rep (n := n) (el_lst (ea_cons ev_c ea_nil) (by decide)) (fun H2 e2 => ev_var rfl) hz) fun m H2 nm e2 h2 => ?_
    have nm0 : H m = none := fresh_back e1 nm
    refine q_forLn (a := a) (xs := ov o) (ev_var rfl) (ex_l (e1.trans e2) hS) (fun i σ' H' => ∃ v : Option V, σ' = [some (.ref a), some (.int (n : Int)), some (.ref m), v] ∧ Ex H H' ∧ H' m = some (.lst ((mrk (List.replicate n false) (o.take i)).map V.bl)))
      (fun H3 e3 => ⟨none, rfl, (e1.trans e2).trans e3, ?_⟩) (fun i σ' H' _ ⟨_, _, e', _⟩ => ex_l e' hS) ?_ ?_
    · rw [e3 m _ h2, List.take_zero]
      show some (HO.lst (List.replicate n (V.bl false))) = some (.lst ((List.replicate n false).map V.bl))
      rw [List.map_replicate]
    · rintro i x σ' H' hi ⟨v, rfl, e', hm⟩
      obtain ⟨c, hc, rfl⟩ := ov_get hi
      have hcn : c < n := ho.lt (List.mem_of_getElem? hc)
      refine q_when (b := false) (et_is (et_or (et_not (et_B (ev_call (z := .bl true) (ea_cons (ev_var rfl) ea_nil) fun H3 e3 Q q E => ⟨(c : Int), rfl, q⟩))) fun _ =>
        et_or (et_not (et_B (ev_chain ev_c (ev_var rfl) rv_I0 (ev_var rfl) rv_I0))) fun _ => et_B (b := false) (ev_op (ev_var rfl) (ev_var rfl) (rv_ixL (sq_of hm) (atI_nat (j := c) ?_)))) ?_) (fun q => by cases q) fun _ H3 e3 => ?_
      · rw [List.getElem?_map, mrk_no ho hc]
        rfl
      · rw [decide_eq_true (by omega : (0 : Int) ≤ (c : Int)), decide_eq_true (by omega : (c : Int) < (n : Int))]
        rfl
      · refine s_setL (l := m) (j := c) (e3 m _ hm) ev_c (ev_var rfl) (ev_var rfl) ?_ fun H4 e4 => ⟨_, rfl, ?_, ?_⟩
        · rw [List.length_map, mrk_len, List.length_replicate]
          exact hcn
        · exact Ex.mut ((e'.trans e3).trans e4) nm0
        · rw [upd_same, ← List.map_set]
          unfold mrk
          rw [fold_more hc]
    · rintro σ' H' ⟨v, rfl, e', hm⟩
      exact s_ret ev_c fun H3 e3 => k.go (e'.trans e3)
theorem scCkT : FnScope ["things", "count", "thing"] ["things"] (defScope sCkT) := ⟨rfl, rfl, rfl, by decide +kernel, rfl, by decide +kernel, by decide +kernel⟩
theorem ok_ckT {f fT : Addr} {fd fdT : FuncData} (F : Fun K "check_things" "check_things" sCkT f fd) (T : Bn mg) (gT : mg "is_thing" = some (.ref fT)) (FT : Fun K "is_thing" "is_thing" sThing fT fdT) (bT : Binds K fdT ["value"] []) (GT : FnOk P w K mg base CX0 3 fT fdT ["value"] (spThing K)) : FnOk P w K mg base CX0 4 f fd ["things"] (spCkT K) := by
  refine F.ok scCkT (fun vs H Q E h => ?_) (fun cdv A outer s H vs Q E hr h => ?_)
  · obtain ⟨a, t, rfl, _⟩ := h
    rfl
  · obtain ⟨l, zs, rfl, hT, k⟩ := h
    refine ⟨_, pss_cons (ps_if (pt_not (pt_val (pe_callB call_isi (by rfl) T.isi (by decide +kernel) (pa_cons (pv 0) (pa_cons (pe_bltn (v := .ty "list") (by rfl) T.list PyProof.Rows.boot_list rfl) pa_nil))))) pss_never pss_nil)
      (pss_one (ps_for PassesOwn.never rfl (pi_enum (by rfl) T.enum (pa_cons (pv 0) pa_nil)) (pg_tup rfl (pgs_cons (pg_name (i := 1) scCkT.nd rfl (Or.inl rfl)) (pgs_cons (pg_name (i := 2) scCkT.nd rfl (Or.inl rfl)) pgs_nil)))
        (pss_one (ps_if (pt_not (pt_val (pe_call GT hr (by rfl) gT FT.kp bT .nil pass0 (pa_cons (pv 2) pa_nil)))) pss_never pss_nil)))), ?_⟩
    refine q_when (b := false) (et_is (et_not (et_B (ev_cb (ea_cons (ev_var rfl) (ea_cons ev_c ea_nil)) (rc_isi (ty_lst hT.ls) (b := true) (by decide +kernel))))) rfl) (fun q => by cases q) fun _ H1 e1 => ?_
    refine s_forE (a := l) (xs := tv zs) (ea_cons (ev_var rfl) ea_nil) (ex_l e1 hT.ls) (fun i σ' H' => ∃ v1 v2 : Option V, σ' = [some (.ref l), v1, v2] ∧ Ex H H') (fun H2 e2 => ⟨none, none, rfl, e1.trans e2⟩) (fun i σ' H' _ ⟨_, _, _, e'⟩ => ex_l e' hT.ls) ?_ ?_
    · rintro i x t σ' H' hi ⟨v1, v2, rfl, e'⟩ nt
      obtain ⟨z, hz, rfl⟩ := tv_get hi
      refine ⟨t, _, rfl, st_of upd_same, rfl, _, _, rfl, _, _, rfl, rfl, ?_⟩
      have e2 : Ex H (upd H' t (.tup [.int (i : Int), .ref z.1])) := e'.trans (Ex.new nt)
      refine s_when (b := false) (et_is (et_not (et_B (ev_call (z := .bl true) (ea_cons (ev_var rfl) ea_nil) fun H3 e3 Q q E => ⟨z.1, z.2, rfl, ex_t (e2.trans e3) (hT.it z (List.mem_of_getElem? hz)), hT.nn z (List.mem_of_getElem? hz), q⟩))) rfl) (fun q => by cases q) fun _ H3 e3 => ⟨_, _, rfl, e2.trans e3⟩
    · rintro σ' H' ⟨v1, v2, rfl, e'⟩
      exact k.go e'
theorem scCkO : FnScope ["order", "many"] ["order", "many"] (defScope sCkO) := ⟨rfl, rfl, rfl, by decide +kernel, rfl, by decide +kernel, by decide +kernel⟩
theorem ok_ckO {f fO : Addr} {fd fdO : FuncData} (F : Fun K "check_order" "check_order" sCkO f fd) (gO : mg "is_order" = some (.ref fO)) (FO : Fun K "is_order" "is_order" sOrder fO fdO) (bO : Binds K fdO ["value", "many"] []) (GO : FnOk P w K mg base CX0 2 fO fdO ["value", "many"] (spOrder K)) : FnOk P w K mg base CX0 3 f fd ["order", "many"] (spCkO K) := by
  refine F.ok scCkO (fun vs H Q E h => ?_) (fun cdv A outer s H vs Q E hr h => ?_)
  · obtain ⟨a, o, n, rfl, _⟩ := h
    rfl
  · obtain ⟨a, o, n, rfl, hS, ho, hz, k⟩ := h
    refine ⟨_, pss_one (ps_if (pt_not (pt_val (pe_call GO hr (by rfl) gO FO.kp bO .nil pass0 (pa_cons (pv 0) (pa_cons (pv 1) pa_nil))))) pss_never pss_nil), ?_⟩
    exact s_when (b := false) (et_is (et_not (et_B (ev_call (z := .bl true) (ea_cons (ev_var rfl) (ea_cons (ev_var rfl) ea_nil)) fun H3 e3 Q q E => ⟨a, o, n, rfl, ex_l e3 hS, ho, hz, q⟩))) rfl) (fun q => by cases q) fun _ H3 e3 => k.go e3
theorem scMake : FnScope ["things", "order", "begins", "free_first", "free_second", "count", "first", "drying", "second", "begin_second"] ["things", "order"] (defScope sMake) := ⟨rfl, rfl, rfl, by decide +kernel, rfl, by decide +kernel, by decide +kernel⟩
theorem set_tv {α : Type} (bs : List (Addr × α)) (c : Nat) (p : Addr) (x : α) : tv (bs.set c (p, x)) = (tv bs).set c (.ref p) := by
  unfold tv
  rw [List.map_set]
theorem set_ths {α : Type} (bs : List (Addr × α)) (c : Nat) (p : Addr) (x : α) : ths (bs.set c (p, x)) = (ths bs).set c x := by
  unfold ths
  rw [List.map_set]
theorem max_py (i j : Int) : (if j > i then j else i) = max i j := by
  rw [Int.max_def]
  by_cases h : j > i
  · rw [if_pos h, if_pos (by omega)]
  · rw [if_neg h]
    by_cases h2 : i ≤ j
    · rw [if_pos h2]; omega
    · rw [if_neg h2]
theorem stp_py {ts : List Th} {s : Sg} {c : Nat} {t : Th} (h : ts.getD c th0 = t) : stp ts s c = (s.1.set c (s.2.1, if s.2.2 > s.2.1 + t.1 + t.2.1 then s.2.2 else s.2.1 + t.1 + t.2.1), s.2.1 + t.1, (if s.2.2 > s.2.1 + t.1 + t.2.1 then s.2.2 else s.2.1 + t.1 + t.2.1) + t.2.2) := by
  subst h
  simp only [stp, max_py]
theorem ok_make {f : Addr} {fd : FuncData} (F : Fun K "make_in_order" "make_in_order" sMake f fd) (T : Bn mg) : FnOk P w K mg base CX0 1 f fd ["things", "order"] (spMake K) := by
  refine F.ok scMake (fun vs H Q E h => ?_) (fun cdv A outer s H vs Q E hr h => ?_)
  · obtain ⟨l, a, zs, o, rfl, _⟩ := h
    rfl
  · obtain ⟨l, a, zs, o, rfl, hT, hS, ho, k⟩ := h
    have hl := ho.len
    have hz := hT.le
    refine ⟨_, pss_cons (ps_set (i := 2) scMake.nd rfl (Or.inl rfl) (pe_op op_rep (pe_lst (pa_cons (pe_tup (pa_cons pe_int (pa_cons pe_int pa_nil))) pa_nil)) (pe_callB call_len_seq (by rfl) T.len PySem.boot_len (pa_cons (pv 0) pa_nil))))
      (pss_cons (ps_set (i := 3) scMake.nd rfl (Or.inl rfl) pe_int)
      (pss_cons (ps_set (i := 4) scMake.nd rfl (Or.inl rfl) pe_int)
      (pss_cons (ps_for PassesOwn.never rfl (pi_list (pv 1)) (pg_name (i := 5) scMake.nd rfl (Or.inl rfl))
        (pss_cons (ps_asg (pe_ix ix_list (pv 0) (pv 5) (fun _ _ => rfl)) (pg_tup rfl (pgs_cons (pg_name (i := 6) scMake.nd rfl (Or.inl rfl)) (pgs_cons (pg_name (i := 7) scMake.nd rfl (Or.inl rfl)) (pgs_cons (pg_name (i := 8) scMake.nd rfl (Or.inl rfl)) pgs_nil)))))
        (pss_cons (ps_set (i := 9) scMake.nd rfl (Or.inl rfl) (pe_callB (call_max2 rfl) (by rfl) T.max PyProof.Rows.boot_max (pa_cons (pe_op op_add (pe_op op_add (pv 3) (pv 6)) (pv 7)) (pa_cons (pv 4) pa_nil))))
        (pss_cons (ps_asg (pe_tup (pa_cons (pv 3) (pa_cons (pv 9) pa_nil))) (pg_sub (pv 2) (pv 5) set_list))
        (pss_cons (ps_aug (i := 3) scMake.nd rfl (Or.inl rfl) (pv 6) ip_add)
        (pss_one (ps_set (i := 4) scMake.nd rfl (Or.inl rfl) (pe_op op_add (pv 9) (pv 8)))))))))
      (pss_one (ps_ret (pe_tup (pa_cons (pv 2) (pa_cons (pv 4) pa_nil)))))))), ?_⟩
    -- begins = [(0, 0)] * len(things)
    refine ⟨(by show 2 ≤ sizeLine; decide), fun t nt => ⟨(by show 1 ≤ sizeLine; decide), fun p0 np0 => ⟨.ref l, rfl, l, tv zs, rfl, .inl ?_, p0, ((tv zs).length : Int), _, rfl, rfl, upd_same, ?_, ?_, ?_, fun q nq => ?_⟩⟩⟩
    · exact ex_l ((Ex.new nt).trans (Ex.new np0)) hT.ls
    · omega
    · rw [tv_len]; omega
    · show 1 * ((tv zs).length : Int).toNat ≤ sizeLine
      rw [Int.toNat_natCast, Nat.one_mul, tv_len]
      exact sz_of (by omega)
    have e1 : Ex H (upd (upd H t (.tup [.int 0, .int 0])) p0 (.lst [.ref t])) := (Ex.new nt).trans (Ex.new np0)
    generalize hH1 : upd (upd H t (.tup [.int 0, .int 0])) p0 (.lst [.ref t]) = H1 at nq e1
    have ht : H1 t = some (.tup [.int 0, .int 0]) := by
      rw [← hH1, upd_ne (fun z => by rw [z, upd_same] at np0; cases np0), upd_same]
    rw [Int.toNat_natCast, flat1, tv_len]
    have nq0 : H q = none := fresh_back e1 nq
    refine q_asg ev_c fun H2 e2 => q_asg ev_c fun H3 e3 => ?_
    refine q_forLn (a := a) (xs := ov o) (ev_var rfl) (ex_l (((e1.trans (Ex.new nq)).trans e2).trans e3) hS) (fun i σ' H' => ∃ (bs : List (Addr × (Int × Int))) (v5 v6 v7 v8 v9 : Option V), σ' = [some (.ref l), some (.ref a), some (.ref q), some (.int (going (ths zs) (o.take i)).2.1), some (.int (going (ths zs) (o.take i)).2.2), v5, v6, v7, v8, v9] ∧ Ex H H' ∧ Prs H' q bs ∧ ths bs = (going (ths zs) (o.take i)).1)
      (fun H4 e4 => ⟨List.replicate zs.length (t, (0, 0)), none, none, none, none, none, rfl, (((e1.trans (Ex.new nq)).trans e2).trans e3).trans e4, ⟨?_, ?_⟩, ?_⟩) (fun i σ' H' _ ⟨_, _, _, _, _, _, _, e', _⟩ => ex_l e' hS) ?_ ?_
    · rw [e4 _ _ (e3 _ _ (e2 _ _ upd_same))]
      unfold tv
      rw [List.map_replicate]
    · intro z hz
      obtain rfl := List.eq_of_mem_replicate hz
      exact e4 _ _ (e3 _ _ (e2 _ _ (Ex.new nq _ _ ht)))
    · show ths (List.replicate zs.length (t, ((0, 0) : Int × Int))) = List.replicate (ths zs).length (0, 0)
      unfold ths
      rw [List.map_replicate, List.length_map]
    · rintro i x σ' H' hi ⟨bs, v5, v6, v7, v8, v9, rfl, e', hP, hb⟩
      obtain ⟨c, hc, rfl⟩ := ov_get hi
      have hcn : c < zs.length := ho.lt (List.mem_of_getElem? hc)
      obtain ⟨z, hz⟩ : ∃ z, zs[c]? = some z := ⟨_, List.getElem?_eq_getElem hcn⟩
      have hzt : (ths zs).getD c th0 = z.2 := by
        unfold ths
        rw [List.getD_eq_getElem?_getD, List.getElem?_map, hz]
        rfl
      have hbl : bs.length = zs.length := by
        rw [← ths_len bs, hb, going_len, ths_len]
      have step : going (ths zs) (o.take (i + 1)) = stp (ths zs) (going (ths zs) (o.take i)) c := fold_more hc
      -- first, drying, second = things[count]
      refine ⟨.ref l, rfl, .int (c : Int), rfl, l, tv zs, (c : Int), .ref z.1, rfl, rfl, ex_l e' hT.ls, atI_nat (by unfold tv; rw [List.getElem?_map, hz]; rfl), z.1, iv z.2, rfl, ex_t e' (hT.it z (List.mem_of_getElem? hz)), rfl, _, _, rfl, _, _, rfl, _, _, rfl, rfl, ?_⟩
      refine q_asg (ev_cb (r := rMax2) (ea_cons (ev_op (ev_op (ev_var rfl) (ev_var rfl) rv_I0) (ev_var rfl) rv_I0) (ea_cons (ev_var rfl) ea_nil)) fun H1 e Q q => ⟨_, _, rfl, q H1 (Ex.refl H1)⟩) fun H5 e5 => ?_
      -- begins[count] = (free_first, begin_second)
      refine ⟨_, rfl, _, rfl, (by show 2 ≤ sizeLine; decide), fun r nr => ⟨_, rfl, _, rfl, q, tv bs, (c : Int), c, rfl, rfl, ?_, ixN_nat ?_, ?_⟩⟩
      · exact Ex.new nr _ _ (e5 _ _ hP.1)
      · rw [tv_len, hbl]; exact hcn
      have nrq : r ≠ q := fun z => by rw [z, e5 _ _ hP.1] at nr; cases nr
      have hE : Ex H (upd (upd H5 r (.tup [.int (going (ths zs) (o.take i)).2.1, .int (if (going (ths zs) (o.take i)).2.2 > (going (ths zs) (o.take i)).2.1 + z.2.1 + z.2.2.1 then (going (ths zs) (o.take i)).2.2 else (going (ths zs) (o.take i)).2.1 + z.2.1 + z.2.2.1)])) q (.lst ((tv bs).set c (.ref r)))) :=
        Ex.mut ((e'.trans e5).trans (Ex.new nr)) nq0
      refine q_aug rfl (ev_var rfl) fun H6 e6 => s_asg (ev_op (ev_var rfl) (ev_var rfl) rv_I0) fun H7 e7 => ⟨bs.set c (r, ((going (ths zs) (o.take i)).2.1, (if (going (ths zs) (o.take i)).2.2 > (going (ths zs) (o.take i)).2.1 + z.2.1 + z.2.2.1 then (going (ths zs) (o.take i)).2.2 else (going (ths zs) (o.take i)).2.1 + z.2.1 + z.2.2.1))), some (.int (c : Int)), some (.int z.2.1), some (.int z.2.2.1), some (.int z.2.2.2), some (.int (if (going (ths zs) (o.take i)).2.2 > (going (ths zs) (o.take i)).2.1 + z.2.1 + z.2.2.1 then (going (ths zs) (o.take i)).2.2 else (going (ths zs) (o.take i)).2.1 + z.2.1 + z.2.2.1)), ?_, (hE.trans e6).trans e7, ⟨?_, ?_⟩, ?_⟩
      · rw [step, stp_py hzt]
        rfl
      · rw [e7 _ _ (e6 _ _ upd_same), set_tv]
      · intro y hy
        refine e7 _ _ (e6 _ _ ?_)
        rcases List.mem_or_eq_of_mem_set hy with hy | rfl
        · have h1 := e5 _ _ (hP.2 y hy)
          rw [upd_ne (ne_of h1 (e5 _ _ hP.1) (by intro z; cases z)), upd_ne (ne_of_none h1 nr)]
          exact h1
        · rw [upd_ne nrq, upd_same]
      · rw [set_ths, hb, step, stp_py hzt]
    · rintro σ' H' ⟨bs, v5, v6, v7, v8, v9, rfl, e', hP, hb⟩
      rw [ov_len, List.take_length] at hb ⊢
      refine s_retU (eu_tup (ea_cons (ev_var rfl) (ea_cons (ev_var rfl) ea_nil)) (by show 2 ≤ 100000; decide)) fun p H1 np e1 hp => ?_
      exact k p q bs H1 (e'.trans e1) nq0 ⟨e1 _ _ hP.1, fun z hz => e1 _ _ (hP.2 z hz)⟩ hb hp
theorem scDone : FnScope ["things", "order", "_", "end"] ["things", "order"] (defScope sDone) := ⟨rfl, rfl, rfl, by decide +kernel, rfl, by decide +kernel, by decide +kernel⟩
theorem scStarts : FnScope ["things", "order", "begins", "_"] ["things", "order"] (defScope sStarts) := ⟨rfl, rfl, rfl, by decide +kernel, rfl, by decide +kernel, by decide +kernel⟩
/-- what done and starts call -/
structure Cks (K : PySem.W.Frag) (mg : Str → Option Value) (P : Program) (w : World) (base : Heap) (fT fO fM : Addr) (fdT fdO fdM : FuncData) : Prop where
  gT : mg "check_things" = some (.ref fT)
  FT : Fun K "check_things" "check_things" sCkT fT fdT
  bT : Binds K fdT ["things"] []
  GT : FnOk P w K mg base CX0 4 fT fdT ["things"] (spCkT K)
  gO : mg "check_order" = some (.ref fO)
  FO : Fun K "check_order" "check_order" sCkO fO fdO
  bO : Binds K fdO ["order", "many"] []
  GO : FnOk P w K mg base CX0 3 fO fdO ["order", "many"] (spCkO K)
  gM : mg "make_in_order" = some (.ref fM)
  FM : Fun K "make_in_order" "make_in_order" sMake fM fdM
  bM : Binds K fdM ["things", "order"] []
  GM : FnOk P w K mg base CX0 1 fM fdM ["things", "order"] (spMake K)
theorem ok_done {f fT fO fM : Addr} {fd fdT fdO fdM : FuncData} (F : Fun K "done" "done" sDone f fd) (T : Bn mg) (C : Cks K mg P w base fT fO fM fdT fdO fdM) : FnOk P w K mg base CX0 5 f fd ["things", "order"] (spDone K) := by
  refine F.ok scDone (fun vs H Q E h => ?_) (fun cdv A outer s H vs Q E hr h => ?_)
  · obtain ⟨l, a, zs, o, rfl, _⟩ := h
    rfl
  · obtain ⟨l, a, zs, o, rfl, hT, hS, ho, k⟩ := h
    refine ⟨_, pss_cons (ps_expr (pe_call C.GT hr (by rfl) C.gT C.FT.kp C.bT .nil pass0 (pa_cons (pv 0) pa_nil)))
      (pss_cons (ps_expr (pe_call C.GO (hr.mono (by decide)) (by rfl) C.gO C.FO.kp C.bO .nil pass0 (pa_cons (pv 1) (pa_cons (pe_callB call_len_seq (by rfl) T.len PySem.boot_len (pa_cons (pv 0) pa_nil)) pa_nil))))
      (pss_cons (ps_asg (pe_call C.GM (hr.mono (by decide)) (by rfl) C.gM C.FM.kp C.bM .nil pass0 (pa_cons (pv 0) (pa_cons (pv 1) pa_nil))) (pg_tup rfl (pgs_cons (pg_name (i := 2) scDone.nd rfl (Or.inl rfl)) (pgs_cons (pg_name (i := 3) scDone.nd rfl (Or.inl rfl)) pgs_nil))))
      (pss_one (ps_ret (pv 3))))), ?_⟩
    refine q_drop (ev_call (z := .non) (ea_cons (ev_var rfl) ea_nil) fun H3 e3 Q q E => ⟨l, zs, rfl, hT.mono e3, q⟩) fun H1 e1 => ?_
    refine q_drop (ev_call (z := .non) (ea_cons (ev_var rfl) (ea_cons (ev_cb (ea_cons (ev_var rfl) ea_nil) (rc_lenL (ex_l e1 hT.ls))) ea_nil)) fun H3 e3 Q q E => ⟨a, o, zs.length, by rw [tv_len]; rfl, ex_l (e1.trans e3) hS, ho, hT.le, q⟩) fun H2 e2 => ?_
    refine ⟨_, rfl, _, rfl, l, a, zs, o, rfl, hT.mono (e1.trans e2), ex_l (e1.trans e2) hS, ho, fun p q bs H3 e3 nq hP hb hp => ?_⟩
    exact ⟨p, _, rfl, st_of hp, rfl, _, _, rfl, _, _, rfl, rfl, s_ret (ev_var rfl) fun H4 e4 => k.go (((e1.trans e2).trans e3).trans e4)⟩
theorem ok_starts {f fT fO fM : Addr} {fd fdT fdO fdM : FuncData} (F : Fun K "starts" "starts" sStarts f fd) (T : Bn mg) (C : Cks K mg P w base fT fO fM fdT fdO fdM) : FnOk P w K mg base CX0 5 f fd ["things", "order"] (spStarts K) := by
  refine F.ok scStarts (fun vs H Q E h => ?_) (fun cdv A outer s H vs Q E hr h => ?_)
  · obtain ⟨l, a, zs, o, rfl, _⟩ := h
    rfl
  · obtain ⟨l, a, zs, o, rfl, hT, hS, ho, k⟩ := h
    refine ⟨_, pss_cons (ps_expr (pe_call C.GT hr (by rfl) C.gT C.FT.kp C.bT .nil pass0 (pa_cons (pv 0) pa_nil)))
      (pss_cons (ps_expr (pe_call C.GO (hr.mono (by decide)) (by rfl) C.gO C.FO.kp C.bO .nil pass0 (pa_cons (pv 1) (pa_cons (pe_callB call_len_seq (by rfl) T.len PySem.boot_len (pa_cons (pv 0) pa_nil)) pa_nil))))
      (pss_cons (ps_asg (pe_call C.GM (hr.mono (by decide)) (by rfl) C.gM C.FM.kp C.bM .nil pass0 (pa_cons (pv 0) (pa_cons (pv 1) pa_nil))) (pg_tup rfl (pgs_cons (pg_name (i := 2) scStarts.nd rfl (Or.inl rfl)) (pgs_cons (pg_name (i := 3) scStarts.nd rfl (Or.inl rfl)) pgs_nil))))
      (pss_one (ps_ret (pv 2))))), ?_⟩
    refine q_drop (ev_call (z := .non) (ea_cons (ev_var rfl) ea_nil) fun H3 e3 Q q E => ⟨l, zs, rfl, hT.mono e3, q⟩) fun H1 e1 => ?_
    refine q_drop (ev_call (z := .non) (ea_cons (ev_var rfl) (ea_cons (ev_cb (ea_cons (ev_var rfl) ea_nil) (rc_lenL (ex_l e1 hT.ls))) ea_nil)) fun H3 e3 Q q E => ⟨a, o, zs.length, by rw [tv_len]; rfl, ex_l (e1.trans e3) hS, ho, hT.le, q⟩) fun H2 e2 => ?_
    refine ⟨_, rfl, _, rfl, l, a, zs, o, rfl, hT.mono (e1.trans e2), ex_l (e1.trans e2) hS, ho, fun p q bs H3 e3 nq hP hb hp => ?_⟩
    refine ⟨p, _, rfl, st_of hp, rfl, _, _, rfl, _, _, rfl, rfl, s_ret (ev_var rfl) fun H4 e4 => ?_⟩
    exact k q bs H4 (((e1.trans e2).trans e3).trans e4) (fresh_back (e1.trans e2) nq) ⟨e4 _ _ hP.1, fun z hz => e4 _ _ (hP.2 z hz)⟩ hb
end
end Bp
namespace Bp
open PySem L2 Evl
abbrev sCell : Stmt := top 15
abbrev sDraw : Stmt := top 16
abbrev sThings : Stmt := top 17
abbrev sLdone : Stmt := top 18
abbrev sLwhole : Stmt := top 21
abbrev sDrawn : Stmt := top 22
/-! ### draws -/
def primes : List Int := [1000003, 1000033, 1000037, 1000039, 1000081, 1000099, 1000117, 1000121, 1000133, 1000151, 1000159, 1000171, 1000183, 1000187, 1000193, 1000199]
def drawF (c k m : Int) : Int := (c * 48271 + k * 69621) % primes.getD (k % 16).toNat 1 % m
theorem drawF_lt {c k m : Int} (h : 0 < m) : 0 ≤ drawF c k m ∧ drawF c k m < m := ⟨Int.emod_nonneg _ (by omega), Int.emod_lt_of_pos _ h⟩
theorem prime_pos (j : Nat) : 0 < primes.getD j 1 := by
  rw [List.getD_eq_getElem?_getD]
  cases e : primes[j]? with
  | none => decide
  | some p =>
    have : ∀ p ∈ primes, 0 < p := by decide
    exact this p (List.mem_of_getElem? e)
theorem prime_at (k : Int) : atI (primes.map V.int) (k % 16) = some (.int (primes.getD (k % 16).toNat 1)) := by
  have h1 : 0 ≤ k % 16 := Int.emod_nonneg _ (by decide)
  have h2 : k % 16 < 16 := Int.emod_lt_of_pos _ (by decide)
  have h3 : (k % 16).toNat < primes.length := by show (k % 16).toNat < 16; omega
  refine at_of (j := (k % 16).toNat) (by omega) ?_
  rw [List.getElem?_map, List.getD_eq_getElem?_getD, List.getElem?_eq_getElem h3]
  rfl
/-! ### more readings -/
section
variable {K : PySem.W.Frag} {σ : L2.St} {H : Hp} {ta : TA} {tz : TS} {D : Ends}
theorem q_par {i j : Nat} {u v : V} (h : EvA ta σ H [u, v]) (k : ∀ H1, Ex H H1 → tz D ((σ.set i (some u)).set j (some v)) H1) : tSeq (tPar i j ta) tz D σ H :=
  h H (Ex.refl H) _ fun H1 e => ⟨u, v, rfl, k H1 e⟩
theorem s_par {i j : Nat} {u v : V} (h : EvA ta σ H [u, v]) (k : ∀ H1, Ex H H1 → D.nx ((σ.set i (some u)).set j (some v)) H1) : tPar i j ta D σ H :=
  h H (Ex.refl H) _ fun H1 e => ⟨u, v, rfl, k H1 e⟩
theorem q_par3 {i j l : Nat} {u v w : V} (h : EvA ta σ H [u, v, w]) (k : ∀ H1, Ex H H1 → tz D (((σ.set i (some u)).set j (some v)).set l (some w)) H1) : tSeq (tPar3 i j l ta) tz D σ H :=
  h H (Ex.refl H) _ fun H1 e => ⟨u, v, w, rfl, k H1 e⟩
theorem given_all (n : Nat) (v : Nat → V) : given n (fun _ => true) v = (List.range n).map v := by
  unfold given
  rw [List.filter_eq_self.mpr fun _ _ => rfl]
theorem range_map {α β : Type} (l : List α) (d : α) (f : α → β) : (List.range l.length).map (fun i => f (l.getD i d)) = l.map f := by
  refine List.ext_getElem (by simp) fun i h1 h2 => ?_
  have h3 : i < l.length := by simpa using h1
  simp [List.getD_eq_getElem?_getD, List.getElem?_eq_getElem h3]
theorem rc_sum {a : Addr} {ns : List Int} (h : SqL K H a (ns.map V.int)) : RC (rSum K) [.ref a] H (.int ns.sum) := fun H1 e Q q => ⟨a, ns, rfl, ex_l e h, q H1 (Ex.refl H1)⟩
end
/-! ### the promises of the law's own helpers -/
def spCell (K : PySem.W.Frag) : Sp := fun vs H Q _ => ∃ (a : Addr) (ns : List Int) (k : Nat), vs = [.ref a, .int (k : Int)] ∧ SqL K H a (ns.map V.int) ∧ RetV (.int (ns.getD k 0)) H Q
def spDraw : Sp := fun vs H Q _ => ∃ c k m : Int, vs = [.int c, .int k, .int m] ∧ 0 < m ∧ RetV (.int (drawF c k m)) H Q
def spLdone (K : PySem.W.Frag) : Sp := fun vs H Q _ => ∃ (l a : Addr) (zs : List (Addr × Th)) (o : List Nat), vs = [.ref l, .ref a] ∧ Ths K H l zs ∧ SqL K H a (ov o) ∧ Ord zs.length o ∧ RetV (.int ((path (ths zs) o).foldl ldS (0, B (path (ths zs) o), 0)).2.2) H Q
def spDrawn (K : PySem.W.Frag) : Sp := fun vs H Q _ => ∃ (a : Addr) (ns : List Int) (n : Nat), vs = [.ref a, .int (n : Int)] ∧ SqL K H a (ns.map V.int) ∧ ns.length ≤ 63 ∧ n ≤ 1000 ∧
  ∀ (l : Addr) (o : List Nat) (H' : Hp), Ex H H' → H l = none → H' l = some (.lst (ov o)) → Ord n o → Q (.ref l) H'
def Bd (t : Th) : Prop := (0 ≤ t.1 ∧ t.1 < 10 ^ 59) ∧ (0 ≤ t.2.1 ∧ t.2.1 < 10 ^ 59) ∧ (0 ≤ t.2.2 ∧ t.2.2 < 10 ^ 59)
theorem Bd.nn {t : Th} (h : Bd t) : Nn t := ⟨h.1.1, h.2.1.1, h.2.2.1⟩
def spThings (K : PySem.W.Frag) : Sp := fun vs H Q _ => ∃ (a : Addr) (ns : List Int), vs = [.ref a] ∧ SqL K H a (ns.map V.int) ∧ ns.length ≤ 63 ∧
  ∀ (l : Addr) (zs : List (Addr × Th)) (H' : Hp), Ex H H' → H l = none → H' l = some (.lst (tv zs)) → (∀ z ∈ zs, H' z.1 = some (.tup (iv z.2)) ∧ Bd z.2) → zs.length ≤ 189 → Q (.ref l) H'
section
variable {P : Program} {w : World} {K : PySem.W.Frag} {mg : Str → Option Value} {base : Heap}
theorem scCell : FnScope ["_law_script", "_law_k"] ["_law_script", "_law_k"] (defScope sCell) := ⟨rfl, rfl, rfl, by decide +kernel, rfl, by decide +kernel, by decide +kernel⟩
theorem ok_cell {f : Addr} {fd : FuncData} (F : Fun K "_law_cell_at" "_law_cell_at" sCell f fd) (T : Bn mg) : FnOk P w K mg base CX0 1 f fd ["_law_script", "_law_k"] (spCell K) := by
  refine F.ok scCell (fun vs H Q E h => ?_) (fun cdv A outer s H vs Q E hr h => ?_)
  · obtain ⟨a, ns, k, rfl, _⟩ := h
    rfl
  · obtain ⟨a, ns, k, rfl, hS, q⟩ := h
    refine ⟨_, pss_cons (ps_if (pt_cmpR op_lt (pv 1) (pe_callB call_len_seq (by rfl) T.len PySem.boot_len (pa_cons (pv 0) pa_nil)) (nomark _)) (pss_one (ps_ret (pe_ix ix_list (pv 0) (pv 1) (fun _ _ => rfl)))) pss_nil)
      (pss_one (ps_ret pe_int)), ?_⟩
    refine q_when (b := decide ((k : Int) < ((ns.map V.int).length : Int))) (et_test (ev_op (ev_var rfl) (ev_cb (ea_cons (ev_var rfl) ea_nil) (rc_lenL hS)) rv_I0)) (fun hb H1 e1 => ?_) (fun hb H1 e1 => ?_)
    · have hk : k < ns.length := by
        have := of_decide_eq_true hb
        rw [List.length_map] at this
        omega
      refine s_ret (ev_op (ev_var rfl) (ev_var rfl) (rv_ixL (v := .int (ns.getD k 0)) (ex_l e1 hS) (atI_nat ?_))) fun H2 e2 => q.go (e1.trans e2)
      rw [List.getElem?_map, List.getD_eq_getElem?_getD, List.getElem?_eq_getElem hk]
      rfl
    · have hk : ns.length ≤ k := by
        have := of_decide_eq_false hb
        rw [List.length_map] at this
        omega
      have e0 : ns.getD k 0 = 0 := by rw [List.getD_eq_getElem?_getD, List.getElem?_eq_none hk]; rfl
      rw [e0] at q
      exact s_ret ev_c fun H2 e2 => q.go (e1.trans e2)
theorem scDraw : FnScope ["_law_cell", "_law_k", "_law_many", "_law_primes"] ["_law_cell", "_law_k", "_law_many"] (defScope sDraw) := ⟨rfl, rfl, rfl, by decide +kernel, rfl, by decide +kernel, by decide +kernel⟩
theorem ok_draw {f : Addr} {fd : FuncData} (F : Fun K "_law_draw" "_law_draw" sDraw f fd) : FnOk P w K mg base CX0 1 f fd ["_law_cell", "_law_k", "_law_many"] spDraw := by
  refine F.ok scDraw (fun vs H Q E h => ?_) (fun cdv A outer s H vs Q E hr h => ?_)
  · obtain ⟨c, k, m, rfl, _⟩ := h
    rfl
  · obtain ⟨c, k, m, rfl, hm, q⟩ := h
    refine ⟨_, pss_cons (ps_set (i := 3) scDraw.nd rfl (Or.inl rfl) (pe_tup (pa_cons pe_int (pa_cons pe_int (pa_cons pe_int (pa_cons pe_int (pa_cons pe_int (pa_cons pe_int (pa_cons pe_int (pa_cons pe_int (pa_cons pe_int (pa_cons pe_int (pa_cons pe_int (pa_cons pe_int (pa_cons pe_int (pa_cons pe_int (pa_cons pe_int (pa_cons pe_int pa_nil))))))))))))))))))
      (pss_one (ps_ret (pe_op op_mod (pe_op op_mod (pe_op op_add (pe_op op_mul (pv 0) pe_int) (pe_op op_mul (pv 1) pe_int)) (pe_ix ix_tup (pv 3) (pe_op op_mod (pv 1) pe_int) (fun _ _ => rfl))) (pv 2)))), ?_⟩
    refine q_asgU (xs := primes.map V.int) (eu_tup (ea_cons ev_c (ea_cons ev_c (ea_cons ev_c (ea_cons ev_c (ea_cons ev_c (ea_cons ev_c (ea_cons ev_c (ea_cons ev_c (ea_cons ev_c (ea_cons ev_c (ea_cons ev_c (ea_cons ev_c (ea_cons ev_c (ea_cons ev_c (ea_cons ev_c (ea_cons ev_c ea_nil)))))))))))))))) (by decide)) fun p H1 np e1 hp => ?_
    refine s_ret (v := .int (drawF c k m)) (ev_op (ev_op (ev_op (ev_op (ev_var rfl) ev_c (rv_I (.inr (by decide)))) (ev_op (ev_var rfl) ev_c (rv_I (.inr (by decide)))) rv_I0)
      (ev_op (ev_var rfl) (ev_op (ev_var rfl) ev_c (rv_I (by decide))) (rv_ixT (st_of hp) (prime_at k))) (rv_I (prime_pos _))) (ev_var rfl) (rv_I hm)) fun H2 e2 => q.go (e1.trans e2)
theorem scLwhole : FnScope ["_law_number"] ["_law_number"] (defScope sLwhole) := ⟨rfl, rfl, rfl, by decide +kernel, rfl, by decide +kernel, by decide +kernel⟩
theorem ok_lwhole {f : Addr} {fd : FuncData} (F : Fun K "_law_whole" "_law_whole" sLwhole f fd) (T : Bn mg) : FnOk P w K mg base CX0 1 f fd ["_law_number"] spWhole := by
  refine F.ok scLwhole (fun vs H Q E h => ?_) (fun cdv A outer s H vs Q E hr h => ?_)
  · obtain ⟨i, rfl, _⟩ := h
    rfl
  · obtain ⟨i, rfl, k⟩ := h
    refine ⟨_, pss_one (ps_ret (pe_and (pe_callB call_isi (by rfl) T.isi (by decide +kernel) (pa_cons (pv 0) (pa_cons (pe_bltn (v := .ty "int") (by rfl) T.int PyProof.Rows.boot_int rfl) pa_nil)))
      (pe_one (pe_not (pe_callB call_isi (by rfl) T.isi (by decide +kernel) (pa_cons (pv 0) (pa_cons (pe_bltn (v := .ty "bool") (by rfl) T.bool PyProof.Rows.boot_bool rfl) pa_nil))))))), ?_⟩
    refine s_ret (v := .bl (true && !false)) (ev_andV (ev_cb (ea_cons (ev_var rfl) (ea_cons ev_c ea_nil)) (rc_isi ty_int (by decide +kernel))) fun _ =>
      ev_notV (ev_cb (ea_cons (ev_var rfl) (ea_cons ev_c ea_nil)) (rc_isi ty_int (by decide +kernel)))) fun H1 e => k.go e
/-! ### _law_done -/
theorem things_at {H : Hp} {l : Addr} {zs : List (Addr × Th)} {c : Nat} (h : Ths K H l zs) (hc : c < zs.length) : ∃ z, zs[c]? = some z ∧ (ths zs).getD c th0 = z.2 ∧ (tv zs)[c]? = some (.ref z.1) := by
  refine ⟨zs[c], List.getElem?_eq_getElem hc, ?_, ?_⟩
  · unfold ths
    rw [List.getD_eq_getElem?_getD, List.getElem?_map, List.getElem?_eq_getElem hc]
    rfl
  · unfold tv
    rw [List.getElem?_map, List.getElem?_eq_getElem hc]
    rfl
/-- things[c][j] -/
theorem ev_part {σ : L2.St} {H : Hp} {l : Addr} {zs : List (Addr × Th)} {c j : Nat} {v : V} {tl tc tj : TE} (h : Ths K H l zs) (hc : c < zs.length) (hv : (iv ((ths zs).getD c th0))[j]? = some v) (h1 : Ev tl σ H (.ref l)) (h2 : Ev tc σ H (.int (c : Int))) (h3 : Ev tj σ H (.int (j : Int))) :
    Ev (tOp (rIxT K) (tOp (rIxL K) tl tc) tj) σ H v := by
  obtain ⟨z, e1, e2, e3⟩ := things_at h hc
  rw [e2] at hv
  exact ev_op (ev_op h1 h2 (rv_ixL h.ls (atI_nat e3))) h3 (rv_ixT (h.it z (List.mem_of_getElem? e1)) (atI_nat hv))
theorem scLdone : FnScope ["_law_things_here", "_law_order_here", "_law_at", "_law_ahead", "_law_behind", "_law_found"] ["_law_things_here", "_law_order_here"] (defScope sLdone) := ⟨rfl, rfl, rfl, by decide +kernel, rfl, by decide +kernel, by decide +kernel⟩
theorem path_at (ts : List Th) {o : List Nat} {i c : Nat} (h : o[i]? = some c) : (path ts o)[i]? = some (ts.getD c th0) := by
  unfold path
  rw [List.getElem?_map, h]
  rfl
theorem path_len (ts : List Th) (o : List Nat) : (path ts o).length = o.length := List.length_map _
theorem ldS_py (s : Int × Int × Int) (t : Th) : ldS s t = (s.1 + t.1, s.2.1 - t.2.2, if s.1 + t.1 + t.2.1 + s.2.1 > s.2.2 then s.1 + t.1 + t.2.1 + s.2.1 else s.2.2) := by simp only [ldS, max_py]
theorem ok_ldone {f : Addr} {fd : FuncData} (F : Fun K "_law_done" "_law_done" sLdone f fd) (T : Bn mg) : FnOk P w K mg base CX0 1 f fd ["_law_things_here", "_law_order_here"] (spLdone K) := by
  refine F.ok scLdone (fun vs H Q E h => ?_) (fun cdv A outer s H vs Q E hr h => ?_)
  · obtain ⟨l, a, zs, o, rfl, _⟩ := h
    rfl
  · obtain ⟨l, a, zs, o, rfl, hT, hS, ho, q⟩ := h
    have hl := ho.len
    have hz := hT.le
    refine ⟨_, pss_cons (ps_par3 (i := 3) (j := 4) (l := 5) rfl scLdone.nd rfl rfl rfl (by decide) (by decide) (by decide) rfl rfl rfl (pa_cons pe_int (pa_cons (pe_callB (cr_sum rfl) (by rfl) T.sum PyProof.Rows.boot_sum
        (pa_cons (pe_lc (own := [("_law_at", 2)]) (g := gName 2) (tt := tYes) rfl scLdone.nd (pi_list (pv 1)) (blkOk_by (N := ["_law_things_here", "_law_order_here", "_law_at", "_law_ahead", "_law_behind", "_law_found"]) (sc := defScope sLdone) (by decide +kernel))
          (fun _ _ _ _ _ => pg_name (i := 2) scLdone.nd rfl (Or.inl rfl)) (fun _ _ _ _ _ => pts_nil) (fun _ _ _ _ _ => pe_ix (show IxR _ (rIxT K) from ix_tup) (pe_ix (show IxR _ (rIxL K) from ix_list) (pv 0) (pv 2) (fun _ _ => rfl)) pe_int (fun _ _ => rfl))) pa_nil)) (pa_cons pe_int pa_nil))) (by rfl))
      (pss_cons (ps_for PassesOwn.never rfl (pi_list (pv 1)) (pg_name (i := 2) scLdone.nd rfl (Or.inl rfl))
        (pss_cons (ps_set (i := 3) scLdone.nd rfl (Or.inl rfl) (pe_op op_add (pv 3) (pe_ix ix_tup (pe_ix ix_list (pv 0) (pv 2) (fun _ _ => rfl)) pe_int (fun _ _ => rfl))))
        (pss_cons (ps_set (i := 5) scLdone.nd rfl (Or.inl rfl) (pe_callB (call_max2 rfl) (by rfl) T.max PyProof.Rows.boot_max (pa_cons (pv 5) (pa_cons (pe_op op_add (pe_op op_add (pv 3) (pe_ix ix_tup (pe_ix ix_list (pv 0) (pv 2) (fun _ _ => rfl)) pe_int (fun _ _ => rfl))) (pv 4)) pa_nil))))
        (pss_one (ps_set (i := 4) scLdone.nd rfl (Or.inl rfl) (pe_op op_sub (pv 4) (pe_ix ix_tup (pe_ix ix_list (pv 0) (pv 2) (fun _ _ => rfl)) pe_int (fun _ _ => rfl))))))))
      (pss_one (ps_ret (pv 5)))), ?_⟩
    refine q_par3 (u := .int 0) (v := .int (B (path (ths zs) o))) (w := .int 0) (ea_cons ev_c (ea_cons (ev_cbL (el_lcL (a := a) (xs := ov o) (fun _ => true) (fun i => .int ((path (ths zs) o).getD i th0).2.2) (ev_var rfl) hS (by rw [ov_len]; omega) (fun x => rfl) (fun i x H1 e1 hi => et_yes) fun i x H1 e1 hi _ => ?_) fun p H1 e1 hp => ?_) (ea_cons ev_c ea_nil))) fun H1 e1 => ?_
    · obtain ⟨c, hc, rfl⟩ := ov_get hi
      refine ev_part (hT.mono e1) (ho.lt (List.mem_of_getElem? hc)) (j := 2) ?_ (ev_var rfl) (ev_var rfl) ev_c
      have hp : (path (ths zs) o).getD i th0 = (ths zs).getD c th0 := by
        rw [List.getD_eq_getElem?_getD, path_at _ hc]
        rfl
      rw [hp]
      rfl
    · rw [given_all, ov_len, ← path_len (ths zs) o] at hp
      rw [range_map (path (ths zs) o) th0 (fun t => V.int t.2.2)] at hp
      have := rc_sum (K := K) (H := H1) (a := p) (ns := (path (ths zs) o).map fun t => t.2.2) (sq_of (by rw [hp, List.map_map]; rfl))
      rw [← B_sum] at this
      exact this
    refine q_forLn (a := a) (xs := ov o) (ev_var rfl) (ex_l e1 hS) (fun i σ' H' => ∃ v2 : Option V, σ' = [some (.ref l), some (.ref a), v2, some (.int (((path (ths zs) o).take i).foldl ldS (0, B (path (ths zs) o), 0)).1), some (.int (((path (ths zs) o).take i).foldl ldS (0, B (path (ths zs) o), 0)).2.1), some (.int (((path (ths zs) o).take i).foldl ldS (0, B (path (ths zs) o), 0)).2.2)] ∧ Ex H H')
      (fun H2 e2 => ⟨none, rfl, e1.trans e2⟩) (fun i σ' H' _ ⟨_, _, e'⟩ => ex_l e' hS) ?_ ?_
    · rintro i x σ' H' hi ⟨v2, rfl, e'⟩
      obtain ⟨c, hc, rfl⟩ := ov_get hi
      have hcn : c < zs.length := ho.lt (List.mem_of_getElem? hc)
      rw [fold_more (path_at (ths zs) hc)]
      refine q_asg (ev_op (ev_var rfl) (ev_part (hT.mono e') hcn (j := 0) rfl (ev_var rfl) (ev_var rfl) ev_c) rv_I0) fun H2 e2 => ?_
      refine q_asg (ev_cb (r := rMax2) (ea_cons (ev_var rfl) (ea_cons (ev_op (ev_op (ev_var rfl) (ev_part (hT.mono (e'.trans e2)) hcn (j := 1) rfl (ev_var rfl) (ev_var rfl) ev_c) rv_I0) (ev_var rfl) rv_I0) ea_nil)) fun H1 e Q q => ⟨_, _, rfl, q H1 (Ex.refl H1)⟩) fun H3 e3 => ?_
      refine s_asg (ev_op (ev_var rfl) (ev_part (hT.mono ((e'.trans e2).trans e3)) hcn (j := 2) rfl (ev_var rfl) (ev_var rfl) ev_c) rv_I0) fun H4 e4 => ⟨some (.int (c : Int)), ?_, ((e'.trans e2).trans e3).trans e4⟩
      rw [ldS_py]
      rfl
    · rintro σ' H' ⟨v2, rfl, e'⟩
      rw [ov_len, ← path_len (ths zs) o, List.take_length]
      exact s_ret (ev_var rfl) fun H2 e2 => q.go (e'.trans e2)
/-! ### _law_drawn -/
theorem Ord.ins' {n : Nat} {o : List Nat} (h : Ord n o) (i : Nat) : Ord (n + 1) (o.take i ++ [n] ++ o.drop i) := by
  unfold Ord
  rw [List.append_assoc, List.singleton_append, List.range_succ]
  refine List.perm_middle.trans ?_
  rw [List.take_append_drop]
  refine (h.cons n).trans ?_
  exact (List.perm_append_singleton n (List.range n)).symm
theorem scDrawn : FnScope ["_law_script", "_law_many", "_law_found", "_law_at", "_law_spot"] ["_law_script", "_law_many"] (defScope sDrawn) := ⟨rfl, rfl, rfl, by decide +kernel, rfl, by decide +kernel, by decide +kernel⟩
theorem ok_drawn {f fC fD : Addr} {fd fdC fdD : FuncData} (F : Fun K "_law_drawn" "_law_drawn" sDrawn f fd) (T : Bn mg) (gC : mg "_law_cell_at" = some (.ref fC)) (FC : Fun K "_law_cell_at" "_law_cell_at" sCell fC fdC) (bC : Binds K fdC ["_law_script", "_law_k"] []) (GC : FnOk P w K mg base CX0 1 fC fdC ["_law_script", "_law_k"] (spCell K))
    (gD : mg "_law_draw" = some (.ref fD)) (FD : Fun K "_law_draw" "_law_draw" sDraw fD fdD) (bD : Binds K fdD ["_law_cell", "_law_k", "_law_many"] []) (GD : FnOk P w K mg base CX0 1 fD fdD ["_law_cell", "_law_k", "_law_many"] spDraw) : FnOk P w K mg base CX0 2 f fd ["_law_script", "_law_many"] (spDrawn K) := by
  refine F.ok scDrawn (fun vs H Q E h => ?_) (fun cdv A outer s H vs Q E hr h => ?_)
  · obtain ⟨a, ns, n, rfl, _⟩ := h
    rfl
  · obtain ⟨a, ns, n, rfl, hS, hz, hn, q⟩ := h
    refine ⟨_, pss_cons (ps_set (i := 2) scDrawn.nd rfl (Or.inl rfl) (pe_lst pa_nil))
      (pss_cons (ps_for PassesOwn.never rfl (pi_range1 rfl T.range (pa_cons (pv 1) pa_nil)) (pg_name (i := 3) scDrawn.nd rfl (Or.inl rfl))
        (pss_cons (ps_set (i := 4) scDrawn.nd rfl (Or.inl rfl) (pe_call GD hr (by rfl) gD FD.kp bD .nil pass0
          (pa_cons (pe_op op_mul (pe_call GC hr (by rfl) gC FC.kp bC .nil pass0 (pa_cons (pv 0) (pa_cons (pe_op op_mod (pv 3) (pe_callB (call_max2 rfl) (by rfl) T.max PyProof.Rows.boot_max (pa_cons pe_int (pa_cons (pe_callB call_len_seq (by rfl) T.len PySem.boot_len (pa_cons (pv 0) pa_nil)) pa_nil)))) pa_nil))) (pe_op op_add (pv 3) pe_int))
          (pa_cons (pe_op op_add (pe_op op_mod (pv 3) pe_int) pe_int) (pa_cons (pe_op op_add (pv 3) pe_int) pa_nil)))))
        (pss_one (ps_expr (pe_bm PySem.F.plainAttrs_list PySem.F.slot_list_insert PySem.F.type_list_insert mt_insert (pv 2) (pa_cons (pv 4) (pa_cons (pv 3) pa_nil)))))))
      (pss_one (ps_ret (pv 2)))), ?_⟩
    refine q_asgL (el_lst ea_nil (by decide)) fun l H1 nl e1 hl => ?_
    refine q_forR1 (n := (n : Int)) (ea_cons (ev_var rfl) ea_nil) (by omega) (fun i σ' H' => ∃ (o : List Nat) (v3 v4 : Option V), σ' = [some (.ref a), some (.int (n : Int)), some (.ref l), v3, v4] ∧ Ex H H' ∧ H' l = some (.lst (ov o)) ∧ Ord i o)
      (fun H2 e2 => ⟨[], none, none, rfl, e1.trans e2, e2 _ _ hl, Ord.range 0⟩) ?_ ?_
    · rintro i σ' H' hi ⟨o, v3, v4, rfl, e', ho, hO⟩
      have hol := hO.len
      have hmx : 0 < (if ((ns.map V.int).length : Int) > 1 then ((ns.map V.int).length : Int) else 1) := by split <;> omega
      generalize hmm : (if ((ns.map V.int).length : Int) > 1 then ((ns.map V.int).length : Int) else 1) = mx at hmx
      have hr1 : 0 ≤ (i : Int) % mx := Int.emod_nonneg _ (by omega)
      obtain ⟨j, hj⟩ : ∃ j : Nat, (i : Int) % mx = (j : Int) := ⟨((i : Int) % mx).toNat, by omega⟩
      have hd := drawF_lt (c := ns.getD j 0 * ((i : Int) + 2)) (k := (i : Int) % 9 + 1) (m := (i : Int) + 1) (by omega)
      generalize hdd : drawF (ns.getD j 0 * ((i : Int) + 2)) ((i : Int) % 9 + 1) ((i : Int) + 1) = d at hd
      refine q_asg (v := .int d) (ev_call (ea_cons (ev_op (ev_call (z := .int (ns.getD j 0)) (ea_cons (ev_var rfl) (ea_cons (ev_op (ev_var rfl) (ev_cb (z := .int mx) (r := rMax2) (ea_cons ev_c (ea_cons (ev_cb (ea_cons (ev_var rfl) ea_nil) (rc_lenL (ex_l e' hS))) ea_nil)) fun H1 e Q q => ⟨_, _, rfl, by rw [hmm]; exact q H1 (Ex.refl H1)⟩) (rv_I hmx)) ea_nil)) fun H1 e Q q E => ⟨a, ns, j, by rw [hj]; rfl, ex_l (e'.trans e) hS, q⟩)
        (ev_op (ev_var rfl) ev_c rv_I0) (rv_I (.inr (by omega)))) (ea_cons (ev_op (ev_op (ev_var rfl) ev_c (rv_I (by decide))) ev_c rv_I0) (ea_cons (ev_op (ev_var rfl) ev_c rv_I0) ea_nil))) fun H1 e Q q E => ⟨_, _, _, rfl, by omega, by rw [hdd]; exact q⟩) fun H2 e2 => ?_
      refine ⟨.ref l, rfl, Or.inl ⟨rfl, _, sq_of (e2 _ _ ho)⟩, _, rfl, _, rfl, l, ov o, d, .int (i : Int), rfl, rfl, e2 _ _ ho, ?_, hd.1, by omega, ?_⟩
      · rw [ov_len]
        exact sz_lt (by omega)
      · refine ⟨o.take d.toNat ++ [i] ++ o.drop d.toNat, _, _, rfl, Ex.mut (e'.trans e2) nl, ?_, hO.ins' _⟩
        rw [upd_same]
        unfold ov
        rw [List.map_append, List.map_append, List.map_take, List.map_drop]
        rfl
    · rintro σ' H' ⟨o, v3, v4, rfl, e', ho, hO⟩
      rw [Int.toNat_natCast] at hO
      exact s_ret (ev_var rfl) fun H2 e2 => q l o H2 (e'.trans e2) nl (e2 _ _ ho) hO
end
end Bp
namespace Bp
open PySem L2 Evl
abbrev nThings : List Str := ["_law_script", "_law_kind", "_law_found", "_law_k", "_law_cell", "_law_three", "_law_most", "_law_one", "_law_rest", "_law_dry", "_law_other"]
theorem scThings : FnScope nThings ["_law_script"] (defScope sThings) := ⟨rfl, rfl, rfl, by decide +kernel, rfl, by decide +kernel, by decide +kernel⟩
theorem rgc3 : ∀ n : Nat, n < 64 → n % 3 = 0 → Builtin.Range.small 0 (n : Int) 3 = true ∧ Builtin.Range.rangeSize 0 (n : Int) 3 = n / 3 := by decide +kernel
theorem cut63 {xs : List V} (h : xs.length ≤ 63) : cutV xs none (some 63) = xs := by
  unfold cutV
  rw [HT.sIx_none, show HT.sIx xs.length xs.length (some 63) = min 63 xs.length from HT.sIx_nat _ _ 63, List.drop_zero, Nat.min_eq_right h, Nat.sub_zero, List.take_length]
theorem cut3 {xs : List V} {k : Nat} (h : k + 3 ≤ xs.length) : cutV xs (some (k : Int)) (some ((k : Int) + 3)) = (xs.drop k).take 3 := by
  unfold cutV
  rw [HT.sIx_nat, show HT.sIx xs.length xs.length (some ((k : Int) + 3)) = min (k + 3) xs.length from HT.sIx_nat _ _ (k + 3), Nat.min_eq_left h, Nat.min_eq_left (show k ≤ xs.length by omega), Nat.add_sub_cancel_left]
theorem q_forR3 {σ : L2.St} {H : Hp} {ta : TA} {tz tu : TS} {D : Ends} {j : Nat} {lo hi c : Int} {n : Nat} (h : EvA ta σ H [.int lo, .int hi, .int c]) (hn : RgC lo hi c n) (Pv : Nat → L2.St → Hp → Prop) (h0 : ∀ H1, Ex H H1 → Pv 0 σ H1)
    (hs : ∀ (i : Nat) σ' H', i < n → Pv i σ' H' → tu { D with nx := Pv (i + 1), ct := Pv (i + 1), bk := tz D } (σ'.set j (some (.int (lo + (i : Int) * c)))) H') (hd : ∀ σ' H', Pv n σ' H' → tz D σ' H') : tSeq (tFor (iRng3 ta) (gName j) tu) tz D σ H :=
  h H (Ex.refl H) _ fun H1 e => ⟨lo, hi, c, n, rfl, hn, for_rangeC Pv (h0 H1 e) hs hd⟩
theorem part_ok {d m : Int} (h0 : 0 ≤ d) (h1 : d < 200) (h2 : 0 < m) (h3 : m ≤ 10 ^ 20) : 0 ≤ d * m / 9 ∧ d * m / 9 < 10 ^ 59 := by
  have a : 0 ≤ d * m := Int.mul_nonneg h0 (by omega)
  have b : d * m ≤ 200 * 10 ^ 20 := Int.le_trans (Int.mul_le_mul_of_nonneg_right (show d ≤ 200 by omega) (by omega)) (Int.mul_le_mul_of_nonneg_left h3 (by decide))
  omega
/-- the first operand a new tuple -/
theorem ev_opU1 {σ : L2.St} {H : Hp} {ta tb : TE} {r : R2} {y z : V} {xs : List V} (ha : EvU ta σ H xs) (hb : ∀ H1, Ex H H1 → Ev tb σ H1 y) (hr : ∀ p H1, H1 p = some (.tup xs) → Ex H H1 → RV r (.ref p) y H1 z) : Ev (tOp r ta tb) σ H z := fun H1 e Q q =>
  ha H1 e _ fun p H2 _ e2 hp => hb H2 (e.trans e2) H2 (Ex.refl H2) _ fun H3 e3 => hr p H3 (e3 p _ hp) ((e.trans e2).trans e3) H3 (Ex.refl H3) Q fun H4 e4 => q H4 ((e2.trans e3).trans e4)
theorem pick3 {a b c d : Int} (h0 : 0 ≤ d) (h1 : d < 3) (M : Int) (ha : 0 < a ∧ a ≤ M) (hb : 0 < b ∧ b ≤ M) (hc : 0 < c ∧ c ≤ M) : ∃ m : Int, atI [V.int a, V.int b, V.int c] d = some (V.int m) ∧ 0 < m ∧ m ≤ M := by
  obtain h | h | h : d = 0 ∨ d = 1 ∨ d = 2 := by omega
  · exact ⟨a, by rw [h]; exact atI_nat (j := 0) rfl, ha⟩
  · exact ⟨b, by rw [h]; exact atI_nat (j := 1) rfl, hb⟩
  · exact ⟨c, by rw [h]; exact atI_nat (j := 2) rfl, hc⟩
section
variable {P : Program} {w : World} {K : PySem.W.Frag} {mg : Str → Option Value} {base : Heap}
/-- the list of things made so far -/
structure Made (H0 H : Hp) (l : Addr) (zs : List (Addr × Th)) : Prop where
  ex : Ex H0 H
  ls : H l = some (.lst (tv zs))
  it : ∀ z ∈ zs, H z.1 = some (.tup (iv z.2)) ∧ Bd z.2
theorem Made.more {H0 H H1 : Hp} {l : Addr} {zs : List (Addr × Th)} (m : Made H0 H l zs) (e : Ex H H1) : Made H0 H1 l zs := ⟨m.ex.trans e, e _ _ m.ls, fun z hz => ⟨e _ _ (m.it z hz).1, (m.it z hz).2⟩⟩
/-- found.append((x, y, z)) -/
theorem s_made {σ : L2.St} {H0 H : Hp} {D : Ends} {l : Addr} {zs : List (Addr × Th)} {tl : TE} {ta : TA} {t : Th} (m : Made H0 H l zs) (nl : H0 l = none) (hz : zs.length < 1000) (h1 : Ev tl σ H (.ref l)) (h2 : EvA ta σ H (iv t)) (hb : Bd t) (k : ∀ p H1, Made H0 H1 l (zs ++ [(p, t)]) → D.nx σ H1) :
    tDrop (tBM K "list" rAppend tl (tCons (tTup ta) tNil)) D σ H := by
  refine s_appU m.ls h1 (eu_tup h2 (by show 3 ≤ 100000; decide)) (by rw [tv_len]; omega) fun p H1 np e hp => k p _ ⟨Ex.mut (m.ex.trans e) nl, ?_, fun z hz => ?_⟩
  · rw [upd_same]
    unfold tv
    rw [List.map_append]
    rfl
  · rcases List.mem_append.mp hz with hz | hz
    · obtain ⟨a, b⟩ := m.it z hz
      refine ⟨?_, b⟩
      rw [upd_ne (ne_of (e _ _ a) (e _ _ m.ls) (by intro z; cases z))]
      exact e _ _ a
    · obtain rfl := List.mem_singleton.mp hz
      refine ⟨?_, hb⟩
      rw [upd_ne (ne_of hp (e _ _ m.ls) (by intro z; cases z))]
      exact hp
theorem ok_things {f fC fD : Addr} {fd fdC fdD : FuncData} (F : Fun K "_law_things" "_law_things" sThings f fd) (T : Bn mg) (gC : mg "_law_cell_at" = some (.ref fC)) (FC : Fun K "_law_cell_at" "_law_cell_at" sCell fC fdC) (bC : Binds K fdC ["_law_script", "_law_k"] []) (GC : FnOk P w K mg base CX0 1 fC fdC ["_law_script", "_law_k"] (spCell K))
    (gD : mg "_law_draw" = some (.ref fD)) (FD : Fun K "_law_draw" "_law_draw" sDraw fD fdD) (bD : Binds K fdD ["_law_cell", "_law_k", "_law_many"] []) (GD : FnOk P w K mg base CX0 1 fD fdD ["_law_cell", "_law_k", "_law_many"] spDraw) : FnOk P w K mg base CX0 2 f fd ["_law_script"] (spThings K) := by
  refine F.ok scThings (fun vs H Q E h => ?_) (fun cdv A outer s H vs Q E hr h => ?_)
  · obtain ⟨a, ns, rfl, _⟩ := h
    rfl
  · obtain ⟨a, ns, rfl, hS, hz, q⟩ := h
    refine ⟨_, pss_cons (ps_set (i := 0) scThings.nd rfl (Or.inl rfl) (pe_slice sl_list (pv 0) po_none (po_some pe_int)))
      (pss_cons (ps_par (i := 1) (j := 2) (by rfl) scThings.nd rfl rfl (by decide) rfl rfl (pa_cons (pe_call GD hr (by rfl) gD FD.kp bD .nil pass0 (pa_cons (pe_call GC hr (by rfl) gC FC.kp bC .nil pass0 (pa_cons (pv 0) (pa_cons pe_int pa_nil))) (pa_cons pe_int (pa_cons pe_int pa_nil)))) (pa_cons (pe_lst pa_nil) pa_nil)) (by rfl))
      (pss_cons (ps_if (pt_cmpR op_eq (pe_op op_mod (pe_callB call_len_seq (by rfl) T.len PySem.boot_len (pa_cons (pv 0) pa_nil)) pe_int) pe_int (nomark _))
        (pss_cons (ps_for PassesOwn.never rfl (pi_range3 rfl T.range (pa_cons pe_int (pa_cons (pe_callB call_len_seq (by rfl) T.len PySem.boot_len (pa_cons (pv 0) pa_nil)) (pa_cons pe_int pa_nil)))) (pg_name (i := 3) scThings.nd rfl (Or.inl rfl))
          (pss_cons (ps_setLc (i := 5) (own := [("_law_cell", 4)]) (g := gName 4) (tt := tYes) (by rfl) scThings.nd rfl rfl (sw_true rfl rfl rfl (by decide +kernel)) (pi_list (pe_slice sl_list (pv 0) (po_some (pv 3)) (po_some (pe_op op_add (pv 3) pe_int)))) (blkOk_by (N := nThings) (sc := defScope sThings) (by decide +kernel))
            (fun _ _ _ _ _ => pg_name (i := 4) scThings.nd rfl (Or.inl rfl)) (fun _ _ _ _ _ => pts_nil) (fun _ _ _ _ _ => pe_op op_mod (pv 4) (pe_op op_pow pe_int pe_int)))
          (pss_one (ps_expr (pe_bm PySem.F.plainAttrs_list PySem.F.slot_list_append PySem.F.type_list_append mt_append (pv 2) (pa_cons (pe_tup (pa_cons (pe_ix ix_list (pv 5) pe_int (fun _ _ => rfl)) (pa_cons (pe_ix ix_list (pv 5) pe_int (fun _ _ => rfl)) (pa_cons (pe_ix ix_list (pv 5) pe_int (fun _ _ => rfl)) pa_nil)))) pa_nil))))))
        (pss_one (ps_ret (pv 2)))) pss_nil)
      (pss_cons (ps_set (i := 6) scThings.nd rfl (Or.inl rfl) (pe_ix ix_tup (pe_tup (pa_cons pe_int (pa_cons pe_int (pa_cons (pe_op op_pow pe_int pe_int) pa_nil)))) (pe_call GD hr (by rfl) gD FD.kp bD .nil pass0 (pa_cons (pe_call GC hr (by rfl) gC FC.kp bC .nil pass0 (pa_cons (pv 0) (pa_cons pe_int pa_nil))) (pa_cons pe_int (pa_cons pe_int pa_nil)))) (fun _ _ => rfl)))
      (pss_cons (ps_for PassesOwn.never rfl (pi_range1 rfl T.range (pa_cons (pe_op op_mul (pe_callB call_len_seq (by rfl) T.len PySem.boot_len (pa_cons (pv 0) pa_nil)) (pe_ifExp (pt_cmpR op_eq (pv 1) pe_int (nomark _)) pe_int pe_int)) pa_nil)) (pg_name (i := 3) scThings.nd rfl (Or.inl rfl))
        (pss_cons (ps_set (i := 4) scThings.nd rfl (Or.inl rfl) (pe_op op_add (pe_ix ix_list (pv 0) (pe_op op_mod (pv 3) (pe_callB call_len_seq (by rfl) T.len PySem.boot_len (pa_cons (pv 0) pa_nil))) (fun _ _ => rfl)) (pe_op op_mul pe_int (pe_op op_fdiv (pv 3) (pe_callB call_len_seq (by rfl) T.len PySem.boot_len (pa_cons (pv 0) pa_nil))))))
        (pss_cons (ps_par (i := 7) (j := 8) (by rfl) scThings.nd rfl rfl (by decide) rfl rfl (pa_cons (pe_op op_mod (pv 4) (pv 6)) (pa_cons (pe_op op_fdivW (pv 4) (pv 6)) pa_nil)) (by rfl))
        (pss_cons (ps_par (i := 9) (j := 10) (by rfl) scThings.nd rfl rfl (by decide) rfl rfl (pa_cons (pe_op op_mod (pv 8) (pv 6)) (pa_cons (pe_op op_mod (pe_op op_fdivW (pv 8) (pv 6)) (pv 6)) pa_nil)) (by rfl))
        (pss_cut (ps_if (pt_cmpR op_gt (pv 1) pe_int (nomark _))
          (pss_cons (ps_set (i := 7) scThings.nd rfl (Or.inl rfl) (pe_op op_fdiv (pe_op op_mul (pe_call GD hr (by rfl) gD FD.kp bD .nil pass0 (pa_cons (pv 4) (pa_cons (pe_op op_add (pe_op op_mod (pv 3) pe_int) pe_int) (pa_cons pe_int pa_nil)))) (pv 6)) pe_int))
          (pss_cons (ps_set (i := 9) scThings.nd rfl (Or.inl rfl) (pe_op op_fdiv (pe_op op_mul (pe_call GD hr (by rfl) gD FD.kp bD .nil pass0 (pa_cons (pe_op op_add (pe_op op_mul (pv 4) pe_int) (pv 3)) (pa_cons (pe_op op_add (pe_op op_mod (pv 3) pe_int) pe_int)
              (pa_cons (pe_ix ix_tup (pe_tup (pa_cons pe_int (pa_cons pe_int (pa_cons pe_int pa_nil)))) (pe_call GD hr (by rfl) gD FD.kp bD .nil pass0 (pa_cons (pv 4) (pa_cons pe_int (pa_cons pe_int pa_nil)))) (fun _ _ => rfl)) pa_nil)))) (pv 6)) pe_int))
          (pss_one (ps_set (i := 10) scThings.nd rfl (Or.inl rfl) (pe_op op_fdiv (pe_op op_mul (pe_call GD hr (by rfl) gD FD.kp bD .nil pass0 (pa_cons (pe_op op_add (pe_op op_mul (pv 4) pe_int) pe_int) (pa_cons (pe_op op_add (pe_op op_mod (pv 3) pe_int) pe_int) (pa_cons pe_int pa_nil)))) (pv 6)) pe_int))))) pss_nil)
        (pss_cut (ps_if (pt_cmpR op_eq (pv 1) pe_int (nomark _)) (pss_one (ps_set (i := 9) scThings.nd rfl (Or.inl rfl) pe_int)) pss_nil)
        (pss_cut (ps_if (PW.pt (pw_and (pt_cmpR op_eq (pv 1) pe_int (nomark _)) (pw_and1 (pt_cmpR op_lt (pv 7) (pv 10) (nomark _))))) (pss_one (ps_par (i := 7) (j := 10) (by rfl) scThings.nd rfl rfl (by decide) rfl rfl (pa_cons (pv 10) (pa_cons (pv 7) pa_nil)) (by rfl))) pss_nil)
        (pss_one (ps_expr (pe_bm PySem.F.plainAttrs_list PySem.F.slot_list_append PySem.F.type_list_append mt_append (pv 2) (pa_cons (pe_tup (pa_cons (pv 7) (pa_cons (pv 9) (pa_cons (pv 10) pa_nil)))) pa_nil)))))))))))
      (pss_one (ps_ret (pv 2))))))), ?_⟩
    have hzl : (ns.map V.int).length ≤ 63 := by rw [List.length_map]; exact hz
    -- script = script[:63]
    refine q_asgL (xs := ns.map V.int) (fun H1 e Q qq => (el_sl (ev_var rfl) eo_none (eo_some ev_c) (ex_l e hS)) H1 (Ex.refl H1) Q fun p H2 np e2 hp => qq p H2 np e2 (by rw [hp, cut63 hzl])) fun c H1 nc e1 hc => ?_
    have nc0 : H c = none := nc
    have hC : SqL K H1 c (ns.map V.int) := sq_of hc
    -- kind, found = draw(..), []
    have cellv : ∀ {σ : L2.St} {H2 : Hp} {tl tk : TE} (k : Nat), Ex H1 H2 → Ev tl σ H2 (.ref c) → Ev tk σ H2 (.int (k : Int)) → Ev (tCall (spCell K) [] E0 (tCons tl (tCons tk tNil))) σ H2 (.int (ns.getD k 0)) := fun k e2 h1 h2 =>
      ev_call (ea_cons h1 (ea_cons h2 ea_nil)) fun H3 e3 Q q E => ⟨c, ns, k, rfl, ex_l (e2.trans e3) hC, q⟩
    have drawv : ∀ {σ : L2.St} {H2 : Hp} {t1 t2 t3 : TE} {x y z : Int}, 0 < z → Ev t1 σ H2 (.int x) → Ev t2 σ H2 (.int y) → Ev t3 σ H2 (.int z) → Ev (tCall spDraw [] E0 (tCons t1 (tCons t2 (tCons t3 tNil)))) σ H2 (.int (drawF x y z)) := fun hp h1 h2 h3 =>
      ev_call (ea_cons h1 (ea_cons h2 (ea_cons h3 ea_nil))) fun H3 e3 Q q E => ⟨_, _, _, rfl, hp, q⟩
    refine drawv (z := 6) (by decide) (cellv 0 (Ex.refl H1) (ev_var rfl) ev_c) ev_c ev_c H1 (Ex.refl H1) _ fun H2 e2 => ?_
    have hk := drawF_lt (c := ns.getD 0 0) (k := 6) (m := 6) (by decide)
    generalize drawF (ns.getD 0 0) 6 6 = kind at hk
    refine ⟨Nat.zero_le _, fun l nl => ⟨_, _, rfl, ?_⟩⟩
    have nl0 : H1 l = none := fresh_back e2 nl
    have m0 : Made H1 (upd H2 l (.lst [])) l [] := ⟨e2.trans (Ex.new nl), upd_same, fun z hz => nomatch hz⟩
    have eC := m0.ex
    generalize hH3 : upd H2 l (.lst []) = H3 at m0 eC
    clear hH3
    refine q_when (b := decide (V.int ((ns.map V.int).length % 3 : Int) = V.int 0)) (et_test (ev_op (ev_op (ev_cb (ea_cons (ev_var rfl) ea_nil) (rc_lenL (ex_l eC hC))) ev_c (rv_I (by decide))) ev_c (rv_eq rfl))) (fun hb H4 e4 => ?_) (fun hb H4 e4 => ?_)
    · -- by threes
      have h3 : ns.length % 3 = 0 := by
        have := V.int.inj (of_decide_eq_true hb)
        rw [List.length_map] at this
        omega
      obtain ⟨r1, r2⟩ := rgc3 ns.length (by omega) h3
      refine q_forR3 (lo := 0) (hi := (ns.length : Int)) (c := 3) (n := ns.length / 3) (ea_cons ev_c (ea_cons (ev_is (ev_cb (ea_cons (ev_var rfl) ea_nil) (rc_lenL (ex_l (eC.trans e4) hC))) (by rw [List.length_map])) (ea_cons ev_c ea_nil))) ⟨by decide, by decide, r1, r2⟩
        (fun i σ' H' => ∃ (zs : List (Addr × Th)) (v3 v5 : Option V), σ' = [some (.ref c), some (.int kind), some (.ref l), v3, none, v5, none, none, none, none, none] ∧ Made H1 H' l zs ∧ zs.length = i)
        (fun H5 e5 => ⟨[], none, none, rfl, m0.more (e4.trans e5), rfl⟩) ?_ ?_
      · rintro i σ' H' hi ⟨zs, v3, v5, rfl, m, hzs⟩
        have eC' := m.ex
        have hi3 : i * 3 + 3 ≤ ns.length := by omega
        have e0 : (0 : Int) + (i : Int) * 3 = ((i * 3 : Nat) : Int) := by omega
        rw [e0]
        have hcs : ((ns.drop (i * 3)).take 3).length = 3 := by rw [List.length_take, List.length_drop]; omega
        refine q_asgL (xs := given 3 (fun _ => true) fun j => .int (((ns.drop (i * 3)).take 3).getD j 0 % 10 ^ 59)) ?_ fun p H5 np e5 hp => ?_
        · have hE : EvL _ _ H' (((ns.drop (i * 3)).take 3).map V.int) := fun H5 e5 Q qq => el_sl (σ := [some (.ref c), some (.int kind), some (.ref l), some (.int ((i * 3 : Nat) : Int)), none, v5, none, none, none, none, none]) (tl := tPart (tVar 3)) (th := tPart (tOp (rI0 fun i j => .int (i + j)) (tVar 3) (tC (.int 3)))) (te := tVar 0) (ev_var rfl) (eo_some (ev_var rfl)) (eo_some (ev_op (ev_var rfl) ev_c rv_I0)) (ex_l (eC'.trans e5) hC) H5 (Ex.refl H5) Q fun p H6 np e6 hp => qq p H6 np e6 (by
            rw [hp, cut3 (by rw [List.length_map]; exact hi3), List.map_take, List.map_drop])
          have := el_lcNL (K := K) (j := 4) (vs := [4]) (t := tYes) (te := tOp (rI (fun _ j => 0 < j) fun i j => .int (i % j)) (tVar 4) (tOp (rI CPow fun i j => .int (i ^ j.toNat)) (tC (.int 10)) (tC (.int 59)))) (fun _ => true) (fun j => V.int (((ns.drop (i * 3)).take 3).getD j 0 % 10 ^ 59)) hE (by rw [List.length_map, hcs]; decide) (fun x => rfl) (fun j x H5 e5 hj => et_yes) (fun j x H5 e5 hj _ => ?_)
          · rw [List.length_map, hcs] at this
            exact this
          · rw [List.getElem?_map] at hj
            cases hq : ((ns.drop (i * 3)).take 3)[j]? with
            | none => rw [hq] at hj; cases hj
            | some y =>
              rw [hq] at hj
              obtain rfl := Option.some.inj hj
              rw [List.getD_eq_getElem?_getD, hq]
              exact ev_op (ev_var rfl) (ev_op ev_c ev_c (rv_I ⟨by decide, by decide, by decide⟩)) (rv_I (by decide))
        · generalize ((ns.drop (i * 3)).take 3) = cs at hp
          have hb : ∀ x : Int, 0 ≤ x % 10 ^ 59 ∧ x % 10 ^ 59 < 10 ^ 59 := fun x => ⟨Int.emod_nonneg _ (by decide), Int.emod_lt_of_pos _ (by decide)⟩
          refine s_made (t := (cs.getD 0 0 % 10 ^ 59, cs.getD 1 0 % 10 ^ 59, cs.getD 2 0 % 10 ^ 59)) (m.more e5) nl0 (by omega) (ev_var rfl)
            (ea_cons (ev_op (ev_var rfl) ev_c (rv_ixL (sq_of hp) rfl)) (ea_cons (ev_op (ev_var rfl) ev_c (rv_ixL (sq_of hp) rfl)) (ea_cons (ev_op (ev_var rfl) ev_c (rv_ixL (sq_of hp) rfl)) ea_nil))) ⟨hb _, hb _, hb _⟩ fun t H6 m6 => ⟨_, _, _, rfl, m6, ?_⟩
          rw [List.length_append, hzs]
          rfl
      · rintro σ' H' ⟨zs, v3, v5, rfl, m, hzs⟩
        exact s_ret (ev_var rfl) fun H5 e5 => q l zs H5 ((e1.trans m.ex).trans e5) (fresh_back e1 nl0) (e5 _ _ m.ls) (fun z hz => ⟨e5 _ _ (m.it z hz).1, (m.it z hz).2⟩) (by omega)
    · -- one for each number
      have hL : 0 < (ns.map V.int).length := by
        have := of_decide_eq_false hb
        rw [List.length_map] at this ⊢
        rcases Nat.eq_zero_or_pos ns.length with h | h
        · rw [h] at this
          exact absurd rfl this
        · exact h
      have hd := drawF_lt (c := ns.getD 1 0) (k := 7) (m := 3) (by decide)
      have hdr := drawv (σ := [some (.ref c), some (.int kind), some (.ref l), none, none, none, none, none, none, none, none]) (z := 3) (by decide) (cellv 1 (eC.trans e4) (tl := tVar 0) (tk := tC (.int 1)) (ev_var rfl) ev_c) (t2 := tC (.int 7)) (t3 := tC (.int 3)) ev_c ev_c
      generalize drawF (ns.getD 1 0) 7 3 = d at hd hdr
      obtain ⟨most, am, hm0, hm1⟩ := pick3 (a := 3) (b := 10) (c := 10 ^ 20) hd.1 hd.2 (10 ^ 20) (by decide) (by decide) (by decide)
      refine q_asg (v := .int most) (ev_opU1 (xs := [.int 3, .int 10, .int (10 ^ 20)]) (eu_tup (ea_cons ev_c (ea_cons ev_c (ea_cons (ev_is (ev_op ev_c ev_c (rv_I ⟨by decide, by decide, by decide⟩)) rfl) ea_nil))) (by show 3 ≤ 100000; decide)) (fun H5 e5 => hdr.mono e5) fun p H5 hp e5 => rv_ixT (st_of hp) am) fun H5 e5 => ?_
      obtain ⟨mult, hm3, ht, hf⟩ : ∃ mult : Nat, (mult = 3 ∨ mult = 1) ∧ (decide (V.int kind = V.int 5) = true → mult = 3) ∧ (decide (V.int kind = V.int 5) = false → mult = 1) := by
        cases decide (V.int kind = V.int 5) with
        | true => exact ⟨3, .inl rfl, fun _ => rfl, fun h => by cases h⟩
        | false => exact ⟨1, .inr rfl, fun h => (by cases h), fun _ => rfl⟩
      obtain ⟨N, hN, hN2⟩ : ∃ N : Nat, ((ns.map V.int).length : Int) * (mult : Int) = (N : Int) ∧ N ≤ 189 := by
        rcases hm3 with rfl | rfl
        · exact ⟨(ns.map V.int).length * 3, by omega, by omega⟩
        · exact ⟨(ns.map V.int).length, by omega, by omega⟩
      have m4 : Made H1 H5 l [] := m0.more (e4.trans e5)
      refine q_forR1 (n := (N : Int)) (ea_cons (ev_is (ev_op (ev_cb (ea_cons (ev_var rfl) ea_nil) (rc_lenL (ex_l m4.ex hC))) (ev_if (v := .int (mult : Int)) (et_test (ev_op (ev_var rfl) ev_c (rv_eq rfl))) (fun h => by rw [ht h]; exact ev_c) (fun h => by rw [hf h]; exact ev_c)) (rv_I (.inl (by omega)))) (by rw [hN])) ea_nil) (by omega)
        (fun i σ' H' => ∃ (zs : List (Addr × Th)) (v3 v4 v7 v8 v9 v10 : Option V), σ' = [some (.ref c), some (.int kind), some (.ref l), v3, v4, none, some (.int most), v7, v8, v9, v10] ∧ Made H1 H' l zs ∧ zs.length = i)
        (fun H6 e6 => ⟨[], none, none, none, none, none, none, rfl, m4.more e6, rfl⟩) ?_ ?_
      · rintro i σ' H' hi ⟨zs, v3, v4, v7, v8, v9, v10, rfl, m, hzs⟩
        have hLi : 0 < ((ns.map V.int).length : Int) := by omega
        have hr1 : 0 ≤ (i : Int) % ((ns.map V.int).length : Int) := Int.emod_nonneg _ (by omega)
        have hr2 : (i : Int) % ((ns.map V.int).length : Int) < ((ns.map V.int).length : Int) := Int.emod_lt_of_pos _ hLi
        obtain ⟨j, hj⟩ : ∃ j : Nat, (i : Int) % ((ns.map V.int).length : Int) = (j : Int) := ⟨((i : Int) % ((ns.map V.int).length : Int)).toNat, by omega⟩
        have hjl : j < ns.length := by
          rw [List.length_map] at hr2 hj
          omega
        have hat : (ns.map V.int)[j]? = some (.int ns[j]) := by
          rw [List.getElem?_map, List.getElem?_eq_getElem hjl]
          rfl
        generalize ns[j] = nj at hat
        have hw70 : most.natAbs < 2 ^ 70 := Nat.lt_of_le_of_lt (by omega : most.natAbs ≤ 100000000000000000000) (by decide)
        refine q_asg (ev_op (ev_op (ev_var rfl) (ev_op (ev_var rfl) (ev_cb (ea_cons (ev_var rfl) ea_nil) (rc_lenL (ex_l m.ex hC))) (rv_I hLi)) (rv_ixL (ex_l m.ex hC) (at_of hj hat))) (ev_op ev_c (ev_op (ev_var rfl) (ev_cb (ea_cons (ev_var rfl) ea_nil) (rc_lenL (ex_l m.ex hC))) (rv_I ⟨hLi, by omega⟩)) (rv_I (.inl (by decide)))) rv_I0) fun H6 e6 => ?_
        generalize nj + 977 * ((i : Int) / ((ns.map V.int).length : Int)) = cell
        refine q_par (ea_cons (ev_op (ev_var rfl) (ev_var rfl) (rv_I hm0)) (ea_cons (ev_op (ev_var rfl) (ev_var rfl) (rv_I (wide_div hm0 hw70 (by decide) (by decide)))) ea_nil)) fun H7 e7 => ?_
        refine q_par (ea_cons (ev_op (ev_var rfl) (ev_var rfl) (rv_I hm0)) (ea_cons (ev_op (ev_op (ev_var rfl) (ev_var rfl) (rv_I (wide_div hm0 hw70 (by decide) (by decide)))) (ev_var rfl) (rv_I hm0)) ea_nil)) fun H8 e8 => ?_
        have m8 := m.more ((e6.trans e7).trans e8)
        have bd : ∀ x : Int, 0 ≤ x % most ∧ x % most < 10 ^ 59 := fun x => by
          have h1 := Int.emod_nonneg x (show most ≠ 0 by omega)
          have h2 := Int.emod_lt_of_pos x hm0
          omega
        refine q_cut (M := fun σ2 H2 => ∃ (x y z : Int) (v8 : Option V), σ2 = [some (.ref c), some (.int kind), some (.ref l), some (.int (i : Int)), some (.int cell), none, some (.int most), some (.int x), v8, some (.int y), some (.int z)] ∧ Made H1 H2 l zs ∧ Bd (x, y, z)) ?_ ?_
        · refine s_when (et_test (ev_op (ev_var rfl) ev_c rv_I0)) (fun _ H9 e9 => ?_) (fun _ H9 e9 => ⟨_, _, _, _, rfl, m8.more e9, bd _, bd _, bd _⟩)
          have d1 := drawF_lt (c := cell) (k := (i : Int) % 5 + 1) (m := 30) (by decide)
          refine q_asg (ev_op (ev_op (drawv (z := 30) (by decide) (ev_var rfl) (ev_op (ev_op (ev_var rfl) ev_c (rv_I (by decide))) ev_c rv_I0) ev_c) (ev_var rfl) (rv_I (.inl (by omega)))) ev_c (rv_I ⟨by decide, by decide⟩)) fun H10 e10 => ?_
          have d2 := drawF_lt (c := cell) (k := 3) (m := 3) (by decide)
          obtain ⟨p2, a2, q0, q1⟩ := pick3 (a := 1) (b := 30) (c := 200) d2.1 d2.2 200 (by decide) (by decide) (by decide)
          have d3 := drawF_lt (c := cell * 3 + (i : Int)) (k := (i : Int) % 7 + 2) (m := p2) q0
          refine q_asg (ev_op (ev_op (drawv (z := p2) q0 (ev_op (ev_op (ev_var rfl) ev_c (rv_I (.inr (by decide)))) (ev_var rfl) rv_I0) (ev_op (ev_op (ev_var rfl) ev_c (rv_I (by decide))) ev_c rv_I0)
            (ev_opU1 (xs := [.int 1, .int 30, .int 200]) (eu_tup (ea_cons ev_c (ea_cons ev_c (ea_cons ev_c ea_nil))) (by show 3 ≤ 100000; decide)) (fun H5 e5 => drawv (z := 3) (by decide) (ev_var rfl) ev_c ev_c) fun p H5 hp e5 => rv_ixT (st_of hp) a2)) (ev_var rfl) (rv_I (.inl (by omega)))) ev_c (rv_I ⟨by decide, by decide⟩)) fun H11 e11 => ?_
          have d4 := drawF_lt (c := cell * 7 + 1) (k := (i : Int) % 3 + 9) (m := 30) (by decide)
          refine s_asg (ev_op (ev_op (drawv (z := 30) (by decide) (ev_op (ev_op (ev_var rfl) ev_c (rv_I (.inr (by decide)))) ev_c rv_I0) (ev_op (ev_op (ev_var rfl) ev_c (rv_I (by decide))) ev_c rv_I0) ev_c) (ev_var rfl) (rv_I (.inl (by omega)))) ev_c (rv_I ⟨by decide, by decide⟩)) fun H12 e12 => ?_
          exact ⟨_, _, _, _, rfl, m8.more (((e9.trans e10).trans e11).trans e12), part_ok d1.1 (by omega) hm0 hm1, part_ok d3.1 (by omega) hm0 hm1, part_ok d4.1 (by omega) hm0 hm1⟩
        · rintro σ2 H2 ⟨x, y, z, v8', rfl, m2, hb2⟩
          refine q_cut (M := fun σ2 H2 => ∃ (x y z : Int) (v8 : Option V), σ2 = [some (.ref c), some (.int kind), some (.ref l), some (.int (i : Int)), some (.int cell), none, some (.int most), some (.int x), v8, some (.int y), some (.int z)] ∧ Made H1 H2 l zs ∧ Bd (x, y, z)) ?_ ?_
          · exact s_when (et_test (ev_op (ev_var rfl) ev_c (rv_eq rfl))) (fun _ H9 e9 => s_asg ev_c fun H10 e10 => ⟨_, _, _, _, rfl, m2.more (e9.trans e10), hb2.1, ⟨Int.le_refl 0, by show (0 : Int) < 10 ^ 59; decide⟩, hb2.2.2⟩) (fun _ H9 e9 => ⟨_, _, _, _, rfl, m2.more e9, hb2⟩)
          · clear hb2
            rintro σ3 H3' ⟨x, y, z, v8'', rfl, m3, hb3⟩
            refine q_cut (M := fun σ2 H2 => ∃ (x y z : Int) (v8 : Option V), σ2 = [some (.ref c), some (.int kind), some (.ref l), some (.int (i : Int)), some (.int cell), none, some (.int most), some (.int x), v8, some (.int y), some (.int z)] ∧ Made H1 H2 l zs ∧ Bd (x, y, z)) ?_ ?_
            · exact s_when (et_and (et_test (ev_op (ev_var rfl) ev_c (rv_eq rfl))) fun _ => et_test (ev_op (ev_var rfl) (ev_var rfl) rv_I0)) (fun _ H9 e9 => s_par (ea_cons (ev_var rfl) (ea_cons (ev_var rfl) ea_nil)) fun H10 e10 => ⟨_, _, _, _, rfl, m3.more (e9.trans e10), hb3.2.2, hb3.2.1, hb3.1⟩) (fun _ H9 e9 => ⟨_, _, _, _, rfl, m3.more e9, hb3⟩)
            · clear hb3
              rintro σ4 H4' ⟨x, y, z, v8''', rfl, m5, hb4⟩
              refine s_made (t := (x, y, z)) m5 nl0 (by omega) (ev_var rfl) (ea_cons (ev_var rfl) (ea_cons (ev_var rfl) (ea_cons (ev_var rfl) ea_nil))) hb4 fun t H6 m6 => ⟨_, _, _, _, _, _, _, rfl, m6, ?_⟩
              rw [List.length_append, hzs]
              rfl
      · rintro σ' H' ⟨zs, v3, v4, v7, v8, v9, v10, rfl, m, hzs⟩
        rw [Int.toNat_natCast] at hzs
        exact s_ret (ev_var rfl) fun H5 e5 => q l zs H5 ((e1.trans m.ex).trans e5) (fresh_back e1 nl0) (e5 _ _ m.ls) (fun z hz => ⟨e5 _ _ (m.it z hz).1, (m.it z hz).2⟩) (by omega)
end
end Bp
namespace Bp
open PySem L2 Evl
/-! ### data for == -/
def dT (t : Th) : PyData := .tuple [.int t.1, .int t.2.1, .int t.2.2]
def dP (t : Int × Int) : PyData := .tuple [.int t.1, .int t.2]
def dI (c : Nat) : PyData := .int (c : Int)
theorem dpAll_tv {α : Type} {K : PySem.W.Frag} {H : Hp} {f : α → PyData} : ∀ {zs : List (Addr × α)}, (∀ z ∈ zs, Dp K H (.ref z.1) (f z.2)) → DpAll K H (tv zs) ((ths zs).map f)
  | [], _ => .nil
  | z :: r, h => .cons (h z List.mem_cons_self) (dpAll_tv fun y hy => h y (List.mem_cons_of_mem _ hy))
theorem dpAll_ov {K : PySem.W.Frag} {H : Hp} : ∀ o : List Nat, DpAll K H (ov o) (o.map dI)
  | [] => .nil
  | c :: r => .cons (.int _) (dpAll_ov r)
def DpX (K : PySem.W.Frag) (H : Hp) (v : V) (d : PyData) : Prop := ∀ H1, Ex H H1 → Dp K H1 v d
theorem DpX.mono {K : PySem.W.Frag} {H H' : Hp} {v : V} {d : PyData} (h : DpX K H v d) (e : Ex H H') : DpX K H' v d := fun H1 e1 => h H1 (e.trans e1)
theorem dpx_ths {K : PySem.W.Frag} {H : Hp} {l : Addr} {zs : List (Addr × Th)} (h : Ths K H l zs) : DpX K H (.ref l) (.list ((ths zs).map dT)) := fun H1 e =>
  .lst (ex_l e h.ls) (dpAll_tv fun z hz => .tup (ex_t e (h.it z hz)) (.cons (.int _) (.cons (.int _) (.cons (.int _) .nil))))
theorem dpx_prs {K : PySem.W.Frag} {H : Hp} {l : Addr} {bs : List (Addr × (Int × Int))} (h : Prs H l bs) : DpX K H (.ref l) (.list ((ths bs).map dP)) := fun H1 e =>
  .lst (sq_of (e _ _ h.1)) (dpAll_tv fun z hz => .tup (st_of (e _ _ (h.2 z hz))) (.cons (.int _) (.cons (.int _) .nil)))
theorem dpx_ov {K : PySem.W.Frag} {H : Hp} {b : Addr} {o : List Nat} (h : SqL K H b (ov o)) : DpX K H (.ref b) (.list (o.map dI)) := fun H1 e => .lst (ex_l e h) (dpAll_ov o)
theorem dpx_two {K : PySem.W.Frag} {H : Hp} {b : Addr} {x y : V} {d e : PyData} (h : H b = some (.lst [x, y])) (hx : DpX K H x d) (hy : DpX K H y e) : DpX K H (.ref b) (.list [d, e]) := fun H1 e1 =>
  .lst (sq_of (e1 _ _ h)) (.cons (hx H1 e1) (.cons (hy H1 e1) .nil))
theorem can_all {α : Type} {f : α → PyData} (hf : ∀ x, (f x).canLay0 = true) : ∀ l : List α, PyData.canLayAll0 (l.map f) = true
  | [] => rfl
  | x :: r => by
    rw [List.map_cons]
    unfold PyData.canLayAll0
    rw [hf x, can_all hf r]
    rfl
theorem dep_all {α : Type} {f : α → PyData} (hf : ∀ x, (f x).depth ≤ 1) : ∀ l : List α, PyData.depthAll (l.map f) ≤ 1
  | [] => by show 0 ≤ 1; decide
  | x :: r => by
    rw [List.map_cons]
    unfold PyData.depthAll
    have := dep_all hf r
    have := hf x
    omega
theorem canT (t : Th) : (dT t).canLay0 = true := rfl
theorem canP (t : Int × Int) : (dP t).canLay0 = true := rfl
theorem canI (c : Nat) : (dI c).canLay0 = true := rfl
theorem depT (t : Th) : (dT t).depth ≤ 1 := by show 0 + 1 ≤ 1; decide
theorem depP (t : Int × Int) : (dP t).depth ≤ 1 := by show 0 + 1 ≤ 1; decide
theorem depI (c : Nat) : (dI c).depth ≤ 1 := by show 0 ≤ 1; decide
theorem sh_map {α : Type} {f : α → PyData} (h1 : ∀ x, (f x).canLay0 = true) (h2 : ∀ x, (f x).depth ≤ 1) (l : List α) : SeqAt.shaped (.list (l.map f)) = true := by
  have a := can_all h1 l
  have b := dep_all h2 l
  show ((PyData.canLayAll0 (l.map f)) && decide (PyData.depthAll (l.map f) + 1 ≤ 64)) = true
  rw [a, decide_eq_true (by omega)]
  rfl
theorem sh_two (ts : List Th) (o : List Nat) : SeqAt.shaped (.list [.list (ts.map dT), .list (o.map dI)]) = true := by
  have a := can_all canT ts
  have b := dep_all depT ts
  have a2 := can_all canI o
  have b2 := dep_all depI o
  show ((PyData.canLayAll0 (ts.map dT) && (PyData.canLayAll0 (o.map dI) && true)) && decide (max (PyData.depthAll (ts.map dT) + 1) (max (PyData.depthAll (o.map dI) + 1) 0) + 1 ≤ 64)) = true
  rw [a, a2, decide_eq_true (by omega)]
  rfl
theorem eqv_self {d : PyData} (h : SeqAt.shaped d = true) : PyData.eqv d d = true := SeqAt.eqv_refl d (SeqAt.canLay_of_shaped h)
theorem rv_neD {K : PySem.W.Frag} {H : Hp} {x y : V} {d : PyData} (hx : DpX K H x d) (hy : DpX K H y d) (hs : SeqAt.shaped d = true) : RV (rNeD K) x y H (.bl false) := fun H1 e Q q =>
  ⟨d, d, hx H1 e, hy H1 e, hs, hs, by rw [eqv_self hs]; exact q H1 (Ex.refl H1)⟩
theorem rv_eqD {K : PySem.W.Frag} {H : Hp} {x y : V} {d : PyData} (hx : DpX K H x d) (hy : DpX K H y d) (hs : SeqAt.shaped d = true) : RV (rEqD K) x y H (.bl true) := fun H1 e Q q =>
  ⟨d, d, hx H1 e, hy H1 e, hs, hs, by rw [eqv_self hs]; exact q H1 (Ex.refl H1)⟩
/-! ### lists -/
theorem rg_ov (n : Nat) : rgV 0 (n : Int) = ov (List.range n) := by
  unfold rgV ov
  rw [show ((n : Int) - 0).toNat = n by omega]
  refine List.map_congr_left fun i _ => ?_
  rw [Int.zero_add]
theorem ov_rev (o : List Nat) : (ov o).reverse = ov o.reverse := by unfold ov; rw [List.map_reverse]
theorem cut_to {α : Type} (zs : List (Addr × α)) (k : Nat) (h : k ≤ zs.length) : cutV (tv zs) none (some (k : Int)) = tv (zs.take k) := by
  unfold cutV
  rw [HT.sIx_none, HT.sIx_nat, tv_len, Nat.min_eq_left h, List.drop_zero, Nat.sub_zero]
  unfold tv
  rw [List.map_take]
theorem cut_from {α : Type} (zs : List (Addr × α)) (k : Nat) (h : k + 1 ≤ zs.length) : cutV (tv zs) (some ((k : Int) + 1)) none = tv (zs.drop (k + 1)) := by
  unfold cutV
  rw [HT.sIx_none, show HT.sIx (tv zs).length 0 (some ((k : Int) + 1)) = min (k + 1) (tv zs).length from HT.sIx_nat _ _ (k + 1), tv_len, Nat.min_eq_left h]
  unfold tv
  rw [← List.map_drop]
  refine List.take_of_length_le ?_
  rw [List.length_map, List.length_drop]
  exact Nat.le_refl _
theorem tv_app {α : Type} (xs ys : List (Addr × α)) : tv xs ++ tv ys = tv (xs ++ ys) := by unfold tv; rw [List.map_append]
theorem Ths.less {K : PySem.W.Frag} {H : Hp} {l p : Addr} {zs : List (Addr × Th)} (h : Ths K H l zs) (k : Nat) (hk : k < zs.length) (hp : H p = some (.lst (tv (zs.take k ++ zs.drop (k + 1))))) : Ths K H p (zs.take k ++ zs.drop (k + 1)) := by
  have m : ∀ z ∈ zs.take k ++ zs.drop (k + 1), z ∈ zs := fun z hz => by
    rcases List.mem_append.mp hz with hz | hz
    · exact List.mem_of_mem_take hz
    · exact List.mem_of_mem_drop hz
  refine ⟨sq_of hp, fun z hz => h.it z (m z hz), fun z hz => h.nn z (m z hz), ?_⟩
  have := h.le
  rw [List.length_append, List.length_take, List.length_drop]
  omega
theorem given_less (o : List Nat) (k : Nat) : given o.length (fun i => !decide (V.int (o.getD i 0 : Int) = V.int (k : Int))) (fun i => .int (shift k (o.getD i 0) : Int)) = ov (less k o) := by
  unfold given ov less
  have h : o = (List.range o.length).map (fun i => o.getD i 0) := by
    have := range_map o 0 (fun c => c)
    rw [this]
    exact (List.map_id o).symm
  have h2 : (o.filter fun c => c != k) = ((List.range o.length).filter fun i => !decide (V.int (o.getD i 0 : Int) = V.int (k : Int))).map fun i => o.getD i 0 := by
    conv => lhs; rw [h]
    rw [List.filter_map]
    congr 1
    refine List.filter_congr fun i _ => ?_
    show (o.getD i 0 != k) = !decide (V.int (o.getD i 0 : Int) = V.int (k : Int))
    by_cases e : o.getD i 0 = k
    · rw [e]
      simp
    · have : ¬ V.int (o.getD i 0 : Int) = V.int (k : Int) := fun z => e (by have := V.int.inj z; omega)
      rw [decide_eq_false this]
      simpa using e
  rw [h2, List.map_map, List.map_map]
  rfl
theorem stp_law {ts : List Th} {s : Sg} {c : Nat} {t : Th} (h : ts.getD c th0 = t) : stp ts s c = (s.1.set c (s.2.1, if s.2.1 + t.1 + t.2.1 > s.2.2 then s.2.1 + t.1 + t.2.1 else s.2.2), s.2.1 + t.1, (if s.2.1 + t.1 + t.2.1 > s.2.2 then s.2.1 + t.1 + t.2.1 else s.2.2) + t.2.2) := by
  subst h
  simp only [stp, max_py, Int.max_comm]
theorem given_true (n : Nat) : given n (fun _ => true) (fun _ => V.bl true) = (List.replicate n true).map V.bl := by
  rw [given_all, List.map_replicate]
  refine List.ext_getElem (by simp) fun i h1 h2 => by simp
theorem all_true (n : Nat) : (List.replicate n true).all id = true := by
  induction n with
  | zero => rfl
  | succ n ih => rw [List.replicate_succ, List.all_cons, ih]; rfl
end Bp
namespace Bp
open PySem L2 Evl
abbrev sLaw : Stmt := top 23
abbrev nLaw : List Str := ["_law_script", "_law_things_here", "_law_many", "_law_turned", "_law_order_here", "_law_handed", "_law_due", "_law_first", "_law_second", "_law_at", "_law_begin", "_law_again", "_law_found", "_law_told", "_law_out", "_law_rest", "_law_one", "_law_dry", "_law_other", "_law_pair"]
theorem scLaw : FnScope nLaw ["_law_script"] (defScope sLaw) := ⟨rfl, rfl, rfl, by decide +kernel, rfl, by decide +kernel, by decide +kernel⟩
/-- what the law calls -/
structure Lks (K : PySem.W.Frag) (mg : Str → Option Value) (P : Program) (w : World) (base : Heap) (fT fC fR fN fL fW fD fS : Addr) (dT dC dR dN dL dW dD dS : FuncData) : Prop where
  gT : mg "_law_things" = some (.ref fT)
  FT : Fun K "_law_things" "_law_things" sThings fT dT
  bT : Binds K dT ["_law_script"] []
  GT : FnOk P w K mg base CX0 2 fT dT ["_law_script"] (spThings K)
  gC : mg "_law_cell_at" = some (.ref fC)
  FC : Fun K "_law_cell_at" "_law_cell_at" sCell fC dC
  bC : Binds K dC ["_law_script", "_law_k"] []
  GC : FnOk P w K mg base CX0 1 fC dC ["_law_script", "_law_k"] (spCell K)
  gR : mg "_law_draw" = some (.ref fR)
  FR : Fun K "_law_draw" "_law_draw" sDraw fR dR
  bR : Binds K dR ["_law_cell", "_law_k", "_law_many"] []
  GR : FnOk P w K mg base CX0 1 fR dR ["_law_cell", "_law_k", "_law_many"] spDraw
  gN : mg "_law_drawn" = some (.ref fN)
  FN : Fun K "_law_drawn" "_law_drawn" sDrawn fN dN
  bN : Binds K dN ["_law_script", "_law_many"] []
  GN : FnOk P w K mg base CX0 2 fN dN ["_law_script", "_law_many"] (spDrawn K)
  gL : mg "_law_done" = some (.ref fL)
  FL : Fun K "_law_done" "_law_done" sLdone fL dL
  bL : Binds K dL ["_law_things_here", "_law_order_here"] []
  GL : FnOk P w K mg base CX0 1 fL dL ["_law_things_here", "_law_order_here"] (spLdone K)
  gW : mg "_law_whole" = some (.ref fW)
  FW : Fun K "_law_whole" "_law_whole" sLwhole fW dW
  bW : Binds K dW ["_law_number"] []
  GW : FnOk P w K mg base CX0 1 fW dW ["_law_number"] spWhole
  gD : mg "done" = some (.ref fD)
  FD : Fun K "done" "done" sDone fD dD
  bD : Binds K dD ["things", "order"] []
  GD : FnOk P w K mg base CX0 5 fD dD ["things", "order"] (spDone K)
  gS : mg "starts" = some (.ref fS)
  FS : Fun K "starts" "starts" sStarts fS dS
  bS : Binds K dS ["things", "order"] []
  GS : FnOk P w K mg base CX0 5 fS dS ["things", "order"] (spStarts K)
def spLaw (K : PySem.W.Frag) : Sp := fun vs H Q _ => ∃ (a : Addr) (ns : List Int), vs = [.ref a] ∧ SqL K H a (ns.map V.int) ∧ ns.length ≤ 63 ∧ ∀ H', Q (.bl true) H'
section
variable {P : Program} {w : World} {K : PySem.W.Frag} {mg : Str → Option Value} {base : Heap}
def law_pf {f fT fC fR fN fL fW fD fS : Addr} {dT dC dR dN dL dW dD dS : FuncData} (T : Bn mg) (C : Lks K mg P w base fT fC fR fN fL fW fD fS dT dC dR dN dL dW dD dS) {cdv : Value} {A : Around} {outer : List Env} {s : Shared} {H : Hp} {E : XK} (hr : Room 5 (A.deeper (PyProof.Rows.envOfC "law" (defScope sLaw) s.heap.objs.size f cdv))) :=
  show PSs (cxOf CX0 P w K mg base nLaw "law" (defScope sLaw) f cdv A outer s H E).nox (defBody sLaw) _ from
    pss_cons (ps_set (i := 1) scLaw.nd rfl (Or.inl rfl) (pe_call C.GT (hr.mono (by decide)) (by rfl) C.gT C.FT.kp C.bT .nil pass0 (pa_cons (pv 0) pa_nil)))
      (pss_cons (ps_set (i := 2) scLaw.nd rfl (Or.inl rfl) (pe_callB call_len_seq (by rfl) T.len PySem.boot_len (pa_cons (pv 1) pa_nil)))
      (pss_cons (ps_setLc (i := 3) (own := [("_law_one", 16), ("_law_dry", 17), ("_law_other", 18)]) (g := gTup K 3 (gCons (gName 16) (gCons (gName 17) (gCons (gName 18) gNil)))) (tt := tYes) (by rfl) scLaw.nd rfl rfl (sw_true rfl rfl rfl (by decide +kernel)) (pi_list (pv 1)) (blkOk_by (N := nLaw) (sc := defScope sLaw) (by decide +kernel))
        (fun _ _ _ _ _ => pg_tup rfl (pgs_cons (pg_name (i := 16) scLaw.nd rfl (Or.inl rfl)) (pgs_cons (pg_name (i := 17) scLaw.nd rfl (Or.inl rfl)) (pgs_cons (pg_name (i := 18) scLaw.nd rfl (Or.inl rfl)) pgs_nil)))) (fun _ _ _ _ _ => pts_nil) (fun _ _ _ _ _ => (pe_tup (pa_cons (pv 18) (pa_cons (pv 17) (pa_cons (pv 16) pa_nil))))))
      (pss_cons (ps_for PassesOwn.never rfl (pi_tup (pe_tup (pa_cons (pe_listRg rfl (by rfl) T.list (prg_1 (by rfl) T.range (pv 2))) (pa_cons (pe_revL (pe_listRg rfl (by rfl) T.list (prg_1 (by rfl) T.range (pv 2)))) (pa_cons (pe_call C.GN (hr.mono (by decide)) (by rfl) C.gN C.FN.kp C.bN .nil pass0 (pa_cons (pv 0) (pa_cons (pv 2) pa_nil))) pa_nil))))) (pg_name (i := 4) scLaw.nd rfl (Or.inl rfl))
        (pss_cons (ps_set (i := 5) scLaw.nd rfl (Or.inl rfl) (pe_lst (pa_cons (pe_callTy call_list_of (by rfl) T.list PyProof.Rows.boot_list (pa_cons (pv 1) pa_nil)) (pa_cons (pe_callTy call_list_of (by rfl) T.list PyProof.Rows.boot_list (pa_cons (pv 4) pa_nil)) pa_nil))))
        (pss_cons (ps_par3 (i := 6) (j := 7) (l := 8) rfl scLaw.nd rfl rfl rfl (by decide) (by decide) (by decide) rfl rfl rfl (pa_cons (pe_op op_rep (pe_lst (pa_cons (pe_tup (pa_cons pe_int (pa_cons pe_int pa_nil))) pa_nil)) (pv 2)) (pa_cons pe_int (pa_cons pe_int pa_nil))) (by rfl))
        (pss_cut (ps_for PassesOwn.never rfl (pi_list (pv 4)) (pg_name (i := 9) scLaw.nd rfl (Or.inl rfl))
          (pss_cons (ps_set (i := 10) scLaw.nd rfl (Or.inl rfl) (pv 7))
          (pss_cons (ps_set (i := 7) scLaw.nd rfl (Or.inl rfl) (pe_op op_add (pv 7) (pe_ix ix_tup (pe_ix ix_list (pv 1) (pv 9) (fun _ _ => rfl)) pe_int (fun _ _ => rfl))))
          (pss_cons (ps_set (i := 8) scLaw.nd rfl (Or.inl rfl) (pe_callB (call_max2 rfl) (by rfl) T.max PyProof.Rows.boot_max (pa_cons (pv 8) (pa_cons (pe_op op_add (pv 7) (pe_ix ix_tup (pe_ix ix_list (pv 1) (pv 9) (fun _ _ => rfl)) pe_int (fun _ _ => rfl))) pa_nil))))
          (pss_cons (ps_asg (pe_tup (pa_cons (pv 10) (pa_cons (pv 8) pa_nil))) (pg_sub (pv 6) (pv 9) set_list))
          (pss_one (ps_set (i := 8) scLaw.nd rfl (Or.inl rfl) (pe_op op_add (pv 8) (pe_ix ix_tup (pe_ix ix_list (pv 1) (pv 9) (fun _ _ => rfl)) pe_int (fun _ _ => rfl))))))))))
        (pss_cut (ps_for PassesOwn.never rfl (pi_range1 rfl T.range (pa_cons pe_int pa_nil)) (pg_name (i := 11) scLaw.nd rfl (Or.inl rfl))
          (pss_cons (ps_set (i := 12) scLaw.nd rfl (Or.inl rfl) (pe_call C.GS (hr.mono (by decide)) (by rfl) C.gS C.FS.kp C.bS .nil pass0 (pa_cons (pe_ix ix_list (pv 5) pe_int (fun _ _ => rfl)) (pa_cons (pe_ix ix_list (pv 5) pe_int (fun _ _ => rfl)) pa_nil))))
          (pss_cons (ps_if (PW.pt (pw_or (pt_not (pt_val (pe_callB call_isi (by rfl) T.isi (by decide +kernel) (pa_cons (pv 12) (pa_cons (pe_bltn (v := .ty "list") (by rfl) T.list PyProof.Rows.boot_list rfl) pa_nil))))) (pw_or (pt_cmpR (op_neD hr.units) (pv 12) (pv 6) (nomark _)) (pw_or1 (pt_cmpR (op_neD hr.units) (pv 5) (pe_lst (pa_cons (pv 1) (pa_cons (pv 4) pa_nil))) (nomark _)))))) (pss_one (ps_ret pe_bl)) pss_nil)
          (pss_cons (ps_if (pt_not (pt_val (pe_callB (cr_all rfl) (by rfl) T.all (by decide +kernel) (pa_cons (pe_lc (own := [("_law_pair", 19)]) (g := gName 19) (tt := tYes) rfl scLaw.nd (pi_list (pv 12)) (blkOk_by (N := nLaw) (sc := defScope sLaw) (by decide +kernel)) (fun _ _ _ _ _ => (pg_name (i := 19) scLaw.nd rfl (Or.inl rfl))) (fun _ _ _ _ _ => pts_nil) (fun _ _ _ _ _ => pe_callB (show CallR _ _ (rIsi K) from call_isi) (by rfl) T.isi (by decide +kernel) (pa_cons (pv 19) (pa_cons (pe_bltn (v := .ty "tuple") (by rfl) T.tuple PyProof.Rows.boot_tuple rfl) pa_nil)))) pa_nil)))) (pss_one (ps_ret pe_bl)) pss_nil)
          (pss_one (ps_expr (pe_bm PySem.F.plainAttrs_list PySem.F.slot_list_append PySem.F.type_list_append mt_append (pv 12) (pa_cons (pe_tup (pa_cons pe_int (pa_cons pe_int pa_nil))) pa_nil))))))))
        (pss_cons (ps_set (i := 13) scLaw.nd rfl (Or.inl rfl) (pe_call C.GD (hr.mono (by decide)) (by rfl) C.gD C.FD.kp C.bD .nil pass0 (pa_cons (pe_ix ix_list (pv 5) pe_int (fun _ _ => rfl)) (pa_cons (pe_ix ix_list (pv 5) pe_int (fun _ _ => rfl)) pa_nil))))
        (pss_cons (ps_if (PW.pt (pw_or (pt_not (pt_val (pe_call C.GW (hr.mono (by decide)) (by rfl) C.gW C.FW.kp C.bW .nil pass0 (pa_cons (pv 13) pa_nil)))) (pw_or (pt_cmpR op_ne (pv 13) (pv 8) (nomark _)) (pw_or (pt_cmpR op_ne (pv 13) (pe_call C.GL (hr.mono (by decide)) (by rfl) C.gL C.FL.kp C.bL .nil pass0 (pa_cons (pv 1) (pa_cons (pv 4) pa_nil))) (nomark _)) (pw_or1 (pt_cmpR (op_neD hr.units) (pv 5) (pe_lst (pa_cons (pv 1) (pa_cons (pv 4) pa_nil))) (nomark _))))))) (pss_one (ps_ret pe_bl)) pss_nil)
        (pss_cons (ps_if (pt_cmpR op_ne (pe_call C.GD (hr.mono (by decide)) (by rfl) C.gD C.FD.kp C.bD .nil pass0 (pa_cons (pv 3) (pa_cons (pe_revL (pv 4)) pa_nil))) (pv 13) (nomark _)) (pss_one (ps_ret pe_bl)) pss_nil)
        (pss_one (ps_if (pt_cmpR op_gt (pv 2) pe_int (nomark _))
          (pss_cons (ps_set (i := 14) scLaw.nd rfl (Or.inr rfl) (pe_call C.GR (hr.mono (by decide)) (by rfl) C.gR C.FR.kp C.bR .nil pass0 (pa_cons (pe_call C.GC (hr.mono (by decide)) (by rfl) C.gC C.FC.kp C.bC .nil pass0 (pa_cons (pv 0) (pa_cons pe_int pa_nil))) (pa_cons pe_int (pa_cons (pv 2) pa_nil)))))
          (pss_cons (ps_setLc (i := 15) (own := [("_law_at", 9)]) (g := gName 9) (by rfl) scLaw.nd rfl rfl (sw_true rfl rfl rfl (by decide +kernel)) (pi_list (pv 4)) (blkOk_by (N := nLaw) (sc := defScope sLaw) (by decide +kernel)) (fun _ _ _ _ _ => (pg_name (i := 9) scLaw.nd rfl (Or.inl rfl)))
            (fun _ _ _ _ _ => pts_one (pt_cmpR op_ne (pv 9) (pv 14) (nomark _))) (fun _ _ _ _ _ => pe_ifExp (pt_cmpR op_gt (pv 9) (pv 14) (nomark _)) (pe_op op_sub (pv 9) pe_int) (pv 9)))
          (pss_one (ps_if (pt_cmpR op_gt (pe_call C.GD (hr.mono (by decide)) (by rfl) C.gD C.FD.kp C.bD .nil pass0 (pa_cons (pe_op op_cat (pe_slice sl_list (pv 1) po_none (po_some (pv 14))) (pe_slice sl_list (pv 1) (po_some (pe_op op_add (pv 14) pe_int)) po_none)) (pa_cons (pv 15) pa_nil))) (pv 13) (nomark _)) (pss_one (ps_ret pe_bl)) pss_nil)))) pss_nil))))))))))
      (pss_one (ps_ret (pe_and (pe_cmpR op_eq (pe_call C.GD (hr.mono (by decide)) (by rfl) C.gD C.FD.kp C.bD .nil pass0 (pa_cons (pe_lst pa_nil) (pa_cons (pe_lst pa_nil) pa_nil))) pe_int (nomark _)) (pe_one (pe_cmpR (op_eqD hr.units) (pe_call C.GS (hr.mono (by decide)) (by rfl) C.gS C.FS.kp C.bS .nil pass0 (pa_cons (pe_lst pa_nil) (pa_cons (pe_lst pa_nil) pa_nil))) (pe_lst pa_nil) (nomark _)))))))))
end
end Bp
namespace Bp
open PySem L2 Evl
section
variable {K : PySem.W.Frag} {σ : L2.St} {H : Hp} {D : Ends} {tz : TS} {dvs : List V} {E : XK} {sp : Sp}
theorem Made.add {H0 H : Hp} {l p : Addr} {zs : List (Addr × Th)} {t : Th} (m : Made H0 H l zs) (nl : H0 l = none) (np : H p = none) (hb : Bd t) : Made H0 (upd (upd H p (.tup (iv t))) l (.lst (tv zs ++ [.ref p]))) l (zs ++ [(p, t)]) := by
  have hl : (upd H p (.tup (iv t))) l = some (.lst (tv zs)) := Ex.new np _ _ m.ls
  refine ⟨Ex.mut (m.ex.trans (Ex.new np)) nl, ?_, fun z hz => ?_⟩
  · rw [upd_same, show [V.ref p] = tv [(p, t)] from rfl, tv_app]
  · rcases List.mem_append.mp hz with hz | hz
    · obtain ⟨a, b⟩ := m.it z hz
      refine ⟨?_, b⟩
      rw [upd_ne (ne_of a m.ls (by intro z; cases z)), upd_ne (ne_of_none a np)]
      exact a
    · obtain rfl := List.mem_singleton.mp hz
      refine ⟨?_, hb⟩
      have h2 : (upd H p (.tup (iv t))) p = some (.tup (iv t)) := upd_same
      rw [upd_ne (ne_of h2 hl (by intro z; cases z)), upd_same]
/-- [(0, 0)] * n -/
theorem ev_zero {tn : TE} {n : Nat} {Q : VK} (hn : ∀ H1, Ex H H1 → Ev tn σ H1 (.int (n : Int))) (hz : n ≤ 1000) (k : ∀ (q : Addr) (bs : List (Addr × (Int × Int))) (H1 : Hp), Ex H H1 → H q = none → Prs H1 q bs → ths bs = List.replicate n (0, 0) → Q (.ref q) H1) :
    tOp rRep (tLst (tCons (tTup (tCons (tC (.int 0)) (tCons (tC (.int 0)) tNil))) tNil)) tn σ H Q := by
  refine ⟨(by show 2 ≤ sizeLine; decide), fun t nt => ⟨(by show 1 ≤ sizeLine; decide), fun p0 np0 => ?_⟩⟩
  have e1 : Ex H (upd (upd H t (.tup [.int 0, .int 0])) p0 (.lst [.ref t])) := (Ex.new nt).trans (Ex.new np0)
  refine hn _ e1 _ (Ex.refl _) _ fun H2 e2 => ?_
  have ht : (upd (upd H t (.tup [.int 0, .int 0])) p0 (.lst [.ref t])) t = some (.tup [.int 0, .int 0]) := by
    rw [upd_ne (fun z => by rw [z, upd_same] at np0; cases np0), upd_same]
  refine ⟨p0, (n : Int), [.ref t], rfl, rfl, e2 _ _ upd_same, by omega, by omega, ?_, fun q nq => ?_⟩
  · show 1 * (n : Int).toNat ≤ sizeLine
    rw [Int.toNat_natCast, Nat.one_mul]
    exact sz_of (by omega)
  refine k q (List.replicate n (t, (0, 0))) _ ((e1.trans e2).trans (Ex.new nq)) (fresh_back (e1.trans e2) nq) ⟨?_, fun z hz => ?_⟩ ?_
  · rw [upd_same, Int.toNat_natCast, flat1]
    unfold tv
    rw [List.map_replicate]
  · obtain rfl := List.eq_of_mem_replicate hz
    exact Ex.new nq _ _ (e2 _ _ ht)
  · unfold ths
    rw [List.map_replicate]
/-- xs[c] = (x, y) -/
theorem s_prs {H0 : Hp} {d : Addr} {bs : List (Addr × (Int × Int))} {c : Nat} {x y : Int} {ta : TA} {to ti : TE} (hP : Prs H d bs) (hc : c < bs.length) (e0 : Ex H0 H) (nd : H0 d = none) (h1 : EvA ta σ H [.int x, .int y]) (h2 : Ev to σ H (.ref d)) (h3 : Ev ti σ H (.int (c : Int)))
    (k : ∀ r H1, Ex H0 H1 → Prs H1 d (bs.set c (r, (x, y))) → D.nx σ H1) : tAsg (tTup ta) (gSub to ti rSetL) D σ H := by
  refine h1 H (Ex.refl H) _ fun H1 e1 => ⟨(by show 2 ≤ sizeLine; decide), fun r nr => ?_⟩
  refine h2 _ (e1.trans (Ex.new nr)) _ fun H2 e2 => h3 H2 ((e1.trans (Ex.new nr)).trans e2) _ fun H3 e3 => ?_
  have e13 := ((e1.trans (Ex.new (o := .tup [.int x, .int y]) nr)).trans e2).trans e3
  have hr : H3 r = some (.tup [.int x, .int y]) := e3 _ _ (e2 _ _ upd_same)
  refine ⟨d, tv bs, (c : Int), c, rfl, rfl, e13 _ _ hP.1, ixN_nat (by rw [tv_len]; exact hc), ?_⟩
  refine k r _ (Ex.mut (e0.trans e13) nd) ⟨?_, fun z hz => ?_⟩
  · rw [upd_same, set_tv]
  · rcases List.mem_or_eq_of_mem_set hz with hz | rfl
    · have h := e13 _ _ (hP.2 z hz)
      rw [upd_ne (ne_of h (e13 _ _ hP.1) (by intro z; cases z))]
      exact h
    · rw [upd_ne (ne_of hr (e13 _ _ hP.1) (by intro z; cases z))]
      exact hr
theorem q_prs {H0 : Hp} {d : Addr} {bs : List (Addr × (Int × Int))} {c : Nat} {x y : Int} {ta : TA} {to ti : TE} (hP : Prs H d bs) (hc : c < bs.length) (e0 : Ex H0 H) (nd : H0 d = none) (h1 : EvA ta σ H [.int x, .int y]) (h2 : Ev to σ H (.ref d)) (h3 : Ev ti σ H (.int (c : Int)))
    (k : ∀ r H1, Ex H0 H1 → Prs H1 d (bs.set c (r, (x, y))) → tz D σ H1) : tSeq (tAsg (tTup ta) (gSub to ti rSetL)) tz D σ H := s_prs (D := { D with nx := tz D }) hP hc e0 nd h1 h2 h3 k
/-- x = f(..), by the promise itself -/
theorem q_asgX {i : Nat} {ta : TA} {vs : List V} (h : EvA ta σ H vs) (k : ∀ H1, Ex H H1 → sp (vs ++ dvs) H1 (fun v H2 => tz D (σ.set i (some v)) H2) E) : tSeq (tAsg (tCall sp dvs E ta) (gName i)) tz D σ H := h H (Ex.refl H) _ k
theorem el_revL {te : TE} {b : Addr} {xs : List V} (h : Ev te σ H (.ref b)) (hs : SqL K H b xs) : EvL (tRevL K te) σ H xs.reverse := fun H1 e Q q =>
  h H1 e _ fun H2 e2 => ⟨b, xs, rfl, ex_l (e.trans e2) hs, fun p hp => q p _ (fresh_back e2 hp) (e2.trans (Ex.new hp)) upd_same⟩
theorem el_cat {tl tr : TE} {xs ys : List V} (h1 : EvL tl σ H xs) (h2 : EvL tr σ H ys) (hz : xs.length + ys.length ≤ 100000) : EvL (tOp rCat tl tr) σ H (xs ++ ys) := fun H1 e Q q =>
  h1 H1 e _ fun p H2 _ e2 hp => h2 H2 (e.trans e2) _ fun r H3 _ e3 hr => ⟨p, r, xs, ys, rfl, rfl, e3 _ _ hp, hr, sz_of hz, fun u hu => q u _ (fresh_back (e2.trans e3) hu) ((e2.trans e3).trans (Ex.new hu)) upd_same⟩
/-- f(x, a new list) -/
theorem ev_callVL {t1 t2 : TE} {x z : V} {xs : List V} (h1 : Ev t1 σ H x) (h2 : EvL t2 σ H xs) (hs : ∀ p H1, Ex H H1 → H1 p = some (.lst xs) → ∀ Q : VK, (∀ H2, Ex H1 H2 → Q z H2) → sp ([x, .ref p] ++ dvs) H1 Q E) : Ev (tCall sp dvs E (tCons t1 (tCons t2 tNil))) σ H z := fun H1 e Q q =>
  h1 H1 e _ fun H2 e2 => h2 H2 (e.trans e2) _ fun p H3 _ e3 hp => hs p H3 ((e.trans e2).trans e3) hp Q fun H4 e4 => q H4 ((e2.trans e3).trans e4)
/-- f(a new list, x) -/
theorem ev_callLV {t1 t2 : TE} {x z : V} {xs : List V} (h1 : EvL t1 σ H xs) (h2 : Ev t2 σ H x) (hs : ∀ p H1, Ex H H1 → H1 p = some (.lst xs) → ∀ Q : VK, (∀ H2, Ex H1 H2 → Q z H2) → sp ([.ref p, x] ++ dvs) H1 Q E) : Ev (tCall sp dvs E (tCons t1 (tCons t2 tNil))) σ H z := fun H1 e Q q =>
  h1 H1 e _ fun p H2 _ e2 hp => h2 H2 (e.trans e2) _ fun H3 e3 => hs p H3 ((e.trans e2).trans e3) (e3 _ _ hp) Q fun H4 e4 => q H4 ((e2.trans e3).trans e4)
end
section
variable {P : Program} {w : World} {K : PySem.W.Frag} {mg : Str → Option Value} {base : Heap}
theorem ok_law {f fT fC fR fN fL fW fD fS : Addr} {fd dT dC dR dN dL dW dD dS : FuncData} (F : Fun K "law" "law" sLaw f fd) (T : Bn mg) (C : Lks K mg P w base fT fC fR fN fL fW fD fS dT dC dR dN dL dW dD dS) : FnOk P w K mg base CX0 6 f fd ["_law_script"] (spLaw K) := by
  refine F.ok scLaw (fun vs H Q E h => ?_) (fun cdv A outer s H vs Q E hr h => ?_)
  · obtain ⟨a, ns, rfl, _⟩ := h
    rfl
  · obtain ⟨a, ns, rfl, hS, hz, q⟩ := h
    refine ⟨_, law_pf T C hr, ?_⟩
    clear hr
    -- things_here = _law_things(script)
    refine ⟨.ref a, rfl, a, ns, rfl, hS, hz, fun l zs H1 e1 nl hl hbd hzs => ?_⟩
    have hT : Ths K H1 l zs := ⟨sq_of hl, fun z hz => st_of (hbd z hz).1, fun z hz => (hbd z hz).2.nn, by omega⟩
    have hS1 : SqL K H1 a (ns.map V.int) := ex_l e1 hS
    have hnn := ths_nn hT
    refine q_asg (v := .int (zs.length : Int)) (ev_is (ev_cb (ea_cons (ev_var rfl) ea_nil) (rc_lenL hT.ls)) (by rw [tv_len])) fun H2 e2 => ?_
    have hT2 := hT.mono e2
    -- turned = [..]
    refine ⟨.ref l, rfl, l, rfl, ⟨_, hT2.ls⟩, fun t nt => lc_list (K := K) (a := l) (xs := tv zs) (fun i H' => ∃ ws : List (Addr × Th), Made H2 H' t ws ∧ ths ws = ((ths zs).take i).map turn) ⟨[], ⟨Ex.new nt, upd_same, fun z hz => nomatch hz⟩, rfl⟩ (fun i H' _ ⟨ws, m, _⟩ => ex_l m.ex hT2.ls) ?_ ?_⟩
    · rintro i x H' hi ⟨ws, m, hw⟩
      obtain ⟨z, hzi, rfl⟩ := tv_get hi
      have hzm : z ∈ zs := List.mem_of_getElem? hzi
      have hB := (hbd z hzm).2
      have hwl : ws.length ≤ zs.length := by
        rw [← ths_len ws, hw, List.length_map, List.length_take, ths_len]
        exact Nat.min_le_right _ _
      refine ⟨z.1, iv z.2, rfl, ex_t m.ex (hT2.it z hzm), rfl, _, _, rfl, _, _, rfl, _, _, rfl, rfl, rfl, ?_⟩
      refine et_yes (H := H') H' (Ex.refl H') _ fun H4 e4 => ?_
      have m := m.more e4
      refine iteT ?_
      refine ⟨_, rfl, _, rfl, _, rfl, (by show 3 ≤ sizeLine; decide), fun p np => ⟨tv ws, Ex.new np _ _ m.ls, ?_, ws ++ [(p, turn z.2)], m.add (t := turn z.2) nt np ⟨hB.2.2, hB.2.1, hB.1⟩, ?_⟩⟩
      · rw [tv_len]
        exact sz_lt (by omega)
      · have e : (ths zs)[i]? = some z.2 := by
          unfold ths
          rw [List.getElem?_map, hzi]
          rfl
        rw [List.take_add_one, e, List.map_append, ← hw]
        unfold ths
        rw [List.map_append]
        rfl
    rintro H3 ⟨ws, m, hw⟩
    rw [tv_len, ← ths_len zs, List.take_length] at hw
    have hwl : ws.length = zs.length := by rw [← ths_len ws, hw, List.length_map, ths_len]
    have hTn3 : Ths K H3 t ws := ⟨sq_of m.ls, fun z hz => st_of (m.it z hz).1, fun z hz => (m.it z hz).2.nn, by omega⟩
    have e3 := m.ex
    -- the three orders
    refine ⟨_, rfl, _, rfl, RgOk.of_le (by omega) (by omega) (by omega) (by omega), fun b0 nb0 => ⟨_, rfl, _, rfl, RgOk.of_le (by omega) (by omega) (by omega) (by omega), fun b1' nb1' => ⟨b1', _, rfl, sq_of upd_same, fun b1 nb1 => ?_⟩⟩⟩
    have hb0 := Ex.new (o := .lst (rgV 0 (zs.length : Int)).reverse) nb1 _ _ (Ex.new (o := .lst (rgV 0 (zs.length : Int))) nb1' _ _ (upd_same (H := H3) (a := b0) (o := .lst (rgV 0 (zs.length : Int)))))
    have hb1 := upd_same (H := upd (upd H3 b0 (.lst (rgV 0 (zs.length : Int)))) b1' (.lst (rgV 0 (zs.length : Int)))) (a := b1) (o := .lst (rgV 0 (zs.length : Int)).reverse)
    have e4 := ((Ex.new (o := .lst (rgV 0 (zs.length : Int))) nb0).trans (Ex.new (o := .lst (rgV 0 (zs.length : Int))) nb1')).trans (Ex.new (o := .lst (rgV 0 (zs.length : Int)).reverse) nb1)
    generalize upd (upd (upd H3 b0 (.lst (rgV 0 (zs.length : Int)))) b1' (.lst (rgV 0 (zs.length : Int)))) b1 (.lst (rgV 0 (zs.length : Int)).reverse) = H4 at hb0 hb1 e4
    rw [rg_ov] at hb0 hb1
    rw [ov_rev] at hb1
    have eA : Ex H1 H4 := (e2.trans e3).trans e4
    refine ⟨.ref a, rfl, _, rfl, a, ns, zs.length, rfl, ex_l eA hS1, hz, by omega, fun b2 o2 H5 e5 _ hb2 ho2 => ⟨(by show 3 ≤ sizeLine; decide), fun tp ntp => ⟨tp, rfl, ⟨_, st_of upd_same⟩, ?_⟩⟩⟩
    have e6 : Ex H5 (upd H5 tp (.tup [.ref b0, .ref b1, .ref b2])) := Ex.new ntp
    have htp : (upd H5 tp (.tup [.ref b0, .ref b1, .ref b2])) tp = some (.tup [.ref b0, .ref b1, .ref b2]) := upd_same
    generalize upd H5 tp (.tup [.ref b0, .ref b1, .ref b2]) = H6 at e6 htp
    have hT6 : Ths K H6 l zs := hT.mono ((eA.trans e5).trans e6)
    have hTn6 : Ths K H6 t ws := hTn3.mono ((e4.trans e5).trans e6)
    have hS6 : SqL K H6 a (ns.map V.int) := ex_l ((eA.trans e5).trans e6) hS1
    have hb0 : SqL K H6 b0 (ov (List.range zs.length)) := sq_of (e6 _ _ (e5 _ _ hb0))
    have hb1 : SqL K H6 b1 (ov (List.range zs.length).reverse) := sq_of (e6 _ _ (e5 _ _ hb1))
    have hb2 : SqL K H6 b2 (ov o2) := sq_of (e6 _ _ hb2)
    clear e1 e2 e3 e4 eA e5 e6 m hT hT2 hTn3 hS hS1 nb0 nb1 nb1' nl nt ntp hl
    refine for_tup (K := K) (a := tp) (xs := [.ref b0, .ref b1, .ref b2]) (fun i σ' H' => ∃ (r4 r5 r6 r7 r8 r9 r10 r11 r12 r13 r14 r15 r16 r17 r18 r19 : Option V), σ' = [some (.ref a), some (.ref l), some (.int (zs.length : Int)), some (.ref t), r4, r5, r6, r7, r8, r9, r10, r11, r12, r13, r14, r15, r16, r17, r18, r19] ∧ Ex H6 H') ⟨none, none, none, none, none, none, none, none, none, none, none, none, none, none, none, none, rfl, Ex.refl H6⟩ (fun i σ' H' _ h => ?_) ?_ ?_
    · obtain ⟨_, _, _, _, _, _, _, _, _, _, _, _, _, _, _, _, _, e⟩ := h
      exact ex_t e (st_of htp)
    · rintro i x σ' H' hx ⟨r4, r5, r6, r7, r8, r9, r10, r11, r12, r13, r14, r15, r16, r17, r18, r19, rfl, e'⟩
      obtain ⟨b, o, rfl, hb, ho⟩ : ∃ b o, x = .ref b ∧ SqL K H' b (ov o) ∧ Ord zs.length o := by
        match i, hx with
        | 0, hx => exact ⟨b0, _, (Option.some.inj hx).symm, ex_l e' hb0, Ord.range _⟩
        | 1, hx => exact ⟨b1, _, (Option.some.inj hx).symm, ex_l e' hb1, (Ord.range _).rev⟩
        | 2, hx => exact ⟨b2, _, (Option.some.inj hx).symm, ex_l e' hb2, ho2⟩
        | i + 3, hx => cases hx
      clear hx hb0 hb1 hb2 ho2
      have hl := ho.len
      have hT7 := hT6.mono e'
      -- handed = [list(things_here), list(order_here)]
      refine ⟨.ref l, rfl, l, tv zs, rfl, .inl hT7.ls, fun h1 nh1 => ⟨.ref b, rfl, b, ov o, rfl, .inl (ex_l (Ex.new nh1) hb), fun h2 nh2 => ⟨(by show 2 ≤ sizeLine; decide), fun hh nhh => ?_⟩⟩⟩
      have hh1 := Ex.new (o := .lst [.ref h1, .ref h2]) nhh _ _ (Ex.new (o := .lst (ov o)) nh2 _ _ (upd_same (H := H') (a := h1) (o := .lst (tv zs))))
      have hh2 := Ex.new (o := .lst [.ref h1, .ref h2]) nhh _ _ (upd_same (H := upd H' h1 (.lst (tv zs))) (a := h2) (o := .lst (ov o)))
      have hh3 := upd_same (H := upd (upd H' h1 (.lst (tv zs))) h2 (.lst (ov o))) (a := hh) (o := .lst [.ref h1, .ref h2])
      have e7 := ((Ex.new (o := .lst (tv zs)) nh1).trans (Ex.new (o := .lst (ov o)) nh2)).trans (Ex.new (o := .lst [.ref h1, .ref h2]) nhh)
      generalize upd (upd (upd H' h1 (.lst (tv zs))) h2 (.lst (ov o))) hh (.lst [.ref h1, .ref h2]) = H7 at hh1 hh2 hh3 e7
      have hT7 := hT7.mono e7
      have hb7 := ex_l e7 hb
      have e67 := e'.trans e7
      -- due, first, second = [(0, 0)] * many, 0, 0
      refine ev_zero (n := zs.length) (fun H1 _ => ev_var rfl) (by omega) fun d ds0 H8 e8 nd hP0 hds0 => ⟨_, _, _, rfl, ?_⟩
      refine q_cut (M := fun σ2 H2 => ∃ (ds : List (Addr × (Int × Int))) (r9 r10 : Option V), σ2 = [some (.ref a), some (.ref l), some (.int (zs.length : Int)), some (.ref t), some (.ref b), some (.ref hh), some (.ref d), some (.int (going (ths zs) o).2.1), some (.int (going (ths zs) o).2.2), r9, r10, r11, r12, r13, r14, r15, r16, r17, r18, r19] ∧ Ex H7 H2 ∧ Prs H2 d ds ∧ ths ds = (going (ths zs) o).1) ?_ ?_
      · refine s_forLn (a := b) (xs := ov o) (ev_var rfl) (ex_l e8 hb7) (fun i σ2 H2 => ∃ (ds : List (Addr × (Int × Int))) (r9 r10 : Option V), σ2 = [some (.ref a), some (.ref l), some (.int (zs.length : Int)), some (.ref t), some (.ref b), some (.ref hh), some (.ref d), some (.int (going (ths zs) (o.take i)).2.1), some (.int (going (ths zs) (o.take i)).2.2), r9, r10, r11, r12, r13, r14, r15, r16, r17, r18, r19] ∧ Ex H7 H2 ∧ Prs H2 d ds ∧ ths ds = (going (ths zs) (o.take i)).1)
          (fun H9 e9 => ⟨ds0, _, _, rfl, e8.trans e9, ⟨e9 _ _ hP0.1, fun z hz => e9 _ _ (hP0.2 z hz)⟩, by rw [hds0, ← ths_len zs]; rfl⟩) (fun i σ2 H2 _ ⟨_, _, _, _, e, _⟩ => ex_l e hb7) ?_ ?_
        · rintro i x σ2 H2 hi ⟨ds, r9, r10, rfl, e2, hP, hds⟩
          obtain ⟨c, hc, rfl⟩ := ov_get hi
          have hcn : c < zs.length := ho.lt (List.mem_of_getElem? hc)
          have hdl : ds.length = zs.length := by rw [← ths_len ds, hds, going_len, ths_len]
          have step : going (ths zs) (o.take (i + 1)) = stp (ths zs) (going (ths zs) (o.take i)) c := fold_more hc
          refine q_asg (ev_var rfl) fun H3 e3 => q_asg (ev_op (ev_var rfl) (ev_part (hT7.mono (e2.trans e3)) hcn (j := 0) rfl (ev_var rfl) (ev_var rfl) ev_c) rv_I0) fun H4 e4 => ?_
          refine q_asg (ev_cb (r := rMax2) (ea_cons (ev_var rfl) (ea_cons (ev_op (ev_var rfl) (ev_part (hT7.mono ((e2.trans e3).trans e4)) hcn (j := 1) rfl (ev_var rfl) (ev_var rfl) ev_c) rv_I0) ea_nil)) fun H1 e Q q => ⟨_, _, rfl, q H1 (Ex.refl H1)⟩) fun H5 e5 => ?_
          have e25 := ((e2.trans e3).trans e4).trans e5
          have e35 := (e3.trans e4).trans e5
          refine q_prs (bs := ds) (c := c) ⟨e35 _ _ hP.1, fun z hz => e35 _ _ (hP.2 z hz)⟩ (by omega) e25 nd (ea_cons (ev_var rfl) (ea_cons (ev_var rfl) ea_nil)) (ev_var rfl) (ev_var rfl) fun r H6' e6 hP6 => ?_
          refine s_asg (ev_op (ev_var rfl) (ev_part (hT7.mono e6) hcn (j := 2) rfl (ev_var rfl) (ev_var rfl) ev_c) rv_I0) fun H8' e8' => ⟨_, some (.int (c : Int)), some (.int (going (ths zs) (o.take i)).2.1), ?_, e6.trans e8', ⟨e8' _ _ hP6.1, fun z hz => e8' _ _ (hP6.2 z hz)⟩, ?_⟩
          · rw [step, stp_law rfl]
            rfl
          · rw [set_ths, hds, step, stp_law rfl]
        · rintro σ2 H2 ⟨ds, r9, r10, rfl, e2, hP, hds⟩
          rw [ov_len, List.take_length] at hds ⊢
          exact ⟨ds, r9, r10, rfl, e2, hP, hds⟩
      rintro σ2 H9 ⟨ds, r9, r10, rfl, e79, hP, hds⟩
      clear hP0 hds0 e8 ds0
      have hT9 := hT7.mono e79
      have hb9 := ex_l e79 hb7
      have hh1 := e79 _ _ hh1
      have hh2 := e79 _ _ hh2
      have hh3 := e79 _ _ hh3
      have e69 := e67.trans e79
      have dh : DpX K H9 (.ref hh) (.list [.list ((ths zs).map Bp.dT), .list (o.map dI)]) := dpx_two hh3 (dpx_ths (l := h1) ⟨sq_of hh1, hT9.it, hT9.nn, hT9.le⟩) (dpx_ov (sq_of hh2))
      have dd : DpX K H9 (.ref d) (.list ((going (ths zs) o).1.map dP)) := hds ▸ dpx_prs hP
      have d1 := dpx_ths hT9
      have d2 := dpx_ov hb9
      -- starts, twice
      refine q_cut (M := fun σ2 H2 => ∃ (r11 r12 : Option V), σ2 = [some (.ref a), some (.ref l), some (.int (zs.length : Int)), some (.ref t), some (.ref b), some (.ref hh), some (.ref d), some (.int (going (ths zs) o).2.1), some (.int (going (ths zs) o).2.2), r9, r10, r11, r12, r13, r14, r15, r16, r17, r18, r19] ∧ Ex H9 H2) ?_ ?_
      · refine s_forR1 (n := 2) (ea_cons ev_c ea_nil) (by decide) (fun i σ2 H2 => ∃ (r11 r12 : Option V), σ2 = [some (.ref a), some (.ref l), some (.int (zs.length : Int)), some (.ref t), some (.ref b), some (.ref hh), some (.ref d), some (.int (going (ths zs) o).2.1), some (.int (going (ths zs) o).2.2), r9, r10, r11, r12, r13, r14, r15, r16, r17, r18, r19] ∧ Ex H9 H2)
          (fun H2 e2 => ⟨_, _, rfl, e2⟩) ?_ (fun σ2 H2 h => h)
        rintro i σ2 H2 _ ⟨r11, r12, rfl, e2⟩
        refine q_asgX (ea_cons (ev_op (ev_var rfl) ev_c (rv_ixL (v := .ref h1) (sq_of (e2 _ _ hh3)) rfl)) (ea_cons (ev_op (ev_var rfl) ev_c (rv_ixL (v := .ref h2) (sq_of (e2 _ _ hh3)) rfl)) ea_nil)) fun H3 e3 => ?_
        refine ⟨h1, h2, zs, o, rfl, ⟨sq_of (e3 _ _ (e2 _ _ hh1)), fun z hz => ex_t (e2.trans e3) (hT9.it z hz), hT9.nn, hT9.le⟩, sq_of (e3 _ _ (e2 _ _ hh2)), ho, fun q' bs H4 e4 nq hPq hbs => ?_⟩
        have e24 := (e2.trans e3).trans e4
        have dq : DpX K H4 (.ref q') (.list ((going (ths zs) o).1.map dP)) := hbs ▸ dpx_prs hPq
        have hbl : bs.length = zs.length := by rw [← ths_len bs, hbs, going_len, ths_len]
        refine q_when (b := false) (et_is (et_or (et_not (et_B (ev_cb (ea_cons (ev_var rfl) (ea_cons ev_c ea_nil)) (rc_isi (ty_lst (K := K) (sq_of hPq.1)) (b := true) (by decide +kernel))))) fun _ =>
          et_or (et_test (ev_op (ev_var rfl) (ev_var rfl) (rv_neD dq (dd.mono e24) (sh_map canP depP _)))) fun _ => et_test (ev_opL (ev_var rfl) (el_lst (ea_cons (ev_var rfl) (ea_cons (ev_var rfl) ea_nil)) (by show 2 ≤ 100000; decide)) fun p H5 hp e5 => rv_neD (dh.mono (e24.trans e5)) (dpx_two hp (d1.mono (e24.trans e5)) (d2.mono (e24.trans e5))) (sh_two _ _))) rfl) (fun z => by cases z) fun _ H5 e5 => ?_
        refine q_when (b := false) (et_is (et_not (et_B (b := true) (ev_cbL (el_lcL (a := q') (xs := tv bs) (fun _ => true) (fun _ => .bl true) (ev_var rfl) (sq_of (e5 _ _ hPq.1)) (by rw [tv_len]; omega) (fun x => rfl) (fun i x H6 e6 hi => et_yes) fun i x H6 e6 hi _ => ?_) fun p H6 e6 hp => ?_))) rfl) (fun z => by cases z) fun _ H6 e6 => ?_
        · obtain ⟨z, hzi, rfl⟩ := tv_get hi
          exact ev_cb (ea_cons (ev_var rfl) (ea_cons ev_c ea_nil)) (rc_isi (ty_tup (K := K) (st_of (e6 _ _ (e5 _ _ (hPq.2 z (List.mem_of_getElem? hzi)))))) (by decide +kernel))
        · rw [given_true] at hp
          have := rc_all (K := K) (sq_of hp)
          rw [all_true] at this
          exact this
        · refine s_appU (e6 _ _ (e5 _ _ hPq.1)) (ev_var rfl) (eu_tup (ea_cons ev_c (ea_cons ev_c ea_nil)) (by show 2 ≤ 100000; decide)) (by rw [tv_len]; omega) fun p H7' np e7' hp => ⟨_, _, rfl, Ex.mut (((e24.trans e5).trans e6).trans e7') (fresh_back (e2.trans e3) nq)⟩
      clear r11 r12
      rintro σ2 H10 ⟨r11, r12, rfl, e10⟩
      have hT10 := hT9.mono e10
      have hWn : (going (ths zs) o).2.2 = W (path (ths zs) o) := going_W hnn o
      have hh1 := e10 _ _ hh1
      have hh2 := e10 _ _ hh2
      have hh3 := e10 _ _ hh3
      have hb10 := ex_l e10 hb9
      have hT1 : Ths K H10 h1 zs := ⟨sq_of hh1, hT10.it, hT10.nn, hT10.le⟩
      have dh := dh.mono e10
      have d1 := d1.mono e10
      have d2 := d2.mono e10
      have hTn10 := hTn6.mono (e69.trans e10)
      have hS10 := ex_l (e69.trans e10) hS6
      have eAll : Ex H6 H10 := e69.trans e10
      clear dd hP hds
      -- told = done(..)
      refine q_asg (v := .int (going (ths zs) o).2.2) (ev_call (ea_cons (ev_op (ev_var rfl) ev_c (rv_ixL (v := .ref h1) (sq_of hh3) rfl)) (ea_cons (ev_op (ev_var rfl) ev_c (rv_ixL (v := .ref h2) (sq_of hh3) rfl)) ea_nil)) fun H1 e Q q E => ⟨h1, h2, zs, o, rfl, hT1.mono e, sq_of (e _ _ hh2), ho, q⟩) fun H11 e11 => ?_
      have hld : ((path (ths zs) o).foldl ldS (0, B (path (ths zs) o), 0)).2.2 = (going (ths zs) o).2.2 := by rw [hWn, ld_W (path_nn hnn o)]
      refine q_when (b := false) (et_is (et_or (et_not (et_B (ev_call (z := .bl true) (ea_cons (ev_var rfl) ea_nil) fun H1 e Q q E => ⟨_, rfl, q⟩))) fun _ => et_or (et_test (ev_op (ev_var rfl) (ev_var rfl) (rv_ne rfl))) fun _ =>
        et_or (et_test (ev_op (ev_var rfl) (ev_is (ev_call (z := .int ((path (ths zs) o).foldl ldS (0, B (path (ths zs) o), 0)).2.2) (ea_cons (ev_var rfl) (ea_cons (ev_var rfl) ea_nil)) fun H1 e Q q E => ⟨l, b, zs, o, rfl, hT10.mono (e11.trans e), ex_l (e11.trans e) hb10, ho, q⟩) (by rw [hld])) (rv_ne rfl))) fun _ =>
        et_test (ev_opL (ev_var rfl) (el_lst (ea_cons (ev_var rfl) (ea_cons (ev_var rfl) ea_nil)) (by show 2 ≤ 100000; decide)) fun p H5 hp e5 => rv_neD (dh.mono (e11.trans e5)) (dpx_two hp (d1.mono (e11.trans e5)) (d2.mono (e11.trans e5))) (sh_two _ _))) (by rw [decide_eq_true rfl]; rfl)) (fun z => by cases z) fun _ H12 e12 => ?_
      have e1012 := e11.trans e12
      -- done(turned, order[::-1]) != told
      refine q_when (b := false) (et_is (et_test (ev_op (ev_callVL (z := .int (going (ths zs) o).2.2) (ev_var rfl) (el_revL (ev_var rfl) (ex_l e1012 hb10)) fun p H1 e hp Q q => ⟨t, p, ws, o.reverse, rfl, hTn10.mono (e1012.trans e), sq_of (by rw [hp, ov_rev]), by rw [hwl]; exact ho.rev, ?_⟩) (ev_var rfl) (rv_ne rfl))) (by rw [decide_eq_true rfl]; rfl)) (fun z => by cases z) fun _ H13 e13 => ?_
      · have : (going (ths ws) o.reverse).2.2 = (going (ths zs) o).2.2 := by
          rw [going_W (ths_nn hTn10), hWn, hw]
          exact W_turned hnn (by rw [ths_len]; exact ho)
        rw [this]
        exact q
      have e1013 := e1012.trans e13
      -- a thing left out
      refine s_when (b := decide ((0 : Int) < (zs.length : Int))) (et_test (ev_op (ev_var rfl) ev_c rv_I0)) (fun hpos H14 e14 => ?_) (fun _ H14 e14 => ⟨_, _, _, _, _, _, _, _, _, _, _, _, _, _, _, _, rfl, (eAll.trans e1013).trans e14⟩)
      have hpos : (0 : Int) < (zs.length : Int) := of_decide_eq_true hpos
      have hd := drawF_lt (c := ns.getD 1 0) (k := 4) (m := (zs.length : Int)) hpos
      obtain ⟨k, hk⟩ : ∃ k : Nat, drawF (ns.getD 1 0) 4 (zs.length : Int) = (k : Int) := ⟨(drawF (ns.getD 1 0) 4 (zs.length : Int)).toNat, by omega⟩
      rw [hk] at hd
      have hkl : k < zs.length := by omega
      have e1014 := e1013.trans e14
      refine q_asg (v := .int (k : Int)) (ev_call (ea_cons (ev_call (z := .int (ns.getD 1 0)) (ea_cons (ev_var rfl) (ea_cons ev_c ea_nil)) fun H1 e Q q E => ⟨a, ns, 1, rfl, ex_l (e1014.trans e) hS10, q⟩) (ea_cons ev_c (ea_cons (ev_var rfl) ea_nil))) fun H1 e Q q E => ⟨_, _, _, rfl, hpos, by rw [hk]; exact q⟩) fun H15 e15 => ?_
      have e1015 := e1014.trans e15
      refine q_asgL (xs := ov (Bp.less k o)) (fun H1 e Q qq => el_lcL (a := b) (xs := ov o) (fun i => !decide (V.int (o.getD i 0 : Int) = V.int (k : Int))) (fun i => .int (shift k (o.getD i 0) : Int)) (ev_var rfl) (ex_l (e1015.trans e) hb10) (by rw [ov_len]; omega) (fun x => rfl) (fun i x H2 e2 hi => ?_) (fun i x H2 e2 hi hf => ?_) H1 (Ex.refl H1) Q fun p H2 np e2 hp => qq p H2 np e2 (by rw [hp, ov_len, given_less])) fun rr H16 nr e16 hrr => ?_
      · obtain ⟨c, hc, rfl⟩ := ov_get hi
        have hcd : o.getD i 0 = c := by rw [List.getD_eq_getElem?_getD, hc]; rfl
        rw [hcd]
        exact et_test (ev_op (ev_var rfl) (ev_var rfl) (rv_ne rfl))
      · obtain ⟨c, hc, rfl⟩ := ov_get hi
        have hcd : o.getD i 0 = c := by rw [List.getD_eq_getElem?_getD, hc]; rfl
        rw [hcd]
        refine ev_if (b := decide ((k : Int) < (c : Int))) (et_test (ev_op (ev_var rfl) (ev_var rfl) rv_I0)) (fun hb' => ev_is (ev_op (ev_var rfl) ev_c rv_I0) ?_) (fun hb' => ev_is (ev_var rfl) ?_)
        · have := of_decide_eq_true hb'
          unfold shift
          rw [if_pos (by omega)]
          exact congrArg V.int (by omega)
        · have := of_decide_eq_false hb'
          unfold shift
          rw [if_neg (by omega)]
      have e1016 := e1015.trans e16
      have hT16 := hT10.mono e1016
      refine s_when (b := false) (et_is (et_test (ev_op (ev_callLV (z := .int (going (ths (zs.take k ++ zs.drop (k + 1))) (Bp.less k o)).2.2) (el_cat (el_sl (ev_var rfl) eo_none (eo_some (ev_var rfl)) hT16.ls) (el_sl (ev_var rfl) (eo_some (ev_op (ev_var rfl) ev_c rv_I0)) eo_none hT16.ls) ?_) (ev_var rfl) fun p H1 e hp Q q => ⟨p, rr, zs.take k ++ zs.drop (k + 1), Bp.less k o, rfl, (hT16.mono e).less k hkl ?_, sq_of (e _ _ hrr), ?_, q⟩) (ev_var rfl) rv_I0)) ?_) (fun z => by cases z) (fun _ H17 e17 => ⟨_, _, _, _, _, _, _, _, _, _, _, _, _, _, _, _, rfl, (eAll.trans e1016).trans e17⟩)
      · have h1 := cutV_length (tv zs) none (some (k : Int))
        have h2 := cutV_length (tv zs) (some ((k : Int) + 1)) none
        rw [tv_len] at h1 h2
        omega
      · rw [hp, cut_to zs k (by omega), cut_from zs k (by omega), tv_app]
      · have hn1 : (zs.take k ++ zs.drop (k + 1)).length = zs.length - 1 := by
          rw [List.length_append, List.length_take, List.length_drop]
          omega
        rw [hn1]
        obtain ⟨n', hn'⟩ : ∃ n', zs.length = n' + 1 := ⟨zs.length - 1, by omega⟩
        rw [hn'] at ho hkl ⊢
        exact ho.less hkl
      · have e1 : ths (zs.take k ++ zs.drop (k + 1)) = (ths zs).take k ++ (ths zs).drop (k + 1) := by
          unfold ths
          rw [List.map_append, List.map_take, List.map_drop]
        have hle : (going (ths (zs.take k ++ zs.drop (k + 1))) (Bp.less k o)).2.2 ≤ (going (ths zs) o).2.2 := by
          rw [going_W, hWn, e1]
          · exact W_less hnn (by rw [ths_len]; exact hkl)
          · intro x hx
            rw [e1] at hx
            rcases List.mem_append.mp hx with hx | hx
            · exact hnn x (List.mem_of_mem_take hx)
            · exact hnn x (List.mem_of_mem_drop hx)
        exact decide_eq_false (by omega)
    · rintro σ' H' ⟨r4, r5, r6, r7, r8, r9, r10, r11, r12, r13, r14, r15, r16, r17, r18, r19, rfl, e'⟩
      -- return done([], []) == 0 and starts([], []) == []
      have emp : ∀ {H1 : Hp} {p : Addr}, H1 p = some (.lst []) → Ths K H1 p [] := fun h => ⟨sq_of h, fun z hz => (nomatch hz), fun z hz => (nomatch hz), Nat.zero_le _⟩
      refine ⟨(by show 0 ≤ sizeLine; decide), fun p1 np1 => ⟨(by show 0 ≤ sizeLine; decide), fun p2 np2 => ⟨p1, p2, [], [], rfl, emp (Ex.new np2 _ _ upd_same), sq_of upd_same, Ord.range 0, fun H7 e7 => ⟨rfl, true, rfl, iteT ?_⟩⟩⟩⟩
      refine ⟨(by show 0 ≤ sizeLine; decide), fun p3 np3 => ⟨(by show 0 ≤ sizeLine; decide), fun p4 np4 => ⟨p3, p4, [], [], rfl, emp (Ex.new np4 _ _ upd_same), sq_of upd_same, Ord.range 0, fun q' bs H8 e8 nq hPq hbs => ⟨(by show 0 ≤ sizeLine; decide), fun p5 np5 => ?_⟩⟩⟩⟩
      have hbn : bs = [] := List.map_eq_nil_iff.mp (hbs : bs.map (fun z => z.2) = [])
      subst hbn
      exact ⟨.list [], .list [], .lst (sq_of (Ex.new np5 _ _ hPq.1)) .nil, .lst (sq_of upd_same) .nil, rfl, rfl, q _⟩
end
end Bp
namespace Bp
open PySem L2 Evl
/-! ### what the top has written -/
theorem all_mk {l : PySem.W.OpenLaw} {w : World} {K : PySem.W.Frag} {h : Heap} {mg : Str → Option Value} {fa f1 f2 f3 f4 f5 f6 f7 f8 f9 f10 f11 f12 f13 f14 f15 f16 : Addr} (X : K.In h) (G : h.Ns mainGlobals mg) (hfa : mg "law" = some (.ref fa))
    {od1 an1 od2 an2 od3 an3 od4 an4 od5 an5 od6 an6 od7 an7 od8 an8 od9 an9 od10 an10 od11 an11 od12 an12 od13 an13 od14 an14 od15 an15 od16 an16 : Option Addr} {sl1 sl2 sl3 sl4 sl5 sl6 sl7 sl8 sl9 sl10 sl11 sl12 sl13 sl14 sl15 sl16 : Array (Option Value)} {oc1 kV1 dc1 pm1 cd1 ct1 oc2 kV2 dc2 pm2 cd2 ct2 oc3 kV3 dc3 pm3 cd3 ct3 oc4 kV4 dc4 pm4 cd4 ct4 oc5 kV5 dc5 pm5 cd5 ct5 oc6 kV6 dc6 pm6 cd6 ct6 oc7 kV7 dc7 pm7 cd7 ct7 oc8 kV8 dc8 pm8 cd8 ct8 oc9 kV9 dc9 pm9 cd9 ct9 oc10 kV10 dc10 pm10 cd10 ct10 oc11 kV11 dc11 pm11 cd11 ct11 oc12 kV12 dc12 pm12 cd12 ct12 oc13 kV13 dc13 pm13 cd13 ct13 oc14 kV14 dc14 pm14 cd14 ct14 oc15 kV15 dc15 pm15 cd15 ct15 oc16 kV16 dc16 pm16 cd16 ct16 : Value}
    (a1 : PySem.W.nsIn K mainGlobals "is_whole" = some (some (.ref f1))) (l1 : K.lookup f1 = some ⟨oc1, od1, .func (PySem.W.fnOf "is_whole" "is_whole" (defArgs sWhole) (defBody sWhole) (defScope sWhole) .none kV1 dc1 pm1 an1 cd1 ct1), sl1⟩) (c1 : PySem.W.codeIn K cd1 "is_whole" = true) (k1 : PySem.W.keepIn K (.ref f1) = true)
    (a2 : PySem.W.nsIn K mainGlobals "is_length" = some (some (.ref f2))) (l2 : K.lookup f2 = some ⟨oc2, od2, .func (PySem.W.fnOf "is_length" "is_length" (defArgs sLen) (defBody sLen) (defScope sLen) .none kV2 dc2 pm2 an2 cd2 ct2), sl2⟩) (c2 : PySem.W.codeIn K cd2 "is_length" = true) (k2 : PySem.W.keepIn K (.ref f2) = true)
    (a3 : PySem.W.nsIn K mainGlobals "is_thing" = some (some (.ref f3))) (l3 : K.lookup f3 = some ⟨oc3, od3, .func (PySem.W.fnOf "is_thing" "is_thing" (defArgs sThing) (defBody sThing) (defScope sThing) .none kV3 dc3 pm3 an3 cd3 ct3), sl3⟩) (c3 : PySem.W.codeIn K cd3 "is_thing" = true) (k3 : PySem.W.keepIn K (.ref f3) = true)
    (a4 : PySem.W.nsIn K mainGlobals "is_order" = some (some (.ref f4))) (l4 : K.lookup f4 = some ⟨oc4, od4, .func (PySem.W.fnOf "is_order" "is_order" (defArgs sOrder) (defBody sOrder) (defScope sOrder) .none kV4 dc4 pm4 an4 cd4 ct4), sl4⟩) (c4 : PySem.W.codeIn K cd4 "is_order" = true) (k4 : PySem.W.keepIn K (.ref f4) = true)
    (a5 : PySem.W.nsIn K mainGlobals "check_things" = some (some (.ref f5))) (l5 : K.lookup f5 = some ⟨oc5, od5, .func (PySem.W.fnOf "check_things" "check_things" (defArgs sCkT) (defBody sCkT) (defScope sCkT) .none kV5 dc5 pm5 an5 cd5 ct5), sl5⟩) (c5 : PySem.W.codeIn K cd5 "check_things" = true) (k5 : PySem.W.keepIn K (.ref f5) = true)
    (a6 : PySem.W.nsIn K mainGlobals "check_order" = some (some (.ref f6))) (l6 : K.lookup f6 = some ⟨oc6, od6, .func (PySem.W.fnOf "check_order" "check_order" (defArgs sCkO) (defBody sCkO) (defScope sCkO) .none kV6 dc6 pm6 an6 cd6 ct6), sl6⟩) (c6 : PySem.W.codeIn K cd6 "check_order" = true) (k6 : PySem.W.keepIn K (.ref f6) = true)
    (a7 : PySem.W.nsIn K mainGlobals "make_in_order" = some (some (.ref f7))) (l7 : K.lookup f7 = some ⟨oc7, od7, .func (PySem.W.fnOf "make_in_order" "make_in_order" (defArgs sMake) (defBody sMake) (defScope sMake) .none kV7 dc7 pm7 an7 cd7 ct7), sl7⟩) (c7 : PySem.W.codeIn K cd7 "make_in_order" = true) (k7 : PySem.W.keepIn K (.ref f7) = true)
    (a8 : PySem.W.nsIn K mainGlobals "done" = some (some (.ref f8))) (l8 : K.lookup f8 = some ⟨oc8, od8, .func (PySem.W.fnOf "done" "done" (defArgs sDone) (defBody sDone) (defScope sDone) .none kV8 dc8 pm8 an8 cd8 ct8), sl8⟩) (c8 : PySem.W.codeIn K cd8 "done" = true) (k8 : PySem.W.keepIn K (.ref f8) = true)
    (a9 : PySem.W.nsIn K mainGlobals "starts" = some (some (.ref f9))) (l9 : K.lookup f9 = some ⟨oc9, od9, .func (PySem.W.fnOf "starts" "starts" (defArgs sStarts) (defBody sStarts) (defScope sStarts) .none kV9 dc9 pm9 an9 cd9 ct9), sl9⟩) (c9 : PySem.W.codeIn K cd9 "starts" = true) (k9 : PySem.W.keepIn K (.ref f9) = true)
    (a10 : PySem.W.nsIn K mainGlobals "_law_cell_at" = some (some (.ref f10))) (l10 : K.lookup f10 = some ⟨oc10, od10, .func (PySem.W.fnOf "_law_cell_at" "_law_cell_at" (defArgs sCell) (defBody sCell) (defScope sCell) .none kV10 dc10 pm10 an10 cd10 ct10), sl10⟩) (c10 : PySem.W.codeIn K cd10 "_law_cell_at" = true) (k10 : PySem.W.keepIn K (.ref f10) = true)
    (a11 : PySem.W.nsIn K mainGlobals "_law_draw" = some (some (.ref f11))) (l11 : K.lookup f11 = some ⟨oc11, od11, .func (PySem.W.fnOf "_law_draw" "_law_draw" (defArgs sDraw) (defBody sDraw) (defScope sDraw) .none kV11 dc11 pm11 an11 cd11 ct11), sl11⟩) (c11 : PySem.W.codeIn K cd11 "_law_draw" = true) (k11 : PySem.W.keepIn K (.ref f11) = true)
    (a12 : PySem.W.nsIn K mainGlobals "_law_things" = some (some (.ref f12))) (l12 : K.lookup f12 = some ⟨oc12, od12, .func (PySem.W.fnOf "_law_things" "_law_things" (defArgs sThings) (defBody sThings) (defScope sThings) .none kV12 dc12 pm12 an12 cd12 ct12), sl12⟩) (c12 : PySem.W.codeIn K cd12 "_law_things" = true) (k12 : PySem.W.keepIn K (.ref f12) = true)
    (a13 : PySem.W.nsIn K mainGlobals "_law_done" = some (some (.ref f13))) (l13 : K.lookup f13 = some ⟨oc13, od13, .func (PySem.W.fnOf "_law_done" "_law_done" (defArgs sLdone) (defBody sLdone) (defScope sLdone) .none kV13 dc13 pm13 an13 cd13 ct13), sl13⟩) (c13 : PySem.W.codeIn K cd13 "_law_done" = true) (k13 : PySem.W.keepIn K (.ref f13) = true)
    (a14 : PySem.W.nsIn K mainGlobals "_law_whole" = some (some (.ref f14))) (l14 : K.lookup f14 = some ⟨oc14, od14, .func (PySem.W.fnOf "_law_whole" "_law_whole" (defArgs sLwhole) (defBody sLwhole) (defScope sLwhole) .none kV14 dc14 pm14 an14 cd14 ct14), sl14⟩) (c14 : PySem.W.codeIn K cd14 "_law_whole" = true) (k14 : PySem.W.keepIn K (.ref f14) = true)
    (a15 : PySem.W.nsIn K mainGlobals "_law_drawn" = some (some (.ref f15))) (l15 : K.lookup f15 = some ⟨oc15, od15, .func (PySem.W.fnOf "_law_drawn" "_law_drawn" (defArgs sDrawn) (defBody sDrawn) (defScope sDrawn) .none kV15 dc15 pm15 an15 cd15 ct15), sl15⟩) (c15 : PySem.W.codeIn K cd15 "_law_drawn" = true) (k15 : PySem.W.keepIn K (.ref f15) = true)
    (a16 : PySem.W.nsIn K mainGlobals "law" = some (some (.ref f16))) (l16 : K.lookup f16 = some ⟨oc16, od16, .func (PySem.W.fnOf "law" "law" (defArgs sLaw) (defBody sLaw) (defScope sLaw) .none kV16 dc16 pm16 an16 cd16 ct16), sl16⟩) (c16 : PySem.W.codeIn K cd16 "law" = true) (k16 : PySem.W.keepIn K (.ref f16) = true)
    (z1 : PySem.W.nsIn K mainGlobals "isinstance" = some none)
    (z2 : PySem.W.nsIn K mainGlobals "int" = some none)
    (z3 : PySem.W.nsIn K mainGlobals "bool" = some none)
    (z4 : PySem.W.nsIn K mainGlobals "tuple" = some none)
    (z5 : PySem.W.nsIn K mainGlobals "len" = some none)
    (z6 : PySem.W.nsIn K mainGlobals "all" = some none)
    (z7 : PySem.W.nsIn K mainGlobals "list" = some none)
    (z8 : PySem.W.nsIn K mainGlobals "enumerate" = some none)
    (z9 : PySem.W.nsIn K mainGlobals "max" = some none)
    (z10 : PySem.W.nsIn K mainGlobals "range" = some none)
    (z11 : PySem.W.nsIn K mainGlobals "sum" = some none)
    : ∃ fd : FuncData, (∀ (s : Shared) (v : Value), BindsTo s fd ⟨[v], []⟩ [("_law_script", v)]) ∧ ∀ base : Heap, K.In base → base.Ns mainGlobals mg → FnOk l.prog w K mg base CX0 6 fa fd ["_law_script"] (spLaw K) := by
  have e := hfa.symm.trans (PySem.W.mg_of X G a16)
  cases e
  have F1 := fun_mk (st := sWhole) l1 c1 k1
  have b1 := F1.binds (ps := ["value"]) fun _ _ _ _ _ _ us hl => match us, hl with | [_], _ => rfl
  have m1 := PySem.W.mg_of X G a1
  have F2 := fun_mk (st := sLen) l2 c2 k2
  have b2 := F2.binds (ps := ["value"]) fun _ _ _ _ _ _ us hl => match us, hl with | [_], _ => rfl
  have m2 := PySem.W.mg_of X G a2
  have F3 := fun_mk (st := sThing) l3 c3 k3
  have b3 := F3.binds (ps := ["value"]) fun _ _ _ _ _ _ us hl => match us, hl with | [_], _ => rfl
  have m3 := PySem.W.mg_of X G a3
  have F4 := fun_mk (st := sOrder) l4 c4 k4
  have b4 := F4.binds (ps := ["value", "many"]) fun _ _ _ _ _ _ us hl => match us, hl with | [_, _], _ => rfl
  have m4 := PySem.W.mg_of X G a4
  have F5 := fun_mk (st := sCkT) l5 c5 k5
  have b5 := F5.binds (ps := ["things"]) fun _ _ _ _ _ _ us hl => match us, hl with | [_], _ => rfl
  have m5 := PySem.W.mg_of X G a5
  have F6 := fun_mk (st := sCkO) l6 c6 k6
  have b6 := F6.binds (ps := ["order", "many"]) fun _ _ _ _ _ _ us hl => match us, hl with | [_, _], _ => rfl
  have m6 := PySem.W.mg_of X G a6
  have F7 := fun_mk (st := sMake) l7 c7 k7
  have b7 := F7.binds (ps := ["things", "order"]) fun _ _ _ _ _ _ us hl => match us, hl with | [_, _], _ => rfl
  have m7 := PySem.W.mg_of X G a7
  have F8 := fun_mk (st := sDone) l8 c8 k8
  have b8 := F8.binds (ps := ["things", "order"]) fun _ _ _ _ _ _ us hl => match us, hl with | [_, _], _ => rfl
  have m8 := PySem.W.mg_of X G a8
  have F9 := fun_mk (st := sStarts) l9 c9 k9
  have b9 := F9.binds (ps := ["things", "order"]) fun _ _ _ _ _ _ us hl => match us, hl with | [_, _], _ => rfl
  have m9 := PySem.W.mg_of X G a9
  have F10 := fun_mk (st := sCell) l10 c10 k10
  have b10 := F10.binds (ps := ["_law_script", "_law_k"]) fun _ _ _ _ _ _ us hl => match us, hl with | [_, _], _ => rfl
  have m10 := PySem.W.mg_of X G a10
  have F11 := fun_mk (st := sDraw) l11 c11 k11
  have b11 := F11.binds (ps := ["_law_cell", "_law_k", "_law_many"]) fun _ _ _ _ _ _ us hl => match us, hl with | [_, _, _], _ => rfl
  have m11 := PySem.W.mg_of X G a11
  have F12 := fun_mk (st := sThings) l12 c12 k12
  have b12 := F12.binds (ps := ["_law_script"]) fun _ _ _ _ _ _ us hl => match us, hl with | [_], _ => rfl
  have m12 := PySem.W.mg_of X G a12
  have F13 := fun_mk (st := sLdone) l13 c13 k13
  have b13 := F13.binds (ps := ["_law_things_here", "_law_order_here"]) fun _ _ _ _ _ _ us hl => match us, hl with | [_, _], _ => rfl
  have m13 := PySem.W.mg_of X G a13
  have F14 := fun_mk (st := sLwhole) l14 c14 k14
  have b14 := F14.binds (ps := ["_law_number"]) fun _ _ _ _ _ _ us hl => match us, hl with | [_], _ => rfl
  have m14 := PySem.W.mg_of X G a14
  have F15 := fun_mk (st := sDrawn) l15 c15 k15
  have b15 := F15.binds (ps := ["_law_script", "_law_many"]) fun _ _ _ _ _ _ us hl => match us, hl with | [_, _], _ => rfl
  have m15 := PySem.W.mg_of X G a15
  have F16 := fun_mk (st := sLaw) l16 c16 k16
  have m16 := PySem.W.mg_of X G a16
  have T : Bn mg := ⟨PySem.W.mg_none_of X G z1, PySem.W.mg_none_of X G z2, PySem.W.mg_none_of X G z3, PySem.W.mg_none_of X G z4, PySem.W.mg_none_of X G z5, PySem.W.mg_none_of X G z6, PySem.W.mg_none_of X G z7, PySem.W.mg_none_of X G z8, PySem.W.mg_none_of X G z9, PySem.W.mg_none_of X G z10, PySem.W.mg_none_of X G z11⟩
  refine ⟨PySem.W.fnOf "law" "law" (defArgs sLaw) (defBody sLaw) (defScope sLaw) .none kV16 dc16 pm16 an16 cd16 ct16, fun s v => .of_eq rfl, fun base _ _ => ?_⟩
  have G1 : FnOk l.prog w K mg base CX0 1 _ _ _ _ := ok_whole F1 T
  have G2 : FnOk l.prog w K mg base CX0 2 _ _ _ _ := ok_len F2 T m1 F1 b1
  have G3 : FnOk l.prog w K mg base CX0 3 _ _ _ _ := ok_thing F3 T m2 F2 b2 G2
  have G4 : FnOk l.prog w K mg base CX0 2 _ _ _ _ := ok_order F4 T m1 F1 b1 G1
  have G5 : FnOk l.prog w K mg base CX0 4 _ _ _ _ := ok_ckT F5 T m3 F3 b3 G3
  have G6 : FnOk l.prog w K mg base CX0 3 _ _ _ _ := ok_ckO F6 m4 F4 b4 G4
  have G7 : FnOk l.prog w K mg base CX0 1 _ _ _ _ := ok_make F7 T
  have Ck : Cks K mg l.prog w base _ _ _ _ _ _ := ⟨m5, F5, b5, G5, m6, F6, b6, G6, m7, F7, b7, G7⟩
  have G8 : FnOk l.prog w K mg base CX0 5 _ _ _ _ := ok_done F8 T Ck
  have G9 : FnOk l.prog w K mg base CX0 5 _ _ _ _ := ok_starts F9 T Ck
  have G10 : FnOk l.prog w K mg base CX0 1 _ _ _ _ := ok_cell F10 T
  have G11 : FnOk l.prog w K mg base CX0 1 _ _ _ _ := ok_draw F11
  have G12 : FnOk l.prog w K mg base CX0 2 _ _ _ _ := ok_things F12 T m10 F10 b10 G10 m11 F11 b11 G11
  have G13 : FnOk l.prog w K mg base CX0 1 _ _ _ _ := ok_ldone F13 T
  have G14 : FnOk l.prog w K mg base CX0 1 _ _ _ _ := ok_lwhole F14 T
  have G15 : FnOk l.prog w K mg base CX0 2 _ _ _ _ := ok_drawn F15 T m10 F10 b10 G10 m11 F11 b11 G11
  exact ok_law F16 T ⟨m12, F12, b12, G12, m10, F10, b10, G10, m11, F11, b11, G11, m15, F15, b15, G15, m13, F13, b13, G13, m14, F14, b14, G14, m8, F8, b8, G8, m9, F9, b9, G9⟩
end Bp
open PySem PySem.W PyProof.Rows
set_option maxRecDepth 100000 in
set_option maxHeartbeats 0 in
theorem PySem.Challenge.cw_benchpair_k03_times_holds : PySem.Challenge.rw_benchpair_k03_times.Holds := by
  w_on; o_law; k_head; (case hw => w_witness2)
  k_fill
  refine L2.walk_of (l := PySem.Challenge.rw_benchpair_k03_times) (n := 63) (k := 6) (x := "_law_script") (CX := fun _ => L2.CX0) (sp := fun w => Bp.spLaw _) rfl (by decide) rfl ⟨rfl, by decide, by decide⟩ (fun w h Y => PySem.W.kIn_of Y) ?F (fun _ _ a ns hl _ hS => ⟨a, ns, rfl, hS, hl, fun _ => rfl⟩) (fun _ _ _ _ _ h => h)
  case F =>
    intro w mg fa h KX G hmg
    refine' Bp.all_mk KX G hmg ?a1 ?l1 ?c1 ?k1 ?a2 ?l2 ?c2 ?k2 ?a3 ?l3 ?c3 ?k3 ?a4 ?l4 ?c4 ?k4 ?a5 ?l5 ?c5 ?k5 ?a6 ?l6 ?c6 ?k6 ?a7 ?l7 ?c7 ?k7 ?a8 ?l8 ?c8 ?k8 ?a9 ?l9 ?c9 ?k9 ?a10 ?l10 ?c10 ?k10 ?a11 ?l11 ?c11 ?k11 ?a12 ?l12 ?c12 ?k12 ?a13 ?l13 ?c13 ?k13 ?a14 ?l14 ?c14 ?k14 ?a15 ?l15 ?c15 ?k15 ?a16 ?l16 ?c16 ?k16 ?z1 ?z2 ?z3 ?z4 ?z5 ?z6 ?z7 ?z8 ?z9 ?z10 ?z11
    (case a1 => k_is)
    (case l1 => k_is)
    (case c1 => k_is)
    (case k1 => k_is)
    (case a2 => k_is)
    (case l2 => k_is)
    (case c2 => k_is)
    (case k2 => k_is)
    (case a3 => k_is)
    (case l3 => k_is)
    (case c3 => k_is)
    (case k3 => k_is)
    (case a4 => k_is)
    (case l4 => k_is)
    (case c4 => k_is)
    (case k4 => k_is)
    (case a5 => k_is)
    (case l5 => k_is)
    (case c5 => k_is)
    (case k5 => k_is)
    (case a6 => k_is)
    (case l6 => k_is)
    (case c6 => k_is)
    (case k6 => k_is)
    (case a7 => k_is)
    (case l7 => k_is)
    (case c7 => k_is)
    (case k7 => k_is)
    (case a8 => k_is)
    (case l8 => k_is)
    (case c8 => k_is)
    (case k8 => k_is)
    (case a9 => k_is)
    (case l9 => k_is)
    (case c9 => k_is)
    (case k9 => k_is)
    (case a10 => k_is)
    (case l10 => k_is)
    (case c10 => k_is)
    (case k10 => k_is)
    (case a11 => k_is)
    (case l11 => k_is)
    (case c11 => k_is)
    (case k11 => k_is)
    (case a12 => k_is)
    (case l12 => k_is)
    (case c12 => k_is)
    (case k12 => k_is)
    (case a13 => k_is)
    (case l13 => k_is)
    (case c13 => k_is)
    (case k13 => k_is)
    (case a14 => k_is)
    (case l14 => k_is)
    (case c14 => k_is)
    (case k14 => k_is)
    (case a15 => k_is)
    (case l15 => k_is)
    (case c15 => k_is)
    (case k15 => k_is)
    (case a16 => k_is)
    (case l16 => k_is)
    (case c16 => k_is)
    (case k16 => k_is)
    (case z1 => k_is)
    (case z2 => k_is)
    (case z3 => k_is)
    (case z4 => k_is)
    (case z5 => k_is)
    (case z6 => k_is)
    (case z7 => k_is)
    (case z8 => k_is)
    (case z9 => k_is)
    (case z10 => k_is)
    (case z11 => k_is)
